import Derived.Test.YtahnjkkgojfdmaaGreatDoorGrpE
set_option maxRecDepth 100000
set_option maxHeartbeats 16000000
set_option linter.unusedVariables false
namespace Go.Proofs.YtahnjkkgojfdmaaGreatDoor
open Go.IntKind(i64)
open Go.Value(int slice bool)
section
open Go.RowKit Mem Rg
def zec(ns:List Int)(k:Nat):Prop:=∀ h:k<ns.length,(0<=ns[k]/\ns[k]<=1048575)/\∀ t (h2:t<ns.length),t+1=k->ns[t]<ns[k]
theorem zoC{ns:List Int}{e k:Int}(ok:OkR ns e k)(i:Nat):zec ns i:=fun h=>by
 obtain⟨g,o,j,l,d,m,a,b⟩:=ok;exact⟨a _ (List.getElem_mem h),fun t c e=>znf b t i c h (by omega)⟩
theorem zvh{ns:List Int}{e k:Int}(c:1<=ns.length)(m:ns.length<=64)(g:1<=e)(b:e<=64)(l:1<=k)(d:k<=ns.length)(h:∀ i,i<ns.length->zec ns i):OkR ns e k:=
 ⟨c,m,g,b,l,d,fun x j=>by
  obtain⟨i,a,rfl⟩:=List.getElem_of_mem j;exact(h i a a).1,zqX ns fun i a=>(h (i+1) a a).2 i (by omega) rfl⟩
theorem zhy(A:Option Addr)(n c:Nat)(ns:List Int)(e k:Int)(B:n=ns.length)(hl:n<=maxLen)(w:World)(h:Row w w.heap.size A (ns.map iV)) :
 Calls Tryz.prog 48 #[.agg #[slice A n c,int i64 e,int i64 k]] w fun x w'=>(∃ q,x=.returned (int i64 q)/\(OkR ns e k->q=0)/\(¬ OkR ns e k->q=2))/\Below w.heap.size w w':=by
 have v:Below w.heap.size w (w.alloc (.cells #[slice A n c,int i64 e,int i64 k] 49)):=zbl;have C:=zhd v;unfold maxLen at hl;have g:Hid (∀ W,¬ OkR ns e k->Below w.heap.size w W->(∃ q,Ending.returned (int i64 2)=.returned (int i64 q)/\(OkR ns e k->q=0)/\(¬ OkR ns e k->q=2))/\Below w.heap.size w W):=zhd fun W hb h=>⟨⟨2,rfl,fun h=>absurd h hb,fun _=>rfl⟩,h⟩;by_cases o1:(n:Int)<1
 ·have a:=zhd (show ¬ OkR ns e k from fun ok=>by have:=ok.1;omega);clear h B v;go_enter Tryz.func48,Tryz.ntmps48
  go_wp2;go_ret;exact g.out _ a.out C.out
 by_cases o2:(64:Int)<(n:Int)
 ·have a:=zhd (show ¬ OkR ns e k from fun ok=>by have:=ok.2.1;omega);clear h B v;go_enter Tryz.func48,Tryz.ntmps48
  go_wp2;go_ret;exact g.out _ a.out C.out
 by_cases o3:e<1
 ·have a:=zhd (show ¬ OkR ns e k from fun ok=>by have:=ok.2.2.1;omega);clear h B v;go_enter Tryz.func48,Tryz.ntmps48
  go_wp2;go_ret;exact g.out _ a.out C.out
 by_cases o4:64<e
 ·have a:=zhd (show ¬ OkR ns e k from fun ok=>by have:=ok.2.2.2.1;omega);clear h B v;go_enter Tryz.func48,Tryz.ntmps48
  go_wp2;go_ret;exact g.out _ a.out C.out
 by_cases o5:k<1
 ·have a:=zhd (show ¬ OkR ns e k from fun ok=>by have:=ok.2.2.2.2.1;omega);clear h B v;go_enter Tryz.func48,Tryz.ntmps48
  go_wp2;go_ret;exact g.out _ a.out C.out
 by_cases o6:(n:Int)<k
 ·have a:=zhd (show ¬ OkR ns e k from fun ok=>by have:=ok.2.2.2.2.2.1;omega);clear h B v;go_enter Tryz.func48,Tryz.ntmps48
  go_wp2;go_ret;exact g.out _ a.out C.out
 have M:Blk (w.alloc (.cells #[slice A n c,int i64 e,int i64 k] 49)) w.heap.size 49 #[slice A n c,int i64 e,int i64 k]:=Blk.new _ _ _;obtain⟨E,K⟩:∃ E,w.alloc (.cells #[slice A n c,int i64 e,int i64 k] 49)=E:=⟨_,rfl⟩;have ak:Hid (Row E w.heap.size A (ns.map iV)):=zhd (by rw [<-K];exact h.below v);rw [K] at M C;have al:=zhd M;have X:=zhd B;have ag:Hid ((∀ i,i<ns.length->zec ns i)->OkR ns e k):=zhd fun h=>zvh (by omega) (by omega) (by omega) (by omega) (by omega) (by omega) h;have a:Hid (∀ i,¬ zec ns i->¬ OkR ns e k):=zhd fun i h ok=>h (zoC ok i);have aq:(n:Int)<=64:=by omega
 have HW:=zhd K;clear h B v M K;go_enter Tryz.func48,Tryz.ntmps48
 go_wp2;rw [HW.out];go_loopw [4] (fun i wr=>∃ j:Nat,j<=n/\i=int i64 j/\Hid (∃ q,wr=E.drewN q)/\Hid (∀ i,i<j->zec ns i)) (fun i _=>n - (intOf i).toNat)
 case atStart=>exact⟨0,by omega,rfl,zhd ⟨0,rfl⟩,zhd fun i h=>absurd h (Nat.not_lt_zero _)⟩
 case round=>
  obtain⟨j,hj,rfl,I,aa⟩:=hrel;have T:Hid (Below w.heap.size w wr):=zhd (C.out.trans (zlw I.out));by_cases au:j<n
  ·have F:j<ns.length:=by have:=X.out;omega
   have d0:wr.cell? ⟨w.heap.size,0,none⟩=some (slice A n c):=by obtain⟨q,hq⟩:=I.out;rw [hq];exact al.out.cell 0
   obtain⟨b,o,rfl,_,hc⟩:=zcP (zcW ak.out I.out) (by omega);have J:=hc j F;have ah:(0:Int)<=(j:Int):=by omega
   have aj:(j:Int)<(n:Int):=by omega
   have S:Hid (zec ns j->∀ i,i<j+1->zec ns i):=zhd fun h i hi=>by
    rcases Nat.lt_or_ge i j with p|p
    ·exact aa.out i p
    ·obtain rfl:i=j:=by omega
     exact h
   have U:Hid (∀ m,∃ q,wr.drewN m=E.drewN q):=zhd fun m=>by obtain⟨q,hq⟩:=I.out;exact⟨_,by rw [hq];exact World.drewN_drewN _ _ _⟩
   have G:Hid (∀ m,Below w.heap.size w (wr.drewN m)):=zhd fun m=>T.out.trans (zaU _ _ _);rcases j with _|t
   ·have D:Hid (0<=ns[0]->ns[0]<=1048575->zec ns 0):=zhd fun p l _=>⟨⟨p,l⟩,fun t l e=>by omega⟩;have r:Hid (¬ (0<=ns[0]/\ns[0]<=1048575)->¬ zec ns 0):=zhd fun p l=>p (l F).1
    generalize ns[0]=y at J D r
    rw [Nat.add_zero] at J;clear hc;by_cases d:y<0
    ·have u:=zhd (a.out 0 (r.out (by omega)));have R:decide (y<0)=true:=by simpa using d
     clear d;go_wp2;go_quiet (fail)
     go_wp2;go_ret;exact g.out _ u.out (G.out _)
    ·have R:decide (y<0)=false:=by simpa using d
     by_cases s:1048575<y
     ·have u:=zhd (a.out 0 (r.out (by omega)));have L:decide (1048575<y)=true:=by simpa using s
      clear d s;go_wp2;go_quiet (fail)
      go_wp2;go_ret;exact g.out _ u.out (G.out _)
     ·have Q:=zhd (S.out (D.out (by omega) (by omega)));have L:decide (1048575<y)=false:=by simpa using s
      clear d s;go_wp2;go_quiet (fail)
      go_wp2;go_roundw
      case rel=>exact⟨1,by omega,rfl,zhd (U.out _),Q⟩
      case measure=>simp [intOf];omega
   ·have ae:=hc t (by omega);have D:Hid (0<=ns[t+1]->ns[t+1]<=1048575->ns[t]<ns[t+1]->zec ns (t+1)):=zhd fun p l h3 _=>⟨⟨p,l⟩,fun t' l e=>by
     obtain rfl:t'=t:=by omega
     exact h3⟩
    have r:Hid (¬ (0<=ns[t+1]/\ns[t+1]<=1048575/\ns[t]<ns[t+1])->¬ zec ns (t+1)):=zhd fun p l=>p ⟨(l F).1.1,(l F).1.2,(l F).2 t (by omega) rfl⟩;obtain⟨y,V⟩:∃ y,ns[t+1]=y:=⟨_,rfl⟩;obtain⟨z,Z⟩:∃ z,ns[t]'(by omega)=z:=⟨_,rfl⟩;rw [V] at J D r;rw [Z] at ae D r;obtain⟨m,N⟩:∃ m,t+1=m:=⟨_,rfl⟩;rw [N] at J D r aj ah S hj;have ax:=zhd N;have am:IntKind.i64.wrap ((m:Int) - 1)=(t:Int):=by rw [show(m:Int) - 1=(t:Int) by omega];exact IntWalk.i64_in _ (by omega)
    have O:(m:Int) - 1=(t:Int):=by omega
    have ao:(0:Int)<=(t:Int):=by omega
    have an:(t:Int)<(n:Int):=by omega
    have aw:(0:Int)<(m:Int):=by omega
    have ai:0<m:=by omega
    have ay:decide (0<m)=true:=by simpa using ai
    have af:((t:Int)+1)=(m:Int):=by omega
    have Y:((t+1:Nat):Int)=(m:Int):=by omega
    rw [Y];clear hc V Z N Y af;by_cases d:y<0
    ·have u:=zhd (a.out m (r.out (by omega)));have R:decide (y<0)=true:=by simpa using d
     clear O d;go_wp2;go_quiet (fail)
     go_wp2;go_ret;exact g.out _ u.out (G.out _)
    ·have R:decide (y<0)=false:=by simpa using d
     by_cases s:1048575<y
     ·have u:=zhd (a.out m (r.out (by omega)));have L:decide (1048575<y)=true:=by simpa using s
      clear O d s;go_wp2;go_quiet (fail)
      go_wp2;go_ret;exact g.out _ u.out (G.out _)
     ·have L:decide (1048575<y)=false:=by simpa using s
      by_cases a3:y<=z
      ·have u:=zhd (a.out m (r.out (by omega)));have b3:decide (y<=z)=true:=by simpa using a3
       clear d s a3;go_wp2;go_quiet (fail)
       go_wp2;go_ret;exact g.out _ u.out (G.out _)
      ·have Q:=zhd (S.out (D.out (by omega) (by omega) (by omega)));have b3:decide (y<=z)=false:=by simpa using a3
       clear d s a3;go_wp2;go_quiet (fail)
       clear am O;go_wp2;go_roundw
       case rel=>exact⟨m+1,by omega,by go_num,zhd (U.out _),Q⟩
       case measure=>simp [intOf];omega
  ·obtain rfl:j=n:=by omega
   have ab:Hid ((∃ q,Ending.returned (int i64 0)=.returned (int i64 q)/\(OkR ns e k->q=0)/\(¬ OkR ns e k->q=2))/\Below w.heap.size w wr):=zhd ⟨⟨0,rfl,fun _=>rfl,fun h=>absurd (ag.out (by rw [<-X.out];exact aa.out)) h⟩,T.out⟩;go_wp2;go_ret;exact ab.out
end
section
open Go.RowKit Mem Be Rg
theorem zbw(n m:Int)(w:World):Calls Tryz.prog 46 #[int i64 n,int i64 m] w fun e w'=>e=.returned (bool (inR n m))/\w=w':=by
 by_cases h:0<=n
 ·by_cases a:n<=m
  ·rw [show inR n m=true from decide_eq_true ⟨h,a⟩];go_enter Tryz.func46,Tryz.ntmps46
   go_wp2;go_ret;exact⟨rfl,rfl⟩
  ·rw [show inR n m=false from decide_eq_false (by omega)];have b:decide (n<=m)=false:=decide_eq_false a;clear a;go_enter Tryz.func46,Tryz.ntmps46
   go_wp2;go_ret;exact⟨rfl,rfl⟩
 ·rw [show inR n m=false from decide_eq_false (by omega)];have b:n<0:=by omega
  clear h;go_enter Tryz.func46,Tryz.ntmps46
  go_wp2;go_ret;exact⟨rfl,rfl⟩
theorem zeA(x:EV)(a:(x.1.v.length:Int)<=9223372036854775807)(b:(x.1.k.length:Int)<=9223372036854775807)(w:World) :
 Calls Tryz.prog 30 #[.agg #[.string ⟨x.1.k.toArray⟩,int i64 x.1.s,int i64 x.1.u,int i64 x.1.o,bool x.1.has,slice x.2.1 x.1.v.length x.2.2]] w (IsI (zav x.1.k.length x.1.v.length x.1.s x.1.u x.1.o x.1.has) w):=by
 have:=zcF ⟨x.1.k.toArray⟩ x.1.s x.1.u x.1.o x.1.has x.2.1 x.1.v.length x.2.2 a (by rw [zes];exact b) w;rw [zes] at this;exact this
def k5(m:MsgP):Bool:=(!zfO m.kind&&decide (0<m.n))||((!zf2 m.kind&&m.flag)||((!zf3 m.kind&&decide (0<m.l.length))||decide (1000<m.l.length)))
def k13(m:MsgP):Bool:=if zh5 m.kind=true then !decide (okE m.e) else !decide (noE m.e)
def k15(m:MsgP):Bool:=if zkT m.kind=true then !decide (OkR m.ns m.each m.keep) else !decide (m.ns=[]/\m.each=0/\m.keep=0)
theorem zww{m:MsgP}(k:zg2 m=true)(h:inR m.n 1099511627775=true):okM m=(!k5 m&&(zjp m.l&&(!k13 m&&!k15 m))):=by
 have q:zcI (zfO m.kind) (rN m) (bN m)=!(!zfO m.kind&&decide (0<m.n)):=by
  unfold zcI rN bN;rw [h];obtain⟨p,_⟩:=zuY.1 h;cases zfO m.kind
  ·by_cases g:m.n=0
   ·rw [g];rfl
   ·have:0<m.n:=by omega
    simp [g,this]
  ·rfl
 have e2:zcI (zf2 m.kind) true (bF m)=!(!zf2 m.kind&&m.flag):=by
  unfold zcI bF;cases zf2 m.kind<;>cases m.flag<;>rfl
 have e3:zcI (zh5 m.kind) (rE m) (bE m)=!k13 m:=by
  unfold zcI rE bE k13;cases zh5 m.kind<;>simp
 have r:zcI (zkT m.kind) (rR m) (bR m)=!k15 m:=by
  unfold zcI rR bR k15;cases zkT m.kind
  ·simp only [Bool.false_eq_true,if_false,Bool.not_not]
  ·simp only [if_true,Bool.not_not]
 have i:zcI (zf3 m.kind) (rL m) (bL m)=(!((!zf3 m.kind&&decide (0<m.l.length))||decide (1000<m.l.length))&&zjp m.l):=by
  unfold zcI rL bL;cases zf3 m.kind
  ·by_cases g:m.l=[]
   ·rw [g];rfl
   ·have j:0<m.l.length:=List.length_pos_iff.2 g;have o:(m.l.length==0)=false:=by rw [beq_eq_false_iff_ne];omega
    rw [o,decide_eq_true j];rfl
  ·by_cases g:m.l.length<=1000
   ·rw [decide_eq_true g,decide_eq_false (show ¬ 1000<m.l.length by omega)];simp
   ·rw [decide_eq_false g,decide_eq_true (show 1000<m.l.length by omega)];simp
 unfold okM k5;rw [k,q,e2,e3,i,r]
 generalize (!zfO m.kind&&decide (0<m.n))=a
 generalize (!zf2 m.kind&&m.flag)=b
 generalize ((!zf3 m.kind&&decide (0<m.l.length))||decide (1000<m.l.length))=c
 generalize zjp m.l=d
 generalize k13 m=e
 generalize k15 m=f
 cases a<;>cases b<;>cases c<;>cases d<;>cases e<;>cases f<;>rfl
theorem ztt{m:MsgP}(h:inR m.n 1099511627775=false):okM m=false:=by
 cases ho:okM m
 ·rfl
 ·obtain⟨_,a,_⟩:=zq0 ho;unfold zcI rN bN at a;split at a
  ·rw [h] at a;cases a
  ·have:m.n=0:=by simpa using a
   rw [this] at h;exact absurd h (by decide)
theorem zml{k:Int}(h:exK k=true):(zfO k=false/\zf2 k=false/\zf3 k=false)\/(zfO k=true/\zf2 k=true/\zf3 k=false)\/(zfO k=true/\zf2 k=false/\zf3 k=false)\/(zfO k=true/\zf2 k=true/\zf3 k=true):=by
 have key:∀ i:Fin 18,1<=i.val->(zfO (i.val:Int)=false/\zf2 (i.val:Int)=false/\zf3 (i.val:Int)=false)\/(zfO (i.val:Int)=true/\zf2 (i.val:Int)=true/\zf3 (i.val:Int)=false)\/(zfO (i.val:Int)=true/\zf2 (i.val:Int)=false/\zf3 (i.val:Int)=false)\/(zfO (i.val:Int)=true/\zf2 (i.val:Int)=true/\zf3 (i.val:Int)=true):=by decide+kernel
 obtain⟨b,a⟩:=zdi h;have:=key ⟨k.toNat,by omega⟩ (by show 1<=k.toNat;omega);have e:((k.toNat:Nat):Int)=k:=by omega
 simp only [e] at this;exact this
theorem zdB(x:MV)(w:World)(h:MsgM w x):Calls Tryz.prog 19 #[.agg #[int i64 x.kind,int i64 x.fr,int i64 x.dst,int i64 x.ep,int i64 x.op,int i64 x.n,bool x.flag,.string ⟨x.e.1.k.toArray⟩,int i64 x.e.1.s,int i64 x.e.1.u,int i64 x.e.1.o,bool x.e.1.has,slice x.e.2.1 x.e.1.v.length x.e.2.2,slice x.lA x.l.length x.lc,slice x.rA x.ns.length x.rc,int i64 x.each,int i64 x.keep]] w (IsI (zbr (mP x)) w):=by
 have hb:Below w.heap.size w (w.alloc (.cells #[int i64 x.kind,int i64 x.fr,int i64 x.dst,int i64 x.ep,int i64 x.op,int i64 x.n,bool x.flag,.string ⟨x.e.1.k.toArray⟩,int i64 x.e.1.s,int i64 x.e.1.u,int i64 x.e.1.o,bool x.e.1.has,slice x.e.2.1 x.e.1.v.length x.e.2.2,slice x.lA x.l.length x.lc,slice x.rA x.ns.length x.rc,int i64 x.each,int i64 x.keep] 51)):=zbl;have B:=zhd (Blk.new w 51 #[int i64 x.kind,int i64 x.fr,int i64 x.dst,int i64 x.ep,int i64 x.op,int i64 x.n,bool x.flag,.string ⟨x.e.1.k.toArray⟩,int i64 x.e.1.s,int i64 x.e.1.u,int i64 x.e.1.o,bool x.e.1.has,slice x.e.2.1 x.e.1.v.length x.e.2.2,slice x.lA x.l.length x.lc,slice x.rA x.ns.length x.rc,int i64 x.each,int i64 x.keep]);have HM:=zhd (h.below hb);have T:=zhd hb;obtain⟨W,hW⟩:∃ W,w.alloc (.cells #[int i64 x.kind,int i64 x.fr,int i64 x.dst,int i64 x.ep,int i64 x.op,int i64 x.n,bool x.flag,.string ⟨x.e.1.k.toArray⟩,int i64 x.e.1.s,int i64 x.e.1.u,int i64 x.e.1.o,bool x.e.1.has,slice x.e.2.1 x.e.1.v.length x.e.2.2,slice x.lA x.l.length x.lc,slice x.rA x.ns.length x.rc,int i64 x.each,int i64 x.keep] 51)=W:=⟨_,rfl⟩;rw [hW] at B HM T;obtain⟨R,hR⟩:∃ R,zbr (mP x)=R:=⟨_,rfl⟩;rw [hR];have c0:=B.out.cell 0;have c1:=B.out.cell 1;have c2:=B.out.cell 2;have c3:=B.out.cell 3;have c4:=B.out.cell 4;have c5:=B.out.cell 5;clear h hb;cases hk:exK x.kind
 ·have N:Hid (R=2):=zhd (hR.symm.trans (zbv (znj (m:=mP x) hk)));rcases zfq hk with h1|h1
  ·clear hk hR;go_enter Tryz.func19,Tryz.ntmps19
   go_wp2;go_ret;exact zal N.out.symm T.out
  ·have h0:1<=x.kind:=by omega
   clear hk hR;go_enter Tryz.func19,Tryz.ntmps19
   go_wp2;go_ret;exact zal N.out.symm T.out
 obtain⟨bU,cd⟩:=zdi hk;have aR:=zhd hk;have af:=zhd hR;have aj:=zhd fun M=>zrf x.kind M;have al:=zhd fun M=>zrg x.kind M;have aq:=zhd fun M=>zkC x.kind M;have ai:=zhd fun M=>zrh x.kind M;have aD:=zhd fun M=>zri x.kind M;have bz:Hid (∃ g,zfO x.kind=g):=zhd ⟨_,rfl⟩;clear hk hR;go_enter Tryz.func19,Tryz.ntmps19
 go_wp2_with fail
 refine(zbw x.fr 1048575 W).mono ?_;rintro e w' ⟨rfl,rfl⟩;cases hf:inR x.fr 1048575
 ·have N:Hid (R=2):=zhd (af.out.symm.trans (zbv (znk (m:=mP x) hf)))
  as_aux_lemma=>
  clear hf;go_wp2;go_ret;exact zal N.out.symm T.out
 have If:=zhd hf;clear hf;go_wp2_with fail
 refine(zbw x.dst 1048575 W).mono ?_;rintro e w' ⟨rfl,rfl⟩;cases hd:inR x.dst 1048575
 ·have N:Hid (R=2):=zhd (af.out.symm.trans (zbv (znl (m:=mP x) hd)))
  as_aux_lemma=>
  clear hd;go_wp2;go_ret;exact zal N.out.symm T.out
 have Id:=zhd hd;clear hd;go_wp2_with fail
 refine(zbw x.ep 1099511627775 W).mono ?_;rintro e w' ⟨rfl,rfl⟩;cases he:inR x.ep 1099511627775
 ·have N:Hid (R=2):=zhd (af.out.symm.trans (zbv (znm (m:=mP x) he)))
  as_aux_lemma=>
  clear he;go_wp2;go_ret;exact zal N.out.symm T.out
 have Ie:=zhd he;clear he;go_wp2_with fail
 refine(zbw x.op 1099511627775 W).mono ?_;rintro e w' ⟨rfl,rfl⟩;cases ho:inR x.op 1099511627775
 ·have N:Hid (R=2):=zhd (af.out.symm.trans (zbv (znn (m:=mP x) ho)))
  as_aux_lemma=>
  clear ho;go_wp2;go_ret;exact zal N.out.symm T.out
 have Io:=zhd ho;clear ho;go_wp2_with fail
 refine(zbw x.n 1099511627775 W).mono ?_;rintro e w' ⟨rfl,rfl⟩;cases hn:inR x.n 1099511627775
 ·have N:Hid (R=2):=zhd (af.out.symm.trans (zbv (ztt (m:=mP x) hn)))
  as_aux_lemma=>
  clear hn;go_wp2;go_ret;exact zal N.out.symm T.out
 have In:=zhd hn;clear hn;have hh:zg2 (mP x)=true:=by
  unfold zg2;show(exK x.kind&&inR x.fr 1048575&&inR x.dst 1048575&&inR x.ep 1099511627775&&inR x.op 1099511627775)=true
  rw [aR.out,If.out,Id.out,Ie.out,Io.out];rfl
 have bd:=zww (m:=mP x) hh In.out;have aM:R=if(!k5 (mP x)&&(zjp (mP x).l&&(!k13 (mP x)&&!k15 (mP x))))=true then 0 else 2:=by rw [<-af.out,<-bd];rfl
 obtain⟨q5,aW⟩:∃ q,k5 (mP x)=q:=⟨_,rfl⟩;obtain⟨qa,ao⟩:∃ q,zjp (mP x).l=q:=⟨_,rfl⟩;obtain⟨aV,aP⟩:∃ q,k13 (mP x)=q:=⟨_,rfl⟩;obtain⟨ax,aY⟩:∃ q,k15 (mP x)=q:=⟨_,rfl⟩;rw [aW,ao,aP,aY] at aM;have aH:=zhd aM;have Q:Hid (((!zfO x.kind&&decide (0<x.n))||((!zf2 x.kind&&x.flag)||((!zf3 x.kind&&decide (0<x.l.length))||decide (1000<x.l.length))))=q5):=zhd (by rw [<-aW];unfold k5;show _=_;unfold mP;simp only [List.length_map]);have aQ:Hid ((qa=true↔∀ y∈x.l,okE y.1)):=zhd (by
  rw [<-ao,zi7];exact⟨fun h y hy=>h _ (List.mem_map_of_mem hy),fun h z hz=>by obtain⟨y,hy,rfl⟩:=List.mem_map.1 hz;exact h y hy⟩)
 have am:Hid ((if zh5 x.kind=true then !decide (okE x.e.1) else !decide (noE x.e.1))=aV):=zhd aP;have ay:Hid ((if zkT x.kind=true then !decide (OkR x.ns x.each x.keep) else !decide (x.ns=[]/\x.each=0/\x.keep=0))=ax):=zhd aY;have aa:=zhd (zml aR.out)
 generalize zfO x.kind=gN at Q aj aa
 generalize zf2 x.kind=gF at Q al aa
 generalize zf3 x.kind=gL at Q ai aa
 generalize zh5 x.kind=gE at am aq
 generalize zkT x.kind=gR at ay aD
 obtain⟨fl,aL⟩:∃ b,x.flag=b:=⟨_,rfl⟩;have U:=zhd aL;rw [aL] at Q;have aZ:=HM.out.ln;unfold maxLen at aZ;have bV:(0:Int)<=(x.l.length:Int):=by omega
 have bT:(x.l.length:Int)<=9223372036854775807:=by omega
 have az:Hid (decide ((1000:Int)<(x.l.length:Int))=decide (1000<x.l.length)):=zhd (decide_eq_decide.2 (by omega));clear hh bd aM aW ao aP aY aL aZ aR af bz;go_upto_region 5 with fail
 go_cut [77] (fun t wx=>t=bool q5/\Hid (Below W.heap.size W wx))
 case first=>
  rcases aa.out with⟨rfl,rfl,rfl⟩|⟨rfl,rfl,rfl⟩|⟨rfl,rfl,rfl⟩|⟨rfl,rfl,rfl⟩
  ·clear aa;go_wp2_with fail
   refine(aj.out W).mono ?_;rintro e F ⟨rfl,I⟩;have C:Below W.heap.size W F:=((Below.refl W.heap.size W)).trans (I.mono ((Below.refl W.heap.size W)).size);have c:=B.out.below C B.out.lt;have O:=c.cell 0;have X:=c.cell 5;have Z:F.cell? ⟨w.heap.size,6,none⟩=some (bool fl):=(c.cell 6).trans (by rw [<-U.out];rfl);have S:=c.cell 13;clear I c;by_cases hp:0<x.n
   ·
    as_aux_lemma=>
    go_wp2;go_meet
    exact⟨congrArg Value.bool (by rw [<-Q.out];simp [hp]),zhd C⟩
   have bZ:x.n<=0:=by omega
   clear hp;go_wp2_with fail
   refine(al.out F).mono ?_;rintro e E ⟨rfl,J⟩;have A:Below W.heap.size W E:=(C).trans (J.mono (C).size);have d:=B.out.below A B.out.lt;have O:=d.cell 0;have X:=d.cell 5;have Z:E.cell? ⟨w.heap.size,6,none⟩=some (bool fl):=(d.cell 6).trans (by rw [<-U.out];rfl);have S:=d.cell 13;clear J d;cases fl
   case true=>
    as_aux_lemma=>
    go_wp2;go_meet
    exact⟨congrArg Value.bool (by rw [<-Q.out];simp [(show ¬ 0<x.n by omega)]),zhd A⟩
   case false=>
   go_wp2_with fail
   refine(ai.out E).mono ?_;rintro e w4 ⟨rfl,L⟩;have K:Below W.heap.size W w4:=(A).trans (L.mono (A).size);have D:=B.out.below K B.out.lt;have O:=D.cell 0;have X:=D.cell 5;have Z:w4.cell? ⟨w.heap.size,6,none⟩=some (bool false):=(D.cell 6).trans (by rw [<-U.out];rfl);have S:=D.cell 13;clear L D;by_cases hz:0<x.l.length
   ·have ah:(0:Int)<(x.l.length:Int):=by omega
    as_aux_lemma=>
    go_wp2;go_meet
    exact⟨congrArg Value.bool (by rw [<-Q.out];simp [(show ¬ 0<x.n by omega),hz]),zhd K⟩
   have ah:(x.l.length:Int)<=0:=by omega
   as_aux_lemma=>
   go_wp2;go_meet
   exact⟨congrArg Value.bool (by rw [<-Q.out,az.out];simp [(show ¬ 0<x.n by omega),(show ¬ 0<x.l.length by omega)]),zhd K⟩
  ·clear aa;go_wp2_with fail
   refine(aj.out W).mono ?_;rintro e F ⟨rfl,I⟩;have C:Below W.heap.size W F:=((Below.refl W.heap.size W)).trans (I.mono ((Below.refl W.heap.size W)).size);have c:=B.out.below C B.out.lt;have O:=c.cell 0;have X:=c.cell 5;have Z:F.cell? ⟨w.heap.size,6,none⟩=some (bool fl):=(c.cell 6).trans (by rw [<-U.out];rfl);have S:=c.cell 13;clear I c;go_wp2_with fail
   refine(al.out F).mono ?_;rintro e E ⟨rfl,J⟩;have A:Below W.heap.size W E:=(C).trans (J.mono (C).size);have d:=B.out.below A B.out.lt;have O:=d.cell 0;have X:=d.cell 5;have Z:E.cell? ⟨w.heap.size,6,none⟩=some (bool fl):=(d.cell 6).trans (by rw [<-U.out];rfl);have S:=d.cell 13;clear J d;go_wp2_with fail
   refine(ai.out E).mono ?_;rintro e w4 ⟨rfl,L⟩;have K:Below W.heap.size W w4:=(A).trans (L.mono (A).size);have D:=B.out.below K B.out.lt;have O:=D.cell 0;have X:=D.cell 5;have Z:w4.cell? ⟨w.heap.size,6,none⟩=some (bool fl):=(D.cell 6).trans (by rw [<-U.out];rfl);have S:=D.cell 13;clear L D;by_cases hz:0<x.l.length
   ·have ah:(0:Int)<(x.l.length:Int):=by omega
    as_aux_lemma=>
    go_wp2;go_meet
    exact⟨congrArg Value.bool (by rw [<-Q.out];simp [hz]),zhd K⟩
   have ah:(x.l.length:Int)<=0:=by omega
   as_aux_lemma=>
   go_wp2;go_meet
   exact⟨congrArg Value.bool (by rw [<-Q.out,az.out];simp [(show ¬ 0<x.l.length by omega)]),zhd K⟩
  ·clear aa;go_wp2_with fail
   refine(aj.out W).mono ?_;rintro e F ⟨rfl,I⟩;have C:Below W.heap.size W F:=((Below.refl W.heap.size W)).trans (I.mono ((Below.refl W.heap.size W)).size);have c:=B.out.below C B.out.lt;have O:=c.cell 0;have X:=c.cell 5;have Z:F.cell? ⟨w.heap.size,6,none⟩=some (bool fl):=(c.cell 6).trans (by rw [<-U.out];rfl);have S:=c.cell 13;clear I c;go_wp2_with fail
   refine(al.out F).mono ?_;rintro e E ⟨rfl,J⟩;have A:Below W.heap.size W E:=(C).trans (J.mono (C).size);have d:=B.out.below A B.out.lt;have O:=d.cell 0;have X:=d.cell 5;have Z:E.cell? ⟨w.heap.size,6,none⟩=some (bool fl):=(d.cell 6).trans (by rw [<-U.out];rfl);have S:=d.cell 13;clear J d;cases fl
   case true=>
    as_aux_lemma=>
    go_wp2;go_meet
    exact⟨congrArg Value.bool (by rw [<-Q.out];simp),zhd A⟩
   case false=>
   go_wp2_with fail
   refine(ai.out E).mono ?_;rintro e w4 ⟨rfl,L⟩;have K:Below W.heap.size W w4:=(A).trans (L.mono (A).size);have D:=B.out.below K B.out.lt;have O:=D.cell 0;have X:=D.cell 5;have Z:w4.cell? ⟨w.heap.size,6,none⟩=some (bool false):=(D.cell 6).trans (by rw [<-U.out];rfl);have S:=D.cell 13;clear L D;by_cases hz:0<x.l.length
   ·have ah:(0:Int)<(x.l.length:Int):=by omega
    as_aux_lemma=>
    go_wp2;go_meet
    exact⟨congrArg Value.bool (by rw [<-Q.out];simp [hz]),zhd K⟩
   have ah:(x.l.length:Int)<=0:=by omega
   as_aux_lemma=>
   go_wp2;go_meet
   exact⟨congrArg Value.bool (by rw [<-Q.out,az.out];simp [(show ¬ 0<x.l.length by omega)]),zhd K⟩
  ·clear aa;go_wp2_with fail
   refine(aj.out W).mono ?_;rintro e F ⟨rfl,I⟩;have C:Below W.heap.size W F:=((Below.refl W.heap.size W)).trans (I.mono ((Below.refl W.heap.size W)).size);have c:=B.out.below C B.out.lt;have O:=c.cell 0;have X:=c.cell 5;have Z:F.cell? ⟨w.heap.size,6,none⟩=some (bool fl):=(c.cell 6).trans (by rw [<-U.out];rfl);have S:=c.cell 13;clear I c;go_wp2_with fail
   refine(al.out F).mono ?_;rintro e E ⟨rfl,J⟩;have A:Below W.heap.size W E:=(C).trans (J.mono (C).size);have d:=B.out.below A B.out.lt;have O:=d.cell 0;have X:=d.cell 5;have Z:E.cell? ⟨w.heap.size,6,none⟩=some (bool fl):=(d.cell 6).trans (by rw [<-U.out];rfl);have S:=d.cell 13;clear J d;go_wp2_with fail
   refine(ai.out E).mono ?_;rintro e w4 ⟨rfl,L⟩;have K:Below W.heap.size W w4:=(A).trans (L.mono (A).size);have D:=B.out.below K B.out.lt;have O:=D.cell 0;have X:=D.cell 5;have Z:w4.cell? ⟨w.heap.size,6,none⟩=some (bool fl):=(D.cell 6).trans (by rw [<-U.out];rfl);have S:=D.cell 13;clear L D
   as_aux_lemma=>
   go_wp2;go_meet
   exact⟨congrArg Value.bool (by rw [<-Q.out,az.out];simp),zhd K⟩
 case rest=>
  obtain⟨rfl,aE⟩:=hcut;cases q5
  case true=>
   have N:Hid (R=2):=zhd (by rw [aH.out];simp);go_wp2;go_ret;exact zal N.out.symm (T.out.trans (aE.out.mono T.out.size))
  case false=>
  have bQ:x.l.length<=1000:=by
   have:=Q.out;simp only [Bool.or_eq_false_iff,decide_eq_false_iff_not] at this;omega
  have bW:(x.l.length:Int)<=1000:=by omega
  clear Q aj al ai aa c0 c1 c2 c3 c4 c5 If Id Ie Io In;have au:=zhd (B.out.below aE.out B.out.lt);have aA:=zhd (HM.out.below aE.out);have aJ:=zhd (T.out.trans (aE.out.mono T.out.size));obtain⟨V,hV⟩:∃ V,wc=V:=⟨_,rfl⟩;go_wp2;go_loopg [3] x.l.length (fun gk i wr=>∃ k:Nat,k+gk=x.l.length/\i=int i64 k/\Hid (Below wc.heap.size wc wr)/\Hid (∀ j (hj:j<x.l.length),j<k->okE x.l[j].1))
  case atStart=>exact⟨0,by omega,rfl,zhd (Below.refl _ _),zhd fun j _ h=>absurd h (Nat.not_lt_zero _)⟩
  case round=>
   obtain⟨k,hk,rfl,ab,an⟩:=hrel;have S:=(au.out.below ab.out au.out.lt).cell 13;have ak:=zhd (aJ.out.trans (ab.out.mono aJ.out.size));by_cases aG:k<x.l.length
   ·obtain⟨b,o,hA,bK,hc⟩:=zbc (aA.out.below ab.out).en.row (by omega);obtain⟨a0,a1,a2,a3,a4,a5⟩:=hc k aG;have v1:=(aA.out.below ab.out).en.val x.l[k] (List.getElem_mem aG);have bo:=zhd (List.getElem_mem aG);have HC:=zhd fun M=>zeA x.l[k] v1.leni v1.kleni M;have bn:Hid (∀ r,zav x.l[k].1.k.length x.l[k].1.v.length x.l[k].1.s x.l[k].1.u x.l[k].1.o x.l[k].1.has=r->(r=0/\∀ j (hj:j<x.l.length),j<k+1->okE x.l[j].1)\/(r=2/\R=2)):=zhd fun r Y=>by
     rcases zdo x.l[k].1.k.length x.l[k].1.v.length x.l[k].1.s x.l[k].1.u x.l[k].1.o x.l[k].1.has with h2|h2
     ·left
      refine⟨Y.symm.trans h2,fun j hj bY=>?_⟩;by_cases bJ:j=k
      ·subst bJ;exact h2
      ·exact an.out j hj (by omega)
     ·right
      refine⟨Y.symm.trans h2,?_⟩;have ao:qa=false:=by
       cases hqq:qa
       ·rfl
       ·have h3:zav x.l[k].1.k.length x.l[k].1.v.length x.l[k].1.s x.l[k].1.u x.l[k].1.o x.l[k].1.has=0:=aQ.out.1 hqq _ bo.out;rw [h2] at h3;cases h3
      rw [aH.out,ao];simp
    obtain⟨r,Y⟩:∃ r,zav x.l[k].1.k.length x.l[k].1.v.length x.l[k].1.s x.l[k].1.u x.l[k].1.o x.l[k].1.has=r:=⟨_,rfl⟩;have aS:=zhd (bn.out r Y);rw [Y] at HC;obtain⟨⟨y,A1,c1⟩,hy⟩:∃ p,x.l[k]'aG=p:=⟨_,rfl⟩;rw [hy] at a0 a1 a2 a3 a4 a5 HC;simp only at a0 a1 a2 a3 a4 a5 HC;have bS:(0:Int)<=(k:Int):=by omega
    have cb:(k:Int)<(x.l.length:Int):=by omega
    rw [hA] at S;clear hA hc v1 bo bn Y hy bK;rcases aS.out with⟨rfl,bh⟩|⟨rfl,bi⟩
    ·have bM:=zhd bh;clear bh aS an;go_wp2_with fail
     refine(HC.out wr).mono ?_;rintro e F ⟨rfl,I⟩;have aI:=zhd (ab.out.trans (I.mono ab.out.size));clear I;go_wp2;go_roundg (gk - 1)
     case rel=>exact⟨k+1,by omega,by go_num,aI,bM⟩
     case measure=>omega
    ·have N:=zhd bi;clear bi aS an;go_wp2_with fail
     refine(HC.out wr).mono ?_;rintro e F ⟨rfl,I⟩;have aI:=zhd (ak.out.trans (I.mono ak.out.size));clear I;go_wp2;go_ret;exact zal N.out.symm aI.out
   ·obtain rfl:k=x.l.length:=by omega
    have bl:Hid (qa=true):=zhd (aQ.out.2 fun y hy=>by
     obtain⟨j,hj,rfl⟩:=List.mem_iff_getElem.1 hy;exact an.out j hj hj)
    obtain rfl:=bl.out;have G:=zhd (au.out.below ab.out au.out.lt);have ae:=zhd (aA.out.below ab.out);clear an aQ au aA aJ hV bl;obtain⟨q4,aK⟩:∃ q,decide (noE x.e.1)=q:=⟨_,rfl⟩;rw [aK] at am;have bI:=zhd aK;clear aK;go_upto_region 12 with fail
    go_cut [4] (fun t wx=>t=bool q4/\wx=wr)
    case first=>
     have d7:=G.out.cell 7;have d8:=G.out.cell 8;have d9:=G.out.cell 9;have bG:=G.out.cell 10;have bk:=G.out.cell 11;have bp:=G.out.cell 12;have ag:Hid (decide (noE x.e.1)=(decide (x.e.1.k=[])&&(eqT x.e.1.s x.e.1.u x.e.1.o 0 0 0&&(!x.e.1.has&&x.e.1.v.length==0)))):=zhd (by
      rw [Bool.eq_iff_iff,decide_eq_true_iff (p:=noE x.e.1)];unfold noE eqT;simp only [decide_eq_true_eq,Bool.and_eq_true,beq_iff_eq,Bool.not_eq_true',List.length_eq_zero_iff,and_assoc])
     rw [bI.out] at ag;have bu:(x.e.1.v.length:Int)<=9223372036854775807:=ae.out.ev.leni;have bv:(0:Int)<=(x.e.1.v.length:Int):=by omega
     obtain⟨ks,aX⟩:∃ l,x.e.1.k=l:=⟨_,rfl⟩;obtain⟨vl,aN⟩:∃ n,x.e.1.v.length=n:=⟨_,rfl⟩;obtain⟨hs,aT⟩:∃ n,x.e.1.has=n:=⟨_,rfl⟩;have hq:=zgx x.e.1.s x.e.1.u x.e.1.o 0 0 0;obtain⟨te,aO⟩:∃ b,eqT x.e.1.s x.e.1.u x.e.1.o 0 0 0=b:=⟨_,rfl⟩;rw [aX,aO,aT,aN] at ag;rw [aX] at d7;rw [aT] at bk;rw [aN] at bp bu bv;rw [aO] at hq;clear aX aN aT aO;cases ks with
     | cons a r=>
      have f1:(a :: r==[])=false:=rfl;have f2:(a :: r).isEmpty=false:=rfl;have f3:¬ (a :: r)=[]:=by simp
      go_wp2;go_meet
      exact⟨congrArg Value.bool (by rw [ag.out];rfl),rfl⟩
     | nil=>
      cases te
      ·go_wp2;go_meet
       exact⟨congrArg Value.bool (by rw [ag.out];rfl),rfl⟩
      ·cases hs
       ·by_cases hz:vl=0
        ·subst hz;go_wp2;go_meet
         exact⟨congrArg Value.bool (by rw [ag.out];rfl),rfl⟩
        ·have ah:((vl:Int)==0)=false:=by rw [beq_eq_false_iff_ne];omega
         have bC:(vl==0)=false:=by rw [beq_eq_false_iff_ne];exact hz
         go_wp2;go_meet
         exact⟨congrArg Value.bool (by rw [ag.out,bC];rfl),rfl⟩
       ·go_wp2;go_meet
        exact⟨congrArg Value.bool (by rw [ag.out];rfl),rfl⟩
    case rest=>
     obtain⟨rfl,bm⟩:=hcut;have br:=bm.symm;clear bm;subst br;go_upto_region 13 with fail
     go_cut [136] (fun t wx=>t=bool aV/\Hid (Below wr.heap.size wr wx))
     case first=>
      have aw:=G.out;have O:=aw.cell 0;have bf:=zhd fun M=>zeA x.e ae.out.ev.leni ae.out.ev.kleni M;clear aw;go_wp2_with fail
      refine(aq.out wr).mono ?_;rintro e F ⟨rfl,I⟩;have C:Below wr.heap.size wr F:=((Below.refl wr.heap.size wr)).trans (I.mono ((Below.refl wr.heap.size wr)).size);have c:=G.out.below C G.out.lt;have O:=c.cell 0;have d7:=c.cell 7;have d8:=c.cell 8;have d9:=c.cell 9;have bG:=c.cell 10;have bk:=c.cell 11;have bp:=c.cell 12;clear I c;cases gE
      ·go_wp2_with fail
       refine(aq.out F).mono ?_;rintro e E ⟨rfl,J⟩;have A:Below wr.heap.size wr E:=(C).trans (J.mono (C).size);have d:=G.out.below A G.out.lt;clear J d;cases q4
       all_goals
        go_wp2;go_meet
        exact⟨congrArg Value.bool (by rw [<-am.out];simp),zhd A⟩
      ·obtain⟨r,Y⟩:∃ r,zav x.e.1.k.length x.e.1.v.length x.e.1.s x.e.1.u x.e.1.o x.e.1.has=r:=⟨_,rfl⟩;have bq:Hid (decide (okE x.e.1)=(r==0)):=zhd (zl4 x.e.1 r Y);have aU:r=0\/r=2:=by rw [<-Y];exact zdo _ _ _ _ _ _
       rw [Y] at bf;clear Y;go_wp2_with fail
       refine(bf.out F).mono ?_;rintro e E ⟨rfl,J⟩;have A:Below wr.heap.size wr E:=C.trans (J.mono C.size);have d:=G.out.below A G.out.lt;have O:=d.cell 0;clear J d;rcases aU with rfl|rfl
       ·go_wp2_with fail
        refine(aq.out E).mono ?_;rintro e w4 ⟨rfl,L⟩;have K:Below wr.heap.size wr w4:=(A).trans (L.mono (A).size);have D:=G.out.below K G.out.lt;clear L D;go_wp2;go_meet
        exact⟨congrArg Value.bool (by rw [<-am.out,bq.out];simp),zhd K⟩
       ·go_wp2;go_meet
        exact⟨congrArg Value.bool (by rw [<-am.out,bq.out];simp),zhd A⟩
     case rest=>
      obtain⟨rfl,aB⟩:=hcut;cases aV
      case true=>
       have N:Hid (R=2):=zhd (by rw [aH.out];simp);go_wp2;go_ret;exact zal N.out.symm (ak.out.trans (aB.out.mono ak.out.size))
      case false=>
      clear am aq;obtain⟨V1,ca⟩:∃ V1,wr=V1:=⟨_,rfl⟩;go_upto_region 15 with fail
      go_cut [158] (fun t wx=>t=bool ax/\Hid (Below wr.heap.size wr wx))
      case first=>
       have aw:=G.out.below aB.out G.out.lt;have O:=aw.cell 0;have bw:=zhd fun M (hb:Below wr.heap.size wr M)=>zhy x.rA x.ns.length x.rc x.ns x.each x.keep rfl ae.out.rl M ((ae.out.rn.below hb).more hb.size);have bg:=zhd fun M (hb:Below wr.heap.size wr M)=>zeb x.rA none x.ns.length 0 x.rc 0 x.ns [] x.each x.keep 0 0 rfl rfl ae.out.rl (by decide) M ((ae.out.rn.below hb).more hb.size) (Row.nil _ _ _);clear aw;go_wp2_with fail
       refine(aD.out wc).mono ?_;rintro e F ⟨rfl,I⟩;have C:Below wr.heap.size wr F:=(aB.out).trans (I.mono (aB.out).size);have c:=G.out.below C G.out.lt;have O:=c.cell 0;have bH:=c.cell 14;have bx:=c.cell 15;have bA:=c.cell 16;clear I c;cases gR
       ·go_wp2_with fail
        refine(aD.out F).mono ?_;rintro e E ⟨rfl,J⟩;have A:Below wr.heap.size wr E:=(C).trans (J.mono (C).size);have d:=G.out.below A G.out.lt;have bH:=d.cell 14;have bx:=d.cell 15;have bA:=d.cell 16;clear J d;obtain⟨qs,bj⟩:∃ q,decide (x.ns=[]/\x.each=0/\x.keep=0)=q:=⟨_,rfl⟩;rw [bj] at ay bg;clear bj;go_wp2_with fail
        refine(bg.out E A).mono ?_;rintro e w4 ⟨rfl,L⟩;have K:Below wr.heap.size wr w4:=A.trans (L.mono A.size);clear L;cases qs
        all_goals
         go_wp2;go_meet
         exact⟨congrArg Value.bool (by rw [<-ay.out];simp),zhd K⟩
       ·go_wp2_with fail
        refine(bw.out F C).mono ?_;rintro e E ⟨⟨r,rfl,bD,aU⟩,J⟩;have A:Below wr.heap.size wr E:=C.trans (J.mono C.size);have d:=G.out.below A G.out.lt;have O:=d.cell 0;clear J d;by_cases hO:OkR x.ns x.each x.keep
        ·obtain rfl:=bD hO;go_wp2_with fail
         refine(aD.out E).mono ?_;rintro e w4 ⟨rfl,L⟩;have K:Below wr.heap.size wr w4:=(A).trans (L.mono (A).size);have D:=G.out.below K G.out.lt;clear L D;go_wp2;go_meet
         exact⟨congrArg Value.bool (by rw [<-ay.out,decide_eq_true hO];simp),zhd K⟩
        ·obtain rfl:=aU hO;go_wp2;go_meet
         exact⟨congrArg Value.bool (by rw [<-ay.out,decide_eq_false hO];simp),zhd A⟩
      case rest=>
       obtain⟨rfl,bO⟩:=hcut;have bP:Hid (R=if ax=true then 2 else 0):=zhd (by rw [aH.out];cases ax<;>rfl);cases ax
       all_goals
        go_wp2;go_ret;exact zal (by rw [bP.out];rfl) (ak.out.trans (bO.out.mono ak.out.size))
end
end Go.Proofs.YtahnjkkgojfdmaaGreatDoor
