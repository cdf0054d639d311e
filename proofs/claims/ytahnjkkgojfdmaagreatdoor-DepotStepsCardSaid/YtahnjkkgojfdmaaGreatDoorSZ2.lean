import Derived.Test.YtahnjkkgojfdmaaGreatDoorSZ1
set_option maxRecDepth 100000
set_option maxHeartbeats 8000000
set_option linter.unusedVariables false
namespace Go.Proofs.YtahnjkkgojfdmaaGreatDoor
open Go.IntKind(i64)
open Go.Value(int slice bool)
section
open Go.RowKit Mem Be Word Frm Go.Maps Rg
abbrev zcS:=List (EntP×Int)
def zbI(S:St8)(ps:zcS)(m:MsgP):St8×zcS:=if zbr m=0/\m.dst=1/\m.kind=10 then((zce S m.e m.fr).1,zi5 S ps m.e m.fr) else(S,ps)
def zdd(S:St8)(m:MsgP):MsgP:=⟨8,m.dst,m.fr,m.ep,m.op,0,false,ofT S.L m.e.k,[],[],0,0⟩
def zea(S:St8)(m:MsgP):List MsgP:=if zbr m=0/\m.dst=1/\m.kind=7 then [zdd S m] else []
def zg3(a:AckP):MsgP:=⟨11,1,a.who,0,0,0,false,⟨a.k,a.s,a.u,a.o,false,[]⟩,[],[],0,0⟩
structure R14 where
 S:St8
 ps:zcS
 out:List MsgP
 err:Int
def opS(S:St8)(ps:zcS)(kind:Int)(m:MsgP)(kept:Int):R14:=
 if kind=1 then⟨(zbI S ps m).1,(zbI S ps m).2,zea S m,0⟩
 else if kind=2 then⟨zc4 S,[],S.acks.map zg3,0⟩
 else if kind=3 then⟨(zbV S).1,ps,[],(zbV S).2⟩
 else if kept<0 then⟨S,ps,[],2⟩
 else⟨zaL S kept.toNat,[],[],0⟩
theorem zky{S:St8}(ok:Ok8 S)(a:zca S.rs):zaL S 0=⟨S.rs.take S.m,S.m,S.L,S.L,[]⟩:=by
 have c:zca (S.rs.take S.m):=fun r b=>a r (List.mem_of_mem_take b);have e:zbG S 0=S.rs.take S.m:=by
  unfold zbG;rw [List.take_zero,zff _ c];show S.rs.take S.m++(zar []).1=_
  rw [show(zar []).1=[] from by decide+kernel,List.append_nil]
 have hl:(S.rs.take S.m).length=S.m:=by rw [List.length_take];exact Nat.min_eq_left ok.le
 unfold zaL;rw [e,ok.lasts,hl];rfl
def zuZ(Y:St8×zcS)(p:EntP×Int):St8×zcS:=((zce Y.1 p.1 p.2).1,zi5 Y.1 Y.2 p.1 p.2)
def zta(S:St8)(ps:zcS):St8×zcS:=ps.foldl zuZ (S,[])
structure CpI (S:St8) (ps:zcS):Prop where
 redo:zta (zaL S 0) ps=(S,ps)
 acks:S.acks=ps.map fun p=>zaW p.1 p.2
 old:∀ p∈ps,zhr p.1 p.2/\GeE (ofT S.N p.1.k) p.1
theorem zi8(S:St8)(e:EntP)(who:Int):((zce S e who).2=0/\zhr e who/\(zce S e who).1.acks=S.acks++[zaW e who]/\(zce S e who).1.m=S.m/\(zce S e who).1.L=S.L/\(∃ more,(zce S e who).1.rs=S.rs++more)/\GeE (ofT (zce S e who).1.N e.k) e/\∀ k,GeE (ofT (zce S e who).1.N k) (ofT S.N k))\/((zce S e who).2≠0/\(zce S e who).1=S):=by
 unfold zce;split
 ·rename_i b;split
  ·rename_i c;split
   ·rename_i a;unfold zbq at a ⊢;split
    ·refine Or.inl ⟨rfl,b,rfl,rfl,rfl,⟨_,rfl⟩,?_,fun k=>?_⟩
     ·show GeE (ofT (zbZ kE S.N e) e.k) e
      rw [zqB,if_pos rfl];exact GeE.refl _
     ·show GeE (ofT (zbZ kE S.N e) k) (ofT S.N k)
      rw [zqB];split
      ·rename_i g;subst g;exact zv8 c
      ·exact GeE.refl _
    ·rename_i d;rw [if_neg d] at a;exact absurd a (show ¬ ((3:Int)=0) by decide)
   ·rename_i a;exact Or.inr ⟨a,rfl⟩
  ·rename_i c;exact Or.inl ⟨rfl,b,rfl,rfl,rfl,⟨[],by simp [zdv]⟩,(by
    have:=(zqA e (ofT S.N e.k)).1 (by omega);show GeE (ofT S.N e.k) e
    unfold GeE;omega),fun k=>GeE.refl _⟩
 ·exact Or.inr ⟨show((2:Int))≠0 by decide,rfl⟩
theorem zu0{S:St8}{e:EntP}{who:Int}(a:zhr e who)(h:GeE (ofT S.N e.k) e):zce S e who=(zdv S (zaW e who),0):=by
 unfold zce;rw [if_pos a,if_neg];have:=GeE.le h;omega
theorem zwf{S:St8}{ps:zcS}{e:EntP}{who:Int}(h:CpI S ps)(ok:Ok8 S)(j:zca S.rs)(q:Ok8 (zce S e who).1)(s:zca (zce S e who).1.rs):CpI (zce S e who).1 (zi5 S ps e who):=by
 rcases zi8 S e who with⟨c,k,g,o,l,⟨more,r⟩,d,i⟩|⟨c,m⟩
 ·have b:zi5 S ps e who=ps++[(e,who)]:=if_pos c;have hc:zaL (zce S e who).1 0=zaL S 0:=by
   rw [zky ok j,zky q s,o,l,r,List.take_append_of_le_length ok.le]
  refine⟨?_,?_,fun p a=>?_⟩
  ·rw [b,hc];unfold zta;rw [List.foldl_append];have:=h.redo;unfold zta at this;rw [this];show zuZ (S,ps) (e,who)=_
   unfold zuZ;rw [<-b]
  ·rw [b,g,h.acks,List.map_append];rfl
  ·rw [b] at a;rcases List.mem_append.1 a with a|a
   ·exact⟨(h.old p a).1,(i _).trans (h.old p a).2⟩
   ·obtain rfl:p=(e,who):=by simpa using a
    exact⟨k,d⟩
 ·have b:zi5 S ps e who=ps:=if_neg c;rw [m,b];exact h
theorem zu1{S:St8}(ok:Ok8 S)(a:zca S.rs):CpI (zc4 S) []:=by
 refine⟨?_,rfl,fun p b=>by cases b⟩;show(zaL (zc4 S) 0,[])=(zc4 S,[])
 rw [zky (zm8 ok) a];show((⟨S.rs.take S.rs.length,S.rs.length,S.N,S.N,[]⟩:St8),([]:zcS))=_
 rw [List.take_length];rfl
theorem ztb{S:St8}(k:Nat)(ok:Ok8 (zaL S k))(a:zca (zaL S k).rs):CpI (zaL S k) []:=by
 refine⟨?_,rfl,fun p b=>by cases b⟩;show(zaL (zaL S k) 0,[])=(zaL S k,[])
 rw [zky ok a];show((⟨(zbG S k).take (zbG S k).length,(zbG S k).length,(zd3 (zbG S k)).getD [],(zd3 (zbG S k)).getD [],[]⟩:St8),([]:zcS))=_
 rw [List.take_length];rfl
theorem zng:∀ (ps:zcS) (X:St8) (l:zcS),(∀ p∈ps,zhr p.1 p.2/\GeE (ofT X.N p.1.k) p.1)->ps.foldl zuZ (X,l)=(⟨X.rs,X.m,X.L,X.N,X.acks++ps.map fun p=>zaW p.1 p.2⟩,l++ps)
 | [],X,l,_=>by simp
 | p :: ps,X,l,h=>by
  have h1:=h p (by simp);have e:=zu0 (who:=p.2) h1.1 h1.2;have e2:zuZ (X,l) p=(zdv X (zaW p.1 p.2),l++[p]):=by
   unfold zuZ zi5;rw [e,if_pos rfl]
  rw [List.foldl_cons,e2,zng ps (zdv X (zaW p.1 p.2)) (l++[p]) (fun q hq=>h q (by simp [hq]))];simp [zdv]
theorem zu2{S:St8}{ps:zcS}(h:CpI S ps)(a:Ok8 (zbV S).1)(b:zca (zbV S).1.rs):CpI (zbV S).1 ps:=by
 unfold zbV at a b ⊢;split
 ·exact h
 ·rename_i c;rw [if_neg c] at a b;have hc:=zky a b;refine⟨?_,h.acks,h.old⟩;unfold zta;rw [hc];have e3:=zng ps ⟨[(0,zb0 S.N)],1,S.N,S.N,[]⟩ [] h.old;show List.foldl zuZ (⟨[(0,zb0 S.N)],1,S.N,S.N,[]⟩,[]) ps=_
  rw [e3,<-h.acks];simp
theorem zwg:CpI st0 []:=by
 refine⟨?_,rfl,fun p a=>by cases a⟩;have e:zbG st0 0=[]:=by
  unfold zbG;show(zar []).1=[]
  decide+kernel
 have e2:zaL st0 0=st0:=by
  unfold zaL;rw [e];rfl
 show(zaL st0 0,[])=(st0,[])
 rw [e2]
theorem zl1(S:St8)(e:EntP)(who:Int):(zce S e who).1.acks.length<=S.acks.length+1:=by
 rcases zi8 S e who with⟨_,_,b,_⟩|⟨_,a⟩
 ·rw [b];simp
 ·rw [a];omega
theorem zu3(S:St8)(ps:zcS)(e:EntP)(who:Int):(zi5 S ps e who).length<=ps.length+1:=by
 unfold zi5;split<;>simp
theorem zwh(S:St8)(ps:zcS)(kind:Int)(m:MsgP)(kept:Int):(opS S ps kind m kept).S.acks.length<=S.acks.length+1/\(opS S ps kind m kept).ps.length<=ps.length+1:=by
 unfold opS;split
 ·unfold zbI;split
  ·exact⟨zl1 _ _ _,zu3 _ _ _ _⟩
  ·exact⟨Nat.le_succ _,Nat.le_succ _⟩
 split
 ·exact⟨Nat.zero_le _,Nat.zero_le _⟩
 split
 ·refine⟨?_,Nat.le_succ _⟩;show(zbV S).1.acks.length<=_
  unfold zbV;split<;>exact Nat.le_succ _
 split
 ·exact⟨Nat.le_succ _,Nat.le_succ _⟩
 ·exact⟨Nat.zero_le _,Nat.zero_le _⟩
theorem zwi{S:St8}{ps:zcS}{kind kept:Int}{m:MsgP}(h:CpI S ps)(ok:Ok8 S)(i:zca S.rs)(a:Ok8 (opS S ps kind m kept).S)(b:zca (opS S ps kind m kept).S.rs):CpI (opS S ps kind m kept).S (opS S ps kind m kept).ps:=by
 unfold opS at a b ⊢;split
 ·rename_i d;rw [if_pos d] at a b;unfold zbI at a b ⊢;split
  ·rename_i g;rw [if_pos g] at a b;exact zwf h ok i a b
  ·exact h
 ·rename_i d;rw [if_neg d] at a b;split
  ·exact zu1 ok i
  ·rename_i g;rw [if_neg g] at a b;split
   ·rename_i c;rw [if_pos c] at a b;exact zu2 h a b
   ·rename_i c;rw [if_neg c] at a b;split
    ·exact h
    ·rename_i j;rw [if_neg j] at a b;exact ztb _ a b
end
section
open Go.RowKit Mem Be
structure ValB (w:World) (A:Option Addr) (xs:List UInt8) (c:Nat):Prop where
 row:Row w w.heap.size A (xs.map zaa)
 len:(xs.length:Int)<=9223372036854775807
theorem ValB.below{w w':World}{A:Option Addr}{xs:List UInt8}{c:Nat}(h:ValB w A xs c)(hb:Below w.heap.size w w'):ValB w' A xs c:=⟨(h.row.below hb).more hb.size,h.len⟩
theorem zhu(u s:Bool)(A l:Option Addr)(a d:List UInt8)(c c' n j:Nat)(K:n=a.length)(G:j=d.length)(w:World)(h:ValB w A a c)(x:ValB w l d c') :
 Calls Tryz.prog 43 #[zr0 u A n c,zr0 s l j c'] w (IsB (zdf u s a d) w):=by
 have hl:=h.len;have Y:=x.len;have g:Hid (Below w.heap.size w ((w.alloc (.cells #[bool u,slice A n c] 44)).alloc (.cells #[bool s,slice l j c'] 44))):=zhd ((zbl).alloc (by simp) _);have U:=zhd (h.row.below g.out);have T:=zhd (x.row.below g.out);clear h x;have Z:(n:Int)<=9223372036854775807:=by omega
 have D:=zhd K;have B:=zhd G;clear K G hl Y;cases u<;>cases s
 ·go_enter Tryz.func43,Tryz.ntmps43
  go_wp2;go_ret;exact zaM rfl g.out
 ·go_enter Tryz.func43,Tryz.ntmps43
  go_wp2;go_ret;exact zaM rfl g.out
 ·go_enter Tryz.func43,Tryz.ntmps43
  go_wp2;go_ret;exact zaM rfl g.out
 ·by_cases t:n=j
  ·subst t;go_enter Tryz.func43,Tryz.ntmps43
   go_wp2;go_loopw [5] (fun i wr=>∃ k:Nat,k<=n/\i=int i64 k/\Hid (a.take k=d.take k)/\Hid (∃ q,wr=((w.alloc (.cells #[bool true,slice A n c] 44)).alloc (.cells #[bool true,slice l n c'] 44)).drewN q)) (fun i _=>n - (intOf i).toNat)
   case atStart=>exact⟨0,by omega,rfl,zhd (by simp),zhd ⟨0,rfl⟩⟩
   case round=>
    obtain⟨k,hk,rfl,E,m⟩:=hrel;have Q:Hid (Below w.heap.size w wr):=zhd (by obtain⟨q,rfl⟩:=m.out;exact g.out.trans ⟨rfl,rfl,rfl,Nat.le_refl _,fun _ _=>rfl⟩);have c0:wr.cell? ⟨w.heap.size,1,none⟩=some (slice A n c):=by obtain⟨q,rfl⟩:=m.out;go_simp
    have c1:wr.cell? ⟨w.heap.size+1,1,none⟩=some (slice l n c'):=by obtain⟨q,rfl⟩:=m.out;go_simp
    by_cases M:k<n
    ·have C:k<a.length:=by rw [<-D.out];exact M
     have y:k<d.length:=by rw [<-B.out];exact M
     have L:Row wr w.heap.size A (a.map zaa):=by obtain⟨q,rfl⟩:=m.out;exact U.out.drewN q
     have I:Row wr w.heap.size l (d.map zaa):=by obtain⟨q,rfl⟩:=m.out;exact T.out.drewN q
     obtain⟨b,o,rfl,_,hc⟩:=L.open_ (by simp;omega);obtain⟨R,X,rfl,_,N⟩:=I.open_ (by simp;omega);have W:wr.cell? ⟨b,o+k,none⟩=some (int .u8 (a[k].toNat:Int)):=(hc k (by simpa using C)).trans (congrArg some (by rw [List.getElem_map];rfl));have V:wr.cell? ⟨R,X+k,none⟩=some (int .u8 (d[k].toNat:Int)):=(N k (by simpa using y)).trans (congrArg some (by rw [List.getElem_map];rfl));have aa:(0:Int)<=(k:Int):=by omega
     have ab:(k:Int)<(n:Int):=by omega
     clear hc N L I;obtain⟨p,z⟩:∃ p:Int,(a[k].toNat:Int)=p:=⟨_,rfl⟩;obtain⟨q,hq⟩:∃ q:Int,(d[k].toNat:Int)=q:=⟨_,rfl⟩;rw [z] at W;rw [hq] at V;have J:=zhd z;have F:=zhd hq;clear z hq;by_cases v:p=q
     ·subst v;have S:Hid (a.take (k+1)=d.take (k+1)):=zhd (zjD C y E.out (by rw [J.out,F.out]));have O:(p != p)=false:=by simp
      go_wp2;go_quiet (fail)
      go_wp2;go_roundw
      case rel=>exact⟨k+1,by omega,by go_num,S,zhd (by obtain⟨q,rfl⟩:=m.out;exact⟨_,by rw [World.drewN_drewN]⟩)⟩
      case measure=>simp [intOf];omega
     ·have O:(p != q)=true:=by simpa using v
      have r:Hid (zdf true true a d=false):=zhd (zmC k C y (by rw [J.out,F.out];exact v));clear v;go_wp2;go_quiet (fail)
      go_wp2;go_ret;exact zaM r.out.symm (Q.out.trans ⟨rfl,rfl,rfl,Nat.le_refl _,fun _ _=>rfl⟩)
    ·obtain rfl:k=n:=by omega
     have r:Hid (zdf true true a d=true):=zhd (by
      have:=E.out;rw [List.take_of_length_le (by rw [<-D.out];omega),List.take_of_length_le (by rw [<-B.out];omega)] at this;rw [this];simp [zdf])
     go_wp2;go_ret;exact zaM r.out.symm Q.out
  ·have r:Hid (zdf true true a d=false):=zhd (zjC (by rw [<-D.out,<-B.out];exact t));have O:(n != j)=true:=by simpa using t
   have ae:((n:Int) != (j:Int))=true:=by simp;omega
   clear t;go_enter Tryz.func43,Tryz.ntmps43
   go_wp2;go_ret;exact zaM r.out.symm g.out
theorem zg4(k1 m:ByteArray)(s u o d a i:Int)(k j:Bool)(A t:Option Addr)(b g:List UInt8)(c c' n r:Nat)(v:n=b.length)(B:r=g.length)(w:World)(h:ValB w A b c)(x:ValB w t g c') :
 Calls Tryz.prog 16 #[zaT k1 s u o k A n c,zaT m d a i j t r c'] w (IsB (zdU k1 m s u o d a i k j b g) w):=by
 have l:Hid (Below w.heap.size w ((w.alloc (zhm k1 s u o k A n c)).alloc (zhm m d a i j t r c'))):=zhd ((zbl).alloc (by simp) _);have E:=zhd (h.below l.out);have C:=zhd (x.below l.out);have G:=zhd v;have F:=zhd B;clear h x v B;by_cases q:k1=m
 ·subst q;have z:Hid (zdU k1 k1 s u o d a i k j b g=(eqT s u o d a i&&zdf k j b g)):=zhd (by unfold zdU;simp);have hq:=zgx s u o d a i;cases he:eqT s u o d a i
  ·rw [he] at hq;have p:Hid (zdU k1 k1 s u o d a i k j b g=false):=zhd (by rw [z.out,he];rfl);clear he;go_enter Tryz.func16,Tryz.ntmps16
   go_wp2;go_ret;exact zaM p.out.symm l.out
  ·rw [he] at hq;have p:Hid (zdU k1 k1 s u o d a i k j b g=zdf k j b g):=zhd (by rw [z.out,he];rfl);clear he;go_enter Tryz.func16,Tryz.ntmps16
   go_wp2_with (go_at_call 43;refine(zhu _ _ _ _ b g _ _ _ _ G.out F.out _ E.out C.out).mono ?_;rintro e I ⟨rfl,y⟩;have D:=zhd (l.out.trans (y.mono l.out.size));clear y)
   go_ret;exact zaM p.out.symm D.out
 ·have J:(k1.toList==m.toList)=false:=zfB q;have p:Hid (zdU k1 m s u o d a i k j b g=false):=zhd (by unfold zdU;rw [decide_eq_false q];rfl);clear q;go_enter Tryz.func16,Tryz.ntmps16
  go_wp2;go_ret;exact zaM p.out.symm l.out
end
section
open Go.RowKit Mem Be Rg
def sEB(a b:EntP):Bool:=zdU ⟨a.k.toArray⟩ ⟨b.k.toArray⟩ a.s a.u a.o b.s b.u b.o a.has b.has a.v b.v
def zev:List EntP->List EntP->Bool
 | [],[]=>true
 | a :: r,b :: q=>sEB a b&&zev r q
 | _,_=>false
theorem zkF:∀ {l m:List EntP},zev l m=true->l.length=m.length
 | [],[],_=>rfl
 | a :: r,b :: q,h=>by
  unfold zev at h;simp only [Bool.and_eq_true] at h;simp [zkF h.2]
 | [],b :: q,h=>by cases h
 | a :: r,[],h=>by cases h
theorem znh:∀ {l m:List EntP} (k:Nat) (d:k<l.length) (c:k<m.length),zev l m=true->sEB l[k] m[k]=true
 | a :: r,b :: q,0,_,_,h=>by
  unfold zev at h;simp only [Bool.and_eq_true] at h;exact h.1
 | a :: r,b :: q,k+1,d,c,h=>by
  unfold zev at h;simp only [Bool.and_eq_true] at h;exact znh k (by simpa using d) (by simpa using c) h.2
 | [],_,k,d,_,_=>absurd d (Nat.not_lt_zero _)
 | a :: r,[],k,_,c,_=>absurd c (Nat.not_lt_zero _)
theorem zi9:∀ {l m:List EntP},l.length=m.length->(∀ (k:Nat) (d:k<l.length) (c:k<m.length),sEB l[k] m[k]=true)->zev l m=true
 | [],[],_,_=>rfl
 | a :: r,b :: q,hl,h=>by
  unfold zev;rw [Bool.and_eq_true];exact⟨h 0 (by simp) (by simp),zi9 (by simpa using hl) fun k d c=>h (k+1) (by simpa using d) (by simpa using c)⟩
 | [],b :: q,hl,_=>by simp at hl
 | a :: r,[],hl,_=>by simp at hl
theorem ztn{a b:List UInt8}:((⟨a.toArray⟩:ByteArray)=⟨b.toArray⟩)↔a=b:=Mem.bytes_eq a b
theorem zu9{a b:EntP}:sEB a b=true↔a.k=b.k/\a.s=b.s/\a.u=b.u/\a.o=b.o/\a.has=b.has/\(a.has=true->a.v=b.v):=by
 unfold sEB zdU eqT zdf;simp only [Bool.and_eq_true,decide_eq_true_eq,ztn,beq_iff_eq,Bool.or_eq_true,Bool.not_eq_true'];constructor
 ·rintro⟨j,⟨⟨l,g⟩,d⟩,i,c⟩;exact⟨j,l,g,d,i,fun h=>by rcases c with c|c;(rw [h] at c;cases c);exact c⟩
 ·rintro⟨j,l,g,d,i,c⟩;refine⟨j,⟨⟨l,g⟩,d⟩,i,?_⟩;cases h:a.has
  ·exact Or.inl rfl
  ·exact Or.inr (c h)
theorem zni(a:EntP):sEB a a=true:=zu9.2 ⟨rfl,rfl,rfl,rfl,rfl,fun _=>rfl⟩
theorem zos(l:List EntP):zev l l=true:=zi9 rfl fun k _ _=>zni _
theorem zhw(n c m c':Nat)(A T:Option Addr)(a d:List EV)(M:n=a.length)(N:m=d.length)(hl:n<=maxLen)(ae:m<=maxLen)(w:World)(h:EntsB w A a)(X:EntsB w T d) :
 Calls Tryz.prog 25 #[slice A n c,slice T m c'] w (IsB (zev (a.map Prod.fst) (d.map Prod.fst)) w):=by
 unfold maxLen at hl ae;obtain⟨R,L⟩:∃ R,zev (a.map Prod.fst) (d.map Prod.fst)=R:=⟨_,rfl⟩;rw [L];have O:=zhd L;have HN:=zhd M;have W:=zhd N;have V:=zhd h;have U:=zhd X;have al:(0:Int)<=(n:Int):=by omega
 have aj:(n:Int)<=9223372036854775807:=by omega
 have ak:(m:Int)<=9223372036854775807:=by omega
 clear h X L hl ae;by_cases aa:n=m
 ·subst aa;clear M N;go_enter Tryz.func25,Tryz.ntmps25
  go_wp2;go_loopw [5] (fun i wr=>∃ k:Nat,k<=n/\i=int i64 k/\Hid (Below w.heap.size w wr)/\Hid (∀ j (l:j<a.length) (r:j<d.length),j<k->sEB a[j].1 d[j].1=true)) (fun i _=>n - (intOf i).toNat)
  case atStart=>exact⟨0,by omega,rfl,zhd (Below.refl _ _),zhd fun j _ _ h=>absurd h (Nat.not_lt_zero _)⟩
  case round=>
   obtain⟨k,hk,rfl,g,B⟩:=hrel;by_cases ab:k<n
   ·have z:k<a.length:=by rw [<-HN.out];exact ab
    have t:k<d.length:=by rw [<-W.out];exact ab
    obtain⟨b,o,rfl,hb,hc⟩:=zbc (V.out.below g.out).row (by omega);obtain⟨b',o',rfl,am,Z⟩:=zbc (U.out.below g.out).row (by omega);obtain⟨a0,F,I,a3,a4,a5⟩:=hc k z;obtain⟨K,J,E,D,b4,b5⟩:=Z k t;have v1:=(V.out.below g.out).val a[k] (List.getElem_mem z);have v2:=(U.out.below g.out).val d[k] (List.getElem_mem t);obtain⟨q,hq⟩:∃ q,sEB (a[k]'z).1 (d[k]'t).1=q:=⟨_,rfl⟩;have G:Hid ((q=true->∀ j (l:j<a.length) (r:j<d.length),j<k+1->sEB a[j].1 d[j].1=true)/\(q=false->R=false)):=zhd ⟨fun S j l r hj=>by
     by_cases af:j=k
     ·subst af;exact hq.trans S
     ·exact B.out j l r (by omega),fun S=>by
     rw [<-O.out];cases hs:zev (a.map Prod.fst) (d.map Prod.fst)
     ·rfl
     ·have:=znh k (by simpa using z) (by simpa using t) hs;simp only [List.getElem_map] at this;rw [hq,S] at this;cases this⟩
    obtain⟨⟨x,A1,c1⟩,hx⟩:∃ p,a[k]'z=p:=⟨_,rfl⟩;obtain⟨⟨y,A2,c2⟩,Y⟩:∃ p,d[k]'t=p:=⟨_,rfl⟩;rw [hx] at a0 F I a3 a4 a5 v1 hq;rw [Y] at K J E D b4 b5 v2 hq;simp only at a0 F I a3 a4 a5 K J E D b4 b5 v1 v2 hq;have Q:=zhd (fun p:Later wr=>zg4 ⟨x.k.toArray⟩ ⟨y.k.toArray⟩ x.s x.u x.o y.s y.u y.o x.has y.has A1 A2 x.v y.v c1 c2 x.v.length y.v.length rfl rfl p.world ⟨(v1.below p.bel).row,v1.leni⟩ ⟨(v2.below p.bel).row,v2.leni⟩);unfold sEB at hq;rw [hq] at Q;have l0:=zab a0;have l1:=zab F;have l2:=zab I;have l3:=zab a3;have l4:=zab a4;have l5:=zab a5;have m0:=zab K;have m1:=zab J;have m2:=zab E;have m3:=zab D;have m4:=zab b4;have m5:=zab b5;have ag:(0:Int)<=(k:Int):=by omega
    have ah:(k:Int)<(n:Int):=by omega
    clear hc Z a0 F I a3 a4 a5 K J E D b4 b5 hx Y v1 v2 hq B;cases q
    ·have C:Hid (R=false):=zhd (G.out.2 rfl);clear G;go_wp2_with fail
     refine zas (by kernel_rfl) (by kernel_rfl) ?_
     repeat (go_big_quiet_step (first
      | (go_at_call 16;exact za7 (Q.out _))))
     refine wpQuiet_nil ?_;intro w' hw';obtain⟨p,rfl⟩:=hw';go_wp2;go_ret;exact zaM C.out.symm (g.out.trans (p.bel.mono g.out.size))
    ·have B:=zhd (G.out.1 rfl);clear G;go_wp2_with fail
     refine zas (by kernel_rfl) (by kernel_rfl) ?_
     repeat (go_big_quiet_step (first
      | (go_at_call 16;exact za7 (Q.out _))))
     refine wpQuiet_nil ?_;intro w' hw';obtain⟨p,rfl⟩:=hw';go_wp2;go_roundw
     case rel=>exact⟨k+1,by omega,by go_num,zhd (g.out.trans (p.bel.mono g.out.size)),B⟩
     case measure=>simp [intOf];omega
   ·obtain rfl:k=n:=by omega
    have C:Hid (R=true):=zhd (by
     rw [<-O.out];have e1:=HN.out;have e2:=W.out;exact zi9 (by simp;omega) fun j l r=>by
      simp only [List.getElem_map];exact B.out j (by simpa using l) (by simpa using r) (by simp at l;omega))
    go_wp2;go_ret;exact zaM C.out.symm g.out
 ·have C:Hid (R=false):=zhd (by
   rw [<-O.out];cases hs:zev (a.map Prod.fst) (d.map Prod.fst)
   ·rfl
   ·have:=zkF hs;simp at this;exact absurd (by omega) aa)
  have hb:((n:Int)==(m:Int))=false:=by rw [beq_eq_false_iff_ne];omega
  have ai:((n:Int) != (m:Int))=true:=by rw [bne_iff_ne];omega
  clear M N;go_enter Tryz.func25,Tryz.ntmps25
  go_wp2;go_ret;exact zaM C.out.symm (Below.refl _ _)
def zja(a b:MsgP):Bool:=(a.kind==b.kind&&(a.fr==b.fr&&(a.dst==b.dst&&(a.ep==b.ep&&(a.op==b.op&&(a.n==b.n&&a.flag==b.flag))))))&&(sEB a.e b.e&&(zev a.l b.l&&decide (a.ns=b.ns/\a.each=b.each/\a.keep=b.keep)))
theorem zot(a:MsgP):zja a a=true:=by
 unfold zja;rw [zni,zos];simp
theorem zto{a b:MsgP}(h:¬ (a.kind=b.kind/\a.fr=b.fr/\a.dst=b.dst/\a.ep=b.ep/\a.op=b.op/\a.n=b.n/\a.flag=b.flag)):zja a b=false:=by
 cases hs:zja a b
 ·rfl
 ·unfold zja at hs;simp only [Bool.and_eq_true,beq_iff_eq] at hs;exact absurd ⟨hs.1.1,hs.1.2.1,hs.1.2.2.1,hs.1.2.2.2.1,hs.1.2.2.2.2.1,hs.1.2.2.2.2.2.1,hs.1.2.2.2.2.2.2⟩ h
theorem zrn{a b:MsgP}(h:a.kind=b.kind/\a.fr=b.fr/\a.dst=b.dst/\a.ep=b.ep/\a.op=b.op/\a.n=b.n/\a.flag=b.flag):zja a b=(sEB a.e b.e&&(zev a.l b.l&&decide (a.ns=b.ns/\a.each=b.each/\a.keep=b.keep))):=by
 obtain⟨j,m,g,c,i,d,k⟩:=h;unfold zja;rw [j,m,g,c,i,d,k];simp
theorem zro(x y:MV)(w:World)(h:MsgM w x)(h':MsgM w y):Calls Tryz.prog 40 #[.agg #[int i64 x.kind,int i64 x.fr,int i64 x.dst,int i64 x.ep,int i64 x.op,int i64 x.n,bool x.flag,.string ⟨x.e.1.k.toArray⟩,int i64 x.e.1.s,int i64 x.e.1.u,int i64 x.e.1.o,bool x.e.1.has,slice x.e.2.1 x.e.1.v.length x.e.2.2,slice x.lA x.l.length x.lc,slice x.rA x.ns.length x.rc,int i64 x.each,int i64 x.keep],.agg #[int i64 y.kind,int i64 y.fr,int i64 y.dst,int i64 y.ep,int i64 y.op,int i64 y.n,bool y.flag,.string ⟨y.e.1.k.toArray⟩,int i64 y.e.1.s,int i64 y.e.1.u,int i64 y.e.1.o,bool y.e.1.has,slice y.e.2.1 y.e.1.v.length y.e.2.2,slice y.lA y.l.length y.lc,slice y.rA y.ns.length y.rc,int i64 y.each,int i64 y.keep]] w (IsB (zja (mP x) (mP y)) w):=by
 have J:Below w.heap.size w ((w.alloc (.cells #[int i64 x.kind,int i64 x.fr,int i64 x.dst,int i64 x.ep,int i64 x.op,int i64 x.n,bool x.flag,.string ⟨x.e.1.k.toArray⟩,int i64 x.e.1.s,int i64 x.e.1.u,int i64 x.e.1.o,bool x.e.1.has,slice x.e.2.1 x.e.1.v.length x.e.2.2,slice x.lA x.l.length x.lc,slice x.rA x.ns.length x.rc,int i64 x.each,int i64 x.keep] 51)).alloc (.cells #[int i64 y.kind,int i64 y.fr,int i64 y.dst,int i64 y.ep,int i64 y.op,int i64 y.n,bool y.flag,.string ⟨y.e.1.k.toArray⟩,int i64 y.e.1.s,int i64 y.e.1.u,int i64 y.e.1.o,bool y.e.1.has,slice y.e.2.1 y.e.1.v.length y.e.2.2,slice y.lA y.l.length y.lc,slice y.rA y.ns.length y.rc,int i64 y.each,int i64 y.keep] 51)):=(zbl).alloc (by simp) _;have c:=zhd ((Blk.new w 51 #[int i64 x.kind,int i64 x.fr,int i64 x.dst,int i64 x.ep,int i64 x.op,int i64 x.n,bool x.flag,.string ⟨x.e.1.k.toArray⟩,int i64 x.e.1.s,int i64 x.e.1.u,int i64 x.e.1.o,bool x.e.1.has,slice x.e.2.1 x.e.1.v.length x.e.2.2,slice x.lA x.l.length x.lc,slice x.rA x.ns.length x.rc,int i64 x.each,int i64 x.keep]).alloc (.cells #[int i64 y.kind,int i64 y.fr,int i64 y.dst,int i64 y.ep,int i64 y.op,int i64 y.n,bool y.flag,.string ⟨y.e.1.k.toArray⟩,int i64 y.e.1.s,int i64 y.e.1.u,int i64 y.e.1.o,bool y.e.1.has,slice y.e.2.1 y.e.1.v.length y.e.2.2,slice y.lA y.l.length y.lc,slice y.rA y.ns.length y.rc,int i64 y.each,int i64 y.keep] 51));have b:Hid (Blk ((w.alloc (.cells #[int i64 x.kind,int i64 x.fr,int i64 x.dst,int i64 x.ep,int i64 x.op,int i64 x.n,bool x.flag,.string ⟨x.e.1.k.toArray⟩,int i64 x.e.1.s,int i64 x.e.1.u,int i64 x.e.1.o,bool x.e.1.has,slice x.e.2.1 x.e.1.v.length x.e.2.2,slice x.lA x.l.length x.lc,slice x.rA x.ns.length x.rc,int i64 x.each,int i64 x.keep] 51)).alloc (.cells #[int i64 y.kind,int i64 y.fr,int i64 y.dst,int i64 y.ep,int i64 y.op,int i64 y.n,bool y.flag,.string ⟨y.e.1.k.toArray⟩,int i64 y.e.1.s,int i64 y.e.1.u,int i64 y.e.1.o,bool y.e.1.has,slice y.e.2.1 y.e.1.v.length y.e.2.2,slice y.lA y.l.length y.lc,slice y.rA y.ns.length y.rc,int i64 y.each,int i64 y.keep] 51)) (w.heap.size+1) 51 #[int i64 y.kind,int i64 y.fr,int i64 y.dst,int i64 y.ep,int i64 y.op,int i64 y.n,bool y.flag,.string ⟨y.e.1.k.toArray⟩,int i64 y.e.1.s,int i64 y.e.1.u,int i64 y.e.1.o,bool y.e.1.has,slice y.e.2.1 y.e.1.v.length y.e.2.2,slice y.lA y.l.length y.lc,slice y.rA y.ns.length y.rc,int i64 y.each,int i64 y.keep]):=zhd (zjG (by simp) (Blk.new _ _ _));have A:=zhd (h.below J);have B:=zhd (h'.below J);have i:=zhd J;have g:=zhd (@zto (mP x) (mP y));have m:=zhd (@zrn (mP x) (mP y));obtain⟨R,hR⟩:∃ R,zja (mP x) (mP y)=R:=⟨_,rfl⟩;rw [hR] at g m ⊢;obtain⟨qe,aa⟩:∃ q,sEB (mP x).e (mP y).e=q:=⟨_,rfl⟩;obtain⟨Q,Y⟩:∃ q,zev (mP x).l (mP y).l=q:=⟨_,rfl⟩;obtain⟨X,M⟩:∃ q,decide ((mP x).ns=(mP y).ns/\(mP x).each=(mP y).each/\(mP x).keep=(mP y).keep)=q:=⟨_,rfl⟩;rw [aa,Y,M] at m;obtain⟨W,hW⟩:∃ W,(w.alloc (.cells #[int i64 x.kind,int i64 x.fr,int i64 x.dst,int i64 x.ep,int i64 x.op,int i64 x.n,bool x.flag,.string ⟨x.e.1.k.toArray⟩,int i64 x.e.1.s,int i64 x.e.1.u,int i64 x.e.1.o,bool x.e.1.has,slice x.e.2.1 x.e.1.v.length x.e.2.2,slice x.lA x.l.length x.lc,slice x.rA x.ns.length x.rc,int i64 x.each,int i64 x.keep] 51)).alloc (.cells #[int i64 y.kind,int i64 y.fr,int i64 y.dst,int i64 y.ep,int i64 y.op,int i64 y.n,bool y.flag,.string ⟨y.e.1.k.toArray⟩,int i64 y.e.1.s,int i64 y.e.1.u,int i64 y.e.1.o,bool y.e.1.has,slice y.e.2.1 y.e.1.v.length y.e.2.2,slice y.lA y.l.length y.lc,slice y.rA y.ns.length y.rc,int i64 y.each,int i64 y.keep] 51)=W:=⟨_,rfl⟩;rw [hW] at c b A B i;have r:Hid (∀ d,Below W.heap.size W d->Calls Tryz.prog 16 #[zaT ⟨x.e.1.k.toArray⟩ x.e.1.s x.e.1.u x.e.1.o x.e.1.has x.e.2.1 x.e.1.v.length x.e.2.2,zaT ⟨y.e.1.k.toArray⟩ y.e.1.s y.e.1.u y.e.1.o y.e.1.has y.e.2.1 y.e.1.v.length y.e.2.2] d (IsB qe d)):=zhd fun d p=>by
  have v1:=A.out.ev.below p;have v2:=B.out.ev.below p;have:=zg4 ⟨x.e.1.k.toArray⟩ ⟨y.e.1.k.toArray⟩ x.e.1.s x.e.1.u x.e.1.o y.e.1.s y.e.1.u y.e.1.o x.e.1.has y.e.1.has x.e.2.1 y.e.2.1 x.e.1.v y.e.1.v x.e.2.2 y.e.2.2 _ _ rfl rfl d ⟨v1.row,v1.leni⟩ ⟨v2.row,v2.leni⟩;rw [<-aa];exact this
 have t:Hid (∀ d,Below W.heap.size W d->Calls Tryz.prog 25 #[slice x.lA x.l.length x.lc,slice y.lA y.l.length y.lc] d (IsB Q d)):=zhd fun d p=>by
  have:=zhw x.l.length x.lc y.l.length y.lc x.lA y.lA x.l y.l rfl rfl A.out.ln B.out.ln d (A.out.en.below p) (B.out.en.below p);rw [<-Y];exact this
 have z:Hid (∀ d,Below W.heap.size W d->Calls Tryz.prog 49 #[.agg #[slice x.rA x.ns.length x.rc,int i64 x.each,int i64 x.keep],.agg #[slice y.rA y.ns.length y.rc,int i64 y.each,int i64 y.keep]] d (IsB X d)):=zhd fun d p=>by
  have:=zeb x.rA y.rA x.ns.length y.ns.length x.rc y.rc x.ns y.ns x.each x.keep y.each y.keep rfl rfl A.out.rl B.out.rl d ((A.out.rn.below p).more p.size) ((B.out.rn.below p).more p.size);rw [<-M];exact this
 have a0:=c.out.cell 0;have b0:=b.out.cell 0;have a1:=c.out.cell 1;have b1:=b.out.cell 1;have a2:=c.out.cell 2;have b2:=b.out.cell 2;have a3:=c.out.cell 3;have b3:=b.out.cell 3;have a4:=c.out.cell 4;have b4:=b.out.cell 4;have a5:=c.out.cell 5;have b5:=b.out.cell 5;have a6:=c.out.cell 6;have b6:=b.out.cell 6;clear h h' J hR aa Y M A B;by_cases a:¬ x.kind=y.kind
 ·have D:(x.kind==y.kind)=false:=by simpa using a
  have C:(x.kind != y.kind)=true:=by simpa using a
  have j:Hid (R=false):=zhd (g.out fun h=>a h.1)
  as_aux_lemma=>
  clear g m r t z c b;go_enter Tryz.func40,Tryz.ntmps40
  go_wp2;go_ret;exact zaM j.out.symm i.out
 have h0:Hid (x.kind=y.kind):=zhd (Decidable.not_not.1 a);clear a;rw [<-h0.out] at b0;by_cases a:¬ x.fr=y.fr
 ·have D:(x.fr==y.fr)=false:=by simpa using a
  have C:(x.fr != y.fr)=true:=by simpa using a
  have j:Hid (R=false):=zhd (g.out fun h=>a h.2.1)
  as_aux_lemma=>
  clear g m r t z c b;go_enter Tryz.func40,Tryz.ntmps40
  go_wp2;go_ret;exact zaM j.out.symm i.out
 have S:Hid (x.fr=y.fr):=zhd (Decidable.not_not.1 a);clear a;rw [<-S.out] at b1;by_cases a:¬ x.dst=y.dst
 ·have D:(x.dst==y.dst)=false:=by simpa using a
  have C:(x.dst != y.dst)=true:=by simpa using a
  have j:Hid (R=false):=zhd (g.out fun h=>a h.2.2.1)
  as_aux_lemma=>
  clear g m r t z c b;go_enter Tryz.func40,Tryz.ntmps40
  go_wp2;go_ret;exact zaM j.out.symm i.out
 have N:Hid (x.dst=y.dst):=zhd (Decidable.not_not.1 a);clear a;rw [<-N.out] at b2;by_cases a:¬ x.ep=y.ep
 ·have D:(x.ep==y.ep)=false:=by simpa using a
  have C:(x.ep != y.ep)=true:=by simpa using a
  have j:Hid (R=false):=zhd (g.out fun h=>a h.2.2.2.1)
  as_aux_lemma=>
  clear g m r t z c b;go_enter Tryz.func40,Tryz.ntmps40
  go_wp2;go_ret;exact zaM j.out.symm i.out
 have U:Hid (x.ep=y.ep):=zhd (Decidable.not_not.1 a);clear a;rw [<-U.out] at b3;by_cases a:¬ x.op=y.op
 ·have D:(x.op==y.op)=false:=by simpa using a
  have C:(x.op != y.op)=true:=by simpa using a
  have j:Hid (R=false):=zhd (g.out fun h=>a h.2.2.2.2.1)
  as_aux_lemma=>
  clear g m r t z c b;go_enter Tryz.func40,Tryz.ntmps40
  go_wp2;go_ret;exact zaM j.out.symm i.out
 have h4:Hid (x.op=y.op):=zhd (Decidable.not_not.1 a);clear a;rw [<-h4.out] at b4;by_cases a:¬ x.n=y.n
 ·have D:(x.n==y.n)=false:=by simpa using a
  have C:(x.n != y.n)=true:=by simpa using a
  have j:Hid (R=false):=zhd (g.out fun h=>a h.2.2.2.2.2.1)
  as_aux_lemma=>
  clear g m r t z c b;go_enter Tryz.func40,Tryz.ntmps40
  go_wp2;go_ret;exact zaM j.out.symm i.out
 have h5:Hid (x.n=y.n):=zhd (Decidable.not_not.1 a);clear a;rw [<-h5.out] at b5;by_cases a:¬ x.flag=y.flag
 ·have D:(x.flag==y.flag)=false:=by simpa using a
  have C:(x.flag != y.flag)=true:=by simpa using a
  have j:Hid (R=false):=zhd (g.out fun h=>a h.2.2.2.2.2.2)
  as_aux_lemma=>
  clear g m r t z c b;go_enter Tryz.func40,Tryz.ntmps40
  go_wp2;go_ret;exact zaM j.out.symm i.out
 have T:Hid (x.flag=y.flag):=zhd (Decidable.not_not.1 a);clear a;rw [<-T.out] at b6;have O:Hid (R=(qe&&(Q&&X))):=zhd (m.out ⟨h0.out,S.out,N.out,U.out,h4.out,h5.out,T.out⟩);clear g m h0 S N U h4 h5 T;have a7:=c.out.cell 7;have b7:=b.out.cell 7;have a8:=c.out.cell 8;have b8:=b.out.cell 8;have a9:=c.out.cell 9;have b9:=b.out.cell 9;have ag:=c.out.cell 10;have ak:=b.out.cell 10;have af:=c.out.cell 11;have ah:=b.out.cell 11;have ai:=c.out.cell 12;have ae:=b.out.cell 12;go_enter Tryz.func40,Tryz.ntmps40
 go_wp2_with fail
 refine(r.out W (Below.refl _ _)).mono ?_;rintro e w1 ⟨rfl,I⟩;have E:=zhd I;have G:=zhd (c.out.below I c.out.lt);have L:=zhd (b.out.below I b.out.lt);clear I r c b a0 b0 a1 b1 a2 b2 a3 b3 a4 b4 a5 b5 a6 b6 a7 b7 a8 b8 a9 b9 ag ak af ah ai ae;have al:=G.out.cell 13;have am:=L.out.cell 13;cases qe
 ·go_wp2;go_ret;exact zaM (by rw [O.out];rfl) (i.out.trans (E.out.mono i.out.size))
 go_wp2_with fail
 refine(t.out w1 E.out).mono ?_;rintro e w2 ⟨rfl,K⟩;have F:=zhd (E.out.trans (K.mono E.out.size));have V:=zhd (G.out.below K G.out.lt);have Z:=zhd (L.out.below K L.out.lt);clear K t G L E al am;have aq:=V.out.cell 14;have an:=Z.out.cell 14;have aw:=V.out.cell 15;have ax:=Z.out.cell 15;have ao:=V.out.cell 16;have au:=Z.out.cell 16;cases Q
 ·go_wp2;go_ret;exact zaM (by rw [O.out];rfl) (i.out.trans (F.out.mono i.out.size))
 go_wp2_with fail
 refine(z.out w2 F.out).mono ?_;rintro e w3 ⟨rfl,ab⟩;have aj:=zhd (F.out.trans (ab.mono F.out.size));clear ab;go_wp2;go_ret;exact zaM (by rw [O.out];cases X<;>rfl) (i.out.trans (aj.out.mono i.out.size))
end
section
open Go.RowKit Go.ChangeShapes Mem Be Rg
def mL(x:MV):List Value:=[int i64 x.kind,int i64 x.fr,int i64 x.dst,int i64 x.ep,int i64 x.op,int i64 x.n,bool x.flag,.string ⟨x.e.1.k.toArray⟩,int i64 x.e.1.s,int i64 x.e.1.u,int i64 x.e.1.o,bool x.e.1.has,slice x.e.2.1 x.e.1.v.length x.e.2.2,slice x.lA x.l.length x.lc,slice x.rA x.ns.length x.rc,int i64 x.each,int i64 x.keep]
abbrev msC(us:List MV):List Value:=us.flatMap mL
theorem zrp(rs:List MV):(msC rs).length=rs.length*17:=by
 induction rs with
 | nil=>rfl
 | cons p rs ih=>simp only [msC,List.flatMap_cons,List.length_append,mL,List.length_cons,List.length_nil];have:=ih;unfold msC at this;omega
theorem zwt(rs:List MV)(i:Nat)(h:i<rs.length)(j:Nat)(a:j<17):(msC rs)[i*17+j]?=(mL rs[i])[j]?:=by
 induction rs generalizing i with
 | nil=>simp at h
 | cons p rs ih=>
  have hc:msC (p :: rs)=mL p++msC rs:=rfl;rw [hc];have hl:(mL p).length=17:=rfl;rcases i with _|i
  ·rw [List.getElem?_append_left (by omega),Nat.zero_mul,Nat.zero_add];rfl
  ·rw [List.getElem?_append_right (by omega),hl,show(i+1)*17+j - 17=i*17+j by omega,ih i (by simpa using h)];rfl
theorem zl6{w:World}{B:Nat}{A:Option Addr}{rs:List MV}(h:Row w B A (msC rs))(m:0<rs.length) :
 ∃ b o,A=some ⟨b,o,none⟩/\b<B/\∀ i (d:i<rs.length),∀ j v,(mL rs[i])[j]?=some v->w.cell? ⟨b,o+i*17+j,none⟩=some v:=by
 obtain⟨b,o,k,l,hc⟩:=h.open_ (by rw [zrp];omega);refine⟨b,o,k,l,fun i d j v c=>?_⟩;have g:j<17:=(List.getElem?_eq_some_iff.1 c).1;have a:i*17+j<(msC rs).length:=by rw [zrp];omega
 rw [show o+i*17+j=o+(i*17+j) by omega,hc (i*17+j) a,<-c,<-zwt rs i d j g,List.getElem?_eq_getElem a]
structure MsR (w:World) (A:Option Addr) (us:List MV):Prop where
 row:Row w w.heap.size A (msC us)
 val:∀ x∈us,MsgM w x
theorem MsR.below{w w':World}{A:Option Addr}{us:List MV}(h:MsR w A us)(hb:Below w.heap.size w w'):MsR w' A us:=⟨(h.row.below hb).more hb.size,fun x hx=>(h.val x hx).below hb⟩
theorem zva(w:World)(A:Option Addr):MsR w A []:=⟨Row.nil _ _ _,fun x a=>by cases a⟩
theorem zl7(n c m c':Nat)(A C:Option Addr)(d g:List MV)(F:n=d.length)(K:m=g.length)(hl:n<=maxLen)(B:d.map mP=g.map mP)(w:World)(h:MsR w A d)(G:MsR w C g) :
 Calls Tryz.prog 14 #[slice A n c,slice C m c'] w (IsB true w):=by
 unfold maxLen at hl;have U:n=m:=by have:=congrArg List.length B;simp at this;omega
 subst U;have Q:=zhd B;have T:=zhd F;have R:=zhd K;have E:=zhd h;have D:=zhd G;have aL:(0:Int)<=(n:Int):=by omega
 have az:(n:Int)<=9223372036854775807:=by omega
 clear h G B hl F K;go_enter Tryz.func14,Tryz.ntmps14
 go_wp2;go_loopw [5] (fun i wr=>∃ k:Nat,k<=n/\i=int i64 k/\Hid (Below w.heap.size w wr)) (fun i _=>n - (intOf i).toNat)
 case atStart=>exact⟨0,by omega,rfl,zhd (Below.refl _ _)⟩
 case round=>
  obtain⟨k,hk,rfl,j⟩:=hrel;by_cases N:k<n
  ·have r:k<d.length:=by rw [<-T.out];exact N
   have q:k<g.length:=by rw [<-R.out];exact N
   obtain⟨b,o,rfl,hb,L⟩:=zl6 (E.out.below j.out).row (by omega);obtain⟨W,o',rfl,aQ,O⟩:=zl6 (D.out.below j.out).row (by omega);have hc:=L k r;have a:=O k q;have v1:=(E.out.below j.out).val d[k] (List.getElem_mem r);have v2:=(D.out.below j.out).val g[k] (List.getElem_mem q);have hq:mP d[k]=mP g[k]:=by
    have:=Q.out;have S:(d.map mP)[k]'(by simpa using r)=(g.map mP)[k]'(by simpa using q):=List.getElem_of_eq this _;simpa using S
   obtain⟨x,J⟩:∃ p,d[k]'r=p:=⟨_,rfl⟩;obtain⟨y,I⟩:∃ p,g[k]'q=p:=⟨_,rfl⟩;rw [J] at hc v1 hq;rw [I] at a v2 hq;have M:=zhd (fun p:Later wr=>zro x y p.world (v1.below p.bel) (v2.below p.bel));rw [hq,zot] at M;have z:=hc 0 (int i64 x.kind) rfl;rw [Nat.add_zero] at z;have ab:=zab z;have X:=zab (hc 1 (int i64 x.fr) rfl);have aa:=zab (hc 2 (int i64 x.dst) rfl);have aD:=zab (hc 3 (int i64 x.ep) rfl);have aP:=zab (hc 4 (int i64 x.op) rfl);have an:=zab (hc 5 (int i64 x.n) rfl);have aw:=zab (hc 6 (bool x.flag) rfl);have ae:=zab (hc 7 (.string ⟨x.e.1.k.toArray⟩) rfl);have Y:=zab (hc 8 (int i64 x.e.1.s) rfl);have aG:=zab (hc 9 (int i64 x.e.1.u) rfl);have aR:=zab (hc 10 (int i64 x.e.1.o) rfl);have au:=zab (hc 11 (bool x.e.1.has) rfl);have aK:=zab (hc 12 (slice x.e.2.1 x.e.1.v.length x.e.2.2) rfl);have ah:=zab (hc 13 (slice x.lA x.l.length x.lc) rfl);have ao:=zab (hc 14 (slice x.rA x.ns.length x.rc) rfl);have V:=zab (hc 15 (int i64 x.each) rfl);have aM:=zab (hc 16 (int i64 x.keep) rfl);have t:=a 0 (int i64 y.kind) rfl;rw [Nat.add_zero] at t;have ay:=zab t;have am:=zab (a 1 (int i64 y.fr) rfl);have aH:=zab (a 2 (int i64 y.dst) rfl);have Z:=zab (a 3 (int i64 y.ep) rfl);have aA:=zab (a 4 (int i64 y.op) rfl);have ai:=zab (a 5 (int i64 y.n) rfl);have aB:=zab (a 6 (bool y.flag) rfl);have aJ:=zab (a 7 (.string ⟨y.e.1.k.toArray⟩) rfl);have aq:=zab (a 8 (int i64 y.e.1.s) rfl);have af:=zab (a 9 (int i64 y.e.1.u) rfl);have aO:=zab (a 10 (int i64 y.e.1.o) rfl);have aE:=zab (a 11 (bool y.e.1.has) rfl);have ag:=zab (a 12 (slice y.e.2.1 y.e.1.v.length y.e.2.2) rfl);have aj:=zab (a 13 (slice y.lA y.l.length y.lc) rfl);have ax:=zab (a 14 (slice y.rA y.ns.length y.rc) rfl);have aN:=zab (a 15 (int i64 y.each) rfl);have aI:=zab (a 16 (int i64 y.keep) rfl);have ak:(0:Int)<=(k:Int):=by omega
   have al:(k:Int)<(n:Int):=by omega
   clear z t hc a L O J I v1 v2 hq;go_wp2_with fail
   refine zas (by kernel_rfl) (by kernel_rfl) ?_
   repeat (go_big_quiet_step (first
    | (go_at_call 40;exact za7 (M.out _))))
   refine wpQuiet_nil ?_;intro w' hw';obtain⟨p,rfl⟩:=hw';go_wp2;go_roundw
   case rel=>exact⟨k+1,by omega,by go_num,zhd (j.out.trans (p.bel.mono j.out.size))⟩
   case measure=>simp [intOf];omega
  ·obtain rfl:k=n:=by omega
   go_wp2;go_ret;exact zaM rfl j.out
structure MsN (F:Nat->Prop) (w:World) (A:Option Addr) (us:List MV):Prop where
 row:zaK F w A (msC us)
 val:∀ x∈us,zaK F w x.e.2.1 (x.e.1.v.map zaa)/\x.e.1.v.length<=maxLen/\x.e.1.k.length<=maxLen/\x.e.1.v.length<=x.e.2.2/\x.l=[]/\x.ns=[]
theorem MsN.msR{F:Nat->Prop}{w:World}{A:Option Addr}{us:List MV}(h:MsN F w A us):MsR w A us:=⟨h.row.row,fun x hx=>by
 obtain⟨h1,h2,h3,h4,h5,h6⟩:=h.val x hx;refine⟨⟨h1.row,h2,h3,h4⟩,⟨?_,?_⟩,?_,?_,?_⟩
 ·rw [h5];exact Row.nil _ _ _
 ·rw [h5];intro y hy;cases hy
 ·rw [h5];exact Nat.zero_le _
 ·rw [h6];exact Row.nil _ _ _
 ·rw [h6];exact Nat.zero_le _⟩
theorem MsN.to{F F':Nat->Prop}{w w':World}{A:Option Addr}{us:List MV}(h:MsN F w A us)(hf:∀ k,F' k->F k\/w.heap.size<=k)(ht:Touch F w w'):MsN F' w' A us:=
 ⟨h.row.grow hf ht,fun x hx=>⟨(h.val x hx).1.grow hf ht,(h.val x hx).2⟩⟩
theorem MsN.below{F:Nat->Prop}{w w':World}{A:Option Addr}{us:List MV}(h:MsN F w A us)(hb:Below w.heap.size w w'):MsN F w' A us:=h.to (fun k hk=>Or.inl hk) (Touch.ofBelow hb)
theorem zfQ(F:Nat->Prop)(w:World)(A:Option Addr):MsN F w A []:=⟨Or.inl rfl,fun x a=>by cases a⟩
end
end Go.Proofs.YtahnjkkgojfdmaaGreatDoor
