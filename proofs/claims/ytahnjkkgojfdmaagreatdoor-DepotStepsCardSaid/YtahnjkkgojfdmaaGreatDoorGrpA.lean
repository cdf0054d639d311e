import Derived.Test.YtahnjkkgojfdmaaGreatDoorSZ1
set_option maxRecDepth 100000
set_option maxHeartbeats 8000000
set_option linter.unusedVariables false
namespace Go.Proofs.YtahnjkkgojfdmaaGreatDoor
open Go.IntKind(i64)
open Go.Value(int slice)
section
open Go.RowKit Go.ChangeShapes Mem Be Word Frm Go.Maps
def zv9(x:EntP)(w:World)(e:Ending)(w':World):Prop:=
 ∃ A c,e=.returned (zaT ⟨x.k.toArray⟩ x.s x.u x.o x.has A x.v.length c)/\ValOk w' x.has A x.v c/\Below w.heap.size w w'
theorem zsZ{T:List EntP}{k:List UInt8}(h:∀ x∈T,x.k≠k):ofT T k=zoM k:=by
 unfold ofT;rw [(zfa (key:=kE)).2 h];rfl
theorem zqD{T:List EntP}{k:List UInt8}{j:Nat}(b:j<T.length)(c:T[j].k=k)(h:∀ i,∀ a:i<T.length,i<j->T[i].k≠k):ofT T k=T[j]:=by
 unfold ofT zbF;have:T.find? (fun x=>kE x==k)=some T[j]:=by
  rw [List.find?_eq_some_iff_getElem];refine⟨by simpa using c,j,b,rfl,fun i a=>?_⟩;have:=h i (by omega) a;simpa using this
 rw [this];rfl
theorem zdw(n c:Nat)(A:Option Addr)(a:List EV)(k:List UInt8)(I:n=a.length)(hl:n<=1073741824)(w:World)(h:EnV w A a) :
 Calls Tryz.prog 18 #[slice A n c,.string ⟨k.toArray⟩] w (zv9 (ofT (a.map Prod.fst) k) w):=by
 have K:=zhd I;have Q:=zhd h;have C:Below w.heap.size w (w.alloc (.cells #[.string ⟨#[]⟩,int i64 0,int i64 0,int i64 0,.bool false,slice none 0 0] 46)):=zbl;have af:=zhd C;have X:=zhd (h.below C);have aa:(n:Int)<=1073741824:=by omega
 have ah:(0:Int)<=(n:Int):=by omega
 obtain⟨R,z⟩:∃ R,ofT (a.map Prod.fst) k=R:=⟨_,rfl⟩;have F:=zhd z;rw [z];clear h I hl C z;go_enter Tryz.func18,Tryz.ntmps18
 go_wp2_with fail
 go_loop [5] (fun i=>∃ j:Nat,j<=n/\i=int i64 j/\Hid (∀ i,∀ d:i<a.length,i<j->a[i].1.k≠k)) (fun i=>n - (intOf i).toNat)
 case atStart=>exact⟨0,Nat.zero_le _,rfl,zhd fun i _ h=>by omega⟩
 case round=>
  obtain⟨j,Z,rfl,D⟩:=hrel;by_cases U:j<n
  ·have r:j<a.length:=by rw [<-K.out];exact U
   obtain⟨b,o,rfl,hb,hc⟩:=zbc X.out.row (by omega);obtain⟨a0,J,E,a3,a4,a5⟩:=hc j r;have q:=Q.out.val a[j] (List.getElem_mem r);have l:a[j].1.k≠k->∀ i,∀ d:i<a.length,i<j+1->a[i].1.k≠k:=fun hne i d B=>by
    by_cases W:i=j
    ·subst W;exact hne
    ·exact D.out i d (by omega)
   have m:a[j].1.k=k->a[j].1=R:=fun O=>by
    have B:=zqD (T:=a.map Prod.fst) (k:=k) (j:=j) (by simpa using r) (by simpa using O) (fun i d S=>by simpa using D.out i (by simpa using d) S);rw [F.out] at B;simpa using B.symm
   obtain⟨⟨x,G,L⟩,t⟩:∃ p,a[j]'r=p:=⟨_,rfl⟩;rw [t] at a0 J E a3 a4 a5 q l m;simp only at a0 J E a3 a4 a5 q l m;have N:=zhd q;have ag:(0:Int)<=(j:Int):=by omega
   have ae:(j:Int)<(n:Int):=by omega
   clear hc t q;by_cases g:x.k=k
   ·obtain rfl:=m g;subst g;clear l m;go_wp2_with fail
    refine bodyPost_ret (v:=zaT ⟨x.k.toArray⟩ x.s x.u x.o x.has G x.v.length L) (by simp [results,Tryz.results18,go_sem]) rfl ⟨G,L,rfl,?_,?_⟩
    ·exact N.out.below (zbl)
    ·exact zbl
   ·have ai:((⟨x.k.toArray⟩:ByteArray).toList==(⟨k.toArray⟩:ByteArray).toList)=false:=zfB (fun e=>g (by
     injection e with e;have:=congrArg Array.toList e;simpa using this))
    have ab:(x.k==k)=false:=by simpa using g
    have Y:=zhd (l g);clear g l m;go_wp2;go_round
    case rel=>exact⟨j+1,by omega,by go_num,Y⟩
    case measure=>simp [intOf];omega
  ·obtain rfl:j=n:=by omega
   have M:R=zoM k:=by
    rw [<-F.out];refine zsZ fun x t=>?_;obtain⟨y,V,rfl⟩:=List.mem_map.1 t;obtain⟨i,d,rfl⟩:=List.mem_iff_getElem.1 V;exact D.out i d (by rw [K.out];exact d)
   subst M;go_wp2;refine bodyPost_ret (v:=zaT ⟨k.toArray⟩ 0 0 0 false none 0 0) (by simp [results,Tryz.results18,go_sem]) rfl ⟨none,0,rfl,?_,?_⟩
   ·exact⟨Row.nil _ _ _,by simp [zoM],Nat.le_refl _⟩
   ·exact zbl
end
section
open Go.RowKit Go.ChangeShapes Mem Be Word Frm Go.Maps
theorem zkn{e:EntP}:∀ {T:List EntP},(∀ y∈T,bytesBefore e.k y.k=true)->zhj kE e T=e :: T
 | [],_=>rfl
 | y :: r,h=>by
  unfold zhj;rw [if_pos (h y (by simp))]
theorem zna{e:EntP}:∀ (T:List EntP) (j:Nat),zaO kE T->j<=T.length->(∀ i,∀ v:i<T.length,i<j->bytesBefore T[i].k e.k=true)->(∀ b:j<T.length,bytesBefore T[j].k e.k=false)->
 ∀ m,(m=j+1/\(∃ b:j<T.length,T[j].k=e.k)\/m=j/\∀ b:j<T.length,T[j].k≠e.k)->zbZ kE T e=T.take j++e :: T.drop m
 | [],j,_,b,_,_,m,hm=>by
  have:j=0:=by simpa using b
  subst this;rw [List.drop_nil];rfl
 | y :: r,0,hs,_,_,hno,m,hm=>by
  have s:bytesBefore y.k e.k=false:=hno (by simp);have c:=List.pairwise_cons.1 hs;rcases hm with⟨rfl,b,o⟩|⟨rfl,hne⟩
  ·have g:y.k=e.k:=o;have l:zgl kE (kE e) (y :: r)=r:=by
    unfold zgl;rw [List.filter_cons,if_neg (by simp [g])];exact zeM (key:=kE) fun x a=>fun h=>zfF (c.1 x a) (g.trans h.symm)
   unfold zbZ;rw [l];exact zkn fun x a=>by have:=c.1 x a;rw [show kE y=e.k from g] at this;exact this
  ·have A:y.k≠e.k:=hne (by simp);have u:bytesBefore e.k y.k=true:=by
    rcases WideAt.bytes_total _ _ (Ne.symm A) with h|h
    ·exact h
    ·rw [h] at s;cases s
   have t:∀ x∈y :: r,bytesBefore e.k x.k=true:=fun x a=>by
    rcases List.mem_cons.1 a with rfl|a
    ·exact u
    ·exact ze9 u (c.1 x a)
   unfold zbZ;rw [zeM (key:=kE) fun x a=>fun h=>zfF (t x a) h.symm];exact zkn t
 | y :: r,j+1,hs,b,hb,hno,m,hm=>by
  have c:=List.pairwise_cons.1 hs;have q:bytesBefore y.k e.k=true:=hb 0 (by simp) (by omega);obtain⟨d,rfl⟩:∃ d,m=d+1:=by rcases hm with⟨h,_⟩|⟨h,_⟩<;>exact⟨m - 1,by omega⟩
  have ih:=zna r j c.2 (by simpa using b) (fun i v h=>hb (i+1) (by simpa using v) (by omega)) (fun h=>hno (by simpa using h)) d (by
   rcases hm with⟨h,z,o⟩|⟨h,hne⟩
   ·exact Or.inl ⟨by omega,by simpa using z,o⟩
   ·exact Or.inr ⟨by omega,fun p=>hne (by simpa using p)⟩)
  have l:zgl kE (kE e) (y :: r)=y :: zgl kE (kE e) r:=by
   unfold zgl;rw [List.filter_cons,if_pos (by simp;exact zfF q)]
  have B:bytesBefore e.k y.k=false:=by
   cases h:bytesBefore e.k y.k
   ·rfl
   ·exact absurd (ze9 q h) (fun p=>zfF p rfl)
  unfold zbZ at ih ⊢;rw [l];unfold zhj;rw [if_neg (by rw [show bytesBefore (kE e) (kE y)=false from B];simp),ih];rfl
theorem cutE(W:World)(A:Option Addr)(n c k:Nat)(h:k<=n):(Instr.slice 33 (slice A n c) (some (int i64 (k:Int))) none none).run Tryz.prog W=.ok (slice (if c=k then A else A.map (·.add (k*6))) (n - k) (c - k)) W:=by
 obtain⟨i,b,g,a,d⟩:=info_parts ziy;simp [Instr.slice,run_underlying Tryz.underlying33,Instr.sliceBounds,Instr.sliceBound,asIntOf,sizeOf,typeInfo,b,a,h]
theorem zqE{w:World}{B:Nat}{A:Option Addr}{a:List EV}{c k:Nat}(h:Row w B A (zaG a))(hc:a.length<=c)(t:k<=a.length):Row w B (if c=k then A else A.map (·.add (k*6))) (zaG (a.drop k)):=by
 rcases Nat.lt_or_ge k a.length with s|l
 ·obtain⟨b,o,rfl,p,i⟩:=h.open_ (by rw [zcA];omega);rw [if_neg (by omega)];have e:(some (⟨b,o,none⟩:Addr)).map (·.add (k*6))=some ⟨b,o+k*6,none⟩:=by
   show some ((⟨b,o,none⟩:Addr).add (k*6))=_
   unfold Addr.add;split
   ·rename_i q;rw [q];rfl
   ·rfl
  rw [e];refine Or.inr ⟨b,o+k*6,rfl,p,fun j r=>?_⟩;have d:zaG a=zaG (a.take k)++zaG (a.drop k):=by rw [<-zdr,List.take_append_drop]
  have hl:(zaG (a.take k)).length=k*6:=by rw [zcA,List.length_take];congr 1;omega
  have g:k*6+j<(zaG a).length:=by rw [d,List.length_append,hl];omega
  have m:=i (k*6+j) g;rw [show o+k*6+j=o+(k*6+j) by omega,m]
  congr 1
  rw [List.getElem_of_eq d];rw [List.getElem_append_right (by omega)]
  congr 1
  omega
 ·have:a.drop k=[]:=List.drop_eq_nil_of_le l;rw [this];exact Or.inl rfl
end
section
open Go.RowKit Go.ChangeShapes Mem Be Word Frm Go.Maps
def zw6(T:List EntP)(w:World)(e:Ending)(w':World):Prop:=
 ∃ (vs:List EV) (A:Option Addr) (c:Nat),vs.map Prod.fst=T/\e=.returned (slice A vs.length c)/\vs.length<=c/\EnV w' A vs/\Below w.heap.size w w'
def zlM(us:List EV)(x:EV)(T:List EntP)(w:World)(e:Ending)(w':World):Prop:=
 ∃ (vs:List EV) (A:Option Addr) (c:Nat),vs.map Prod.fst=T/\e=.returned (slice A vs.length c)/\vs.length<=c/\EnV w' A vs/\Below w.heap.size w w'/\(∀ y∈vs,y∈us\/y=x)/\w'.ownsRow w.heap.size 46 6 (slice A vs.length c) vs.length (zaG vs)
theorem zlM.p{us:List EV}{x:EV}{T:List EntP}{w w':World}{e:Ending}(h:zlM us x T w e w'):zw6 T w e w':=by
 obtain⟨vs,A,c,h1,h2,h3,h4,h5,_⟩:=h;exact⟨vs,A,c,h1,h2,h3,h4,h5⟩
theorem zi1{b:List EV}{x:EV}{w W1 c:World}{h:Option Addr}{c9 d B:Nat}{j m:Nat}{T:List EntP}(q:T=(b.map Prod.fst).take j++x.1 :: (b.map Prod.fst).drop m)(o:Below w.heap.size w c)(r:EnV c none []->True)
 (i:∀ y∈b,ValOk c y.1.has y.2.1 y.1.v y.2.2) (p:ValOk c x.1.has x.2.1 x.1.v x.2.2) (k:w.heap.size<=B) (l:d=((b.take j++[x])++b.drop m).length) (g:c.ownsRow B 46 6 (slice h d c9) d (zaG ((b.take j++[x])++b.drop m))) :
 zlM b x T w (.returned (slice h d c9)) c:=by
 subst l;obtain⟨_,_,e,hc,_⟩:=zat g;injection e with _ _ e;subst e;refine⟨_,h,c9,?_,rfl,hc,⟨zcz g,fun y a=>?_⟩,o,fun y a=>?_,zaz g k⟩
 ·rw [q];simp
 ·rcases List.mem_append.1 a with a|a
  ·rcases List.mem_append.1 a with a|a
   ·exact i y (List.mem_of_mem_take a)
   ·obtain rfl:y=x:=by simpa using a
    exact p
  ·exact i y (List.mem_of_mem_drop a)
 ·rcases List.mem_append.1 a with a|a
  ·rcases List.mem_append.1 a with a|a
   ·exact Or.inl (List.mem_of_mem_take a)
   ·exact Or.inr (by simpa using a)
  ·exact Or.inl (List.mem_of_mem_drop a)
theorem zuQ(A:Option Addr)(a:List EV)(n c k:Nat)(i:Int)(g:i=(k:Int))(d:k<=n)(j:n=a.length)(hc:n<=c) :
 ∃ b,(∀ W,(Instr.slice 33 (slice A n c) (some (int i64 i)) none none).run Tryz.prog W=.ok (slice b (n - k) (c - k)) W)/\∀ B W,Row W B A (zaG a)->Row W B b (zaG (a.drop k)):=by
 subst g;exact⟨_,fun W=>cutE W A n c k d,fun B W h=>zqE h (by omega) (by omega)⟩
theorem zko(n c:Nat)(A:Option Addr)(a:List EV)(x:EV)(hn:n=a.length)(aU:n<=c)(hl:n<=100000000)(w:World)(h:EnV w A a)(hs:zaO kE (a.map Prod.fst))(hv:ValOk w x.1.has x.2.1 x.1.v x.2.2) :
 Calls Tryz.prog 97 #[slice A n c,zaT ⟨x.1.k.toArray⟩ x.1.s x.1.u x.1.o x.1.has x.2.1 x.1.v.length x.2.2] w (zlM a x (zbZ kE (a.map Prod.fst) x.1) w):=by
 obtain⟨i0,am,ak,aj,aq⟩:=info_parts ziy;obtain⟨⟨d,t,r,B,C,D⟩,E,F⟩:=x;simp only at hv ⊢;obtain⟨T,hT⟩:∃ T,zbZ kE (a.map Prod.fst) ⟨d,t,r,B,C,D⟩=T:=⟨_,rfl⟩;have aS:=fun j h1 h2 h3 m h4=>(zna (e:=⟨d,t,r,B,C,D⟩) (a.map Prod.fst) j hs h1 h2 h3 m h4).symm.trans hT;rw [hT];have aP:=zhd aS;have W:=zhd hn;obtain⟨W1,aV⟩:∃ W1,w.alloc (.cells #[.string ⟨d.toArray⟩,int i64 t,int i64 r,int i64 B,.bool C,slice E D.length F] 46)=W1:=⟨_,rfl⟩;have aL:Below w.heap.size w W1:=by rw [<-aV];exact zbl
 have aT:Blk W1 w.heap.size 46 #[.string ⟨d.toArray⟩,int i64 t,int i64 r,int i64 B,.bool C,slice E D.length F]:=by rw [<-aV];exact Blk.new w _ _
 have aa:=zhd aL;have Q:=zhd aT;have HE:=zhd (h.below aL);have HV:=zhd (hv.below aL);have aQ:=zhd aU;have bh:(n:Int)<=100000000:=by omega
 have bk:(0:Int)<=(n:Int):=by omega
 clear h hn aU hl hs hv hT aS aL aT;unfold zaT;go_enter Tryz.func97,Tryz.ntmps97
 go_wp2_with fail
 go_loopw [5,6] (fun v i wr=>∃ (j:Nat) (A1:Option Addr) (c1 N1:Nat),j<=n/\i=int i64 j/\v=slice A1 N1 c1/\Hid (N1=(a.take j).length)/\Hid (wr.ownsRow W1.heap.size 46 6 (slice A1 N1 c1) N1 (zaG (a.take j)))/\Hid (∀ i,∀ hi:i<a.length,i<j->bytesBefore a[i].1.k d=true)/\Hid (Below W1.heap.size W1 wr)) (fun _ i _=>n - (intOf i).toNat)
 case atStart=>exact⟨0,none,0,0,Nat.zero_le _,rfl,rfl,zhd rfl,zhd (World.ownsRow_nil _ _ _ _),zhd (fun i _ h=>by omega),zhd (Below.refl _ _)⟩
 case round=>
  obtain⟨j,A1,c1,N1,hj,rfl,rfl,aK,HO,aO,Z⟩:=hrel;obtain rfl:j=N1:=by have:=aK.out;rw [List.length_take] at this;have:=W.out;omega
  have aN:∀ z:EV,zaG [z]=zbf z:=fun z=>by simp [zaG]
  have aG:=zhd (Q.out.below Z.out Q.out.lt);have k0:=aG.out.cell 0;have l0:=zab k0;have bl:(0:Int)<=(j:Int):=by omega
  by_cases bf:j<n
  ·have ax:j<a.length:=by rw [<-W.out];exact bf
   have bm:(j:Int)<(n:Int):=by omega
   obtain⟨b,o,rfl,hb,hc⟩:=zbc (HE.out.below Z.out).row (by omega);obtain⟨a0,a1,a2,a3,a4,a5⟩:=hc j ax;have az:bytesBefore a[j].1.k d=true->∀ i,∀ hi:i<a.length,i<j+1->bytesBefore a[i].1.k d=true:=fun hne i hi h1=>by
    by_cases aY:i=j
    ·subst aY;exact hne
    ·exact aO.out i hi (by omega)
   have aA:a.take (j+1)=a.take j++[a[j]]:=List.take_succ_eq_append_getElem ax;have ay:a[j].1.k=d->(j+1=j+1/\(∃ hj:j<(a.map Prod.fst).length,(a.map Prod.fst)[j].k=d)):=fun h=>⟨rfl,by simpa using ax,by simpa using h⟩;have ao:∀ bg:j<(a.map Prod.fst).length,(a.map Prod.fst)[j].k=a[j].1.k:=fun _=>by simp
   obtain⟨⟨y,yA,yc⟩,hy⟩:∃ p,a[j]'ax=p:=⟨_,rfl⟩;have aW:Hid (a[j]=(y,yA,yc)):=zhd hy;rw [hy] at a0 a1 a2 a3 a4 a5 az aA ay ao;simp only at a0 a1 a2 a3 a4 a5 az aA ay ao;have HA:=zhd (And.intro a0 (And.intro a1 (And.intro a2 (And.intro a3 (And.intro a4 a5)))));have m0:=zab a0;clear hc hy a1 a2 a3 a4 a5 a0 k0;cases hbf:bytesBefore y.k d
   ·have aD:Op.bytesLess y.k d=false:=(zeN _ _).trans hbf;have aM:∀ bg:j<(a.map Prod.fst).length,bytesBefore (a.map Prod.fst)[j].k d=false:=fun h9=>by rw [ao h9];exact hbf
    by_cases aH:y.k=d
    ·have aE:=zhd (aP.out j (by simp;omega) (fun i hi h1=>by simpa using aO.out i (by simpa using hi) h1) aM (j+1) (Or.inl ⟨rfl,(ay aH).2⟩));rw [aH] at aD;have m9:j+1<=n:=by omega
     clear az aA ay ao hbf aM;go_wp2_with fail
     refine zas (by kernel_rfl) (by kernel_rfl) ?_
     repeat (go_big_quiet_step (fail))
     refine wpQuiet_nil ?_;intro w' hw';obtain⟨p,rfl⟩:=hw';have X:=zhd (zag HO.out p.bel);have K:=zhd (Z.out.trans (p.bel.mono Z.out.size));obtain⟨w4,Y⟩:∃ w4,p.world=w4:=⟨_,rfl⟩;rw [Y] at X K ⊢;have G:=zhd (Q.out.below K.out Q.out.lt);have t0:=G.out.cell 0;have t1:=G.out.cell 1;have t2:=G.out.cell 2;have t3:=G.out.cell 3;have t4:=G.out.cell 4;have t5:=G.out.cell 5;have N:=(Below.refl w4.heap.size w4).alloc (Nat.le_refl _) (.cells ⟨zbf (⟨d,t,r,B,C,D⟩,E,F)⟩ 46);have M:=zhd (zag X.out N);have al:Hid (Blk (w4.alloc (.cells ⟨zbf (⟨d,t,r,B,C,D⟩,E,F)⟩ 46)) w4.heap.size 46 ⟨zbf (⟨d,t,r,B,C,D⟩,E,F)⟩):=zhd (Blk.new _ _ _);have J:=zhd (K.out.trans (N.mono K.out.size));clear N Y l0 aG m0 HA aD;go_wp2_with (at_builtin;refine zaN (P:=Tryz.prog) (by rfl) _ _ _ (by rfl) W1.heap.size 46 i0 (evV (evN [])) 6 72 Tryz.underlying33 am ak aj aq rfl (by decide) _ j (zaG (a.take j)) (by rfl) (by exact M.out) (w4.heap.size+1) (some ⟨w4.heap.size,0,none⟩) 1 1 (zaG [(⟨d,t,r,B,C,D⟩,E,F)]) (by rfl) (by rfl) (by exact zgF al.out (by omega)) (zcB _) (by unfold maxLen;omega) (by omega) (by exact J.out.size) ?_)
     intro v' w5 l I S;obtain⟨A5,c5,rfl,_,_⟩:=zat l;rw [<-aN,<-zdr] at l;have an:=zhd l;have L:=zhd (J.out.grown I J.out.size fun g h=>(M.out.lt g h).1);have aI:=zhd (Q.out.below L.out Q.out.lt);have aw:=zhd (HE.out.below L.out);have l0:=zab (show w5.cell? ⟨w.heap.size,0,none⟩=some (.string ⟨d.toArray⟩) from aI.out.cell 0);obtain⟨b9,o9,e9,_,hc⟩:=zbc aw.out.row (by omega);injection e9 with e9;injection e9 with e91 e92;subst e91;subst e92;have y0:=(hc j ax).1;rw [aW.out] at y0;have m0:=zab y0;clear hc y0;clear l I S M J t0 t1 t2 t3 t4 t5 G;go_wp2_with fail
     refine zas (by kernel_rfl) (by kernel_rfl) ?_
     repeat (go_big_quiet_step (fail))
     refine wpQuiet_nil ?_;intro w' hw';obtain⟨p,rfl⟩:=hw';have V:=zhd (zag an.out p.bel);have O:=zhd (L.out.trans (p.bel.mono L.out.size));have ah:=zhd (aw.out.below p.bel);obtain⟨R,ab⟩:∃ R,p.world=R:=⟨_,rfl⟩;rw [ab] at V O ah ⊢;obtain⟨A9,ag,af⟩:=zuQ _ a n c (j+1) ((j:Int)+1) (by omega) (by omega) W.out aQ.out;have aX:=ag R;have aB:=zhd (af _ _ ah.out.row);clear ag af;have ai:Hid (n - (j+1)=(a.drop (j+1)).length):=zhd (by rw [List.length_drop];have:=W.out;omega);clear ab l0;go_wp2_with (at_builtin;refine zaN (P:=Tryz.prog) (by rfl) _ _ _ (by rfl) W1.heap.size 46 i0 (evV (evN [])) 6 72 Tryz.underlying33 am ak aj aq rfl (by decide) _ (j+1) (zaG (a.take j++[(⟨d,t,r,B,C,D⟩,E,F)])) (by rfl) (by exact V.out) R.heap.size A9 (n - (j+1)) (c - (j+1)) (zaG (a.drop (j+1))) (by rfl) (by rw [zcA,ai.out]) (by exact aB.out) (zcB _) (by unfold maxLen;omega) (by omega) (by exact O.out.size) ?_)
     intro v' w7 l I S;obtain⟨A7,c7,rfl,_,_⟩:=zat l;have ae:w7.ownsRow W1.heap.size 46 6 (slice A7 (n) c7) (n) (zaG ((a.take j++[(⟨d,t,r,B,C,D⟩,E,F)])++a.drop (j+1))):=by simpa [zaG] using l
     have U:=zhd (O.out.grown I O.out.size fun g h=>(V.out.lt g h).1);have aJ:Hid (zlM a (⟨d,t,r,B,C,D⟩,E,F) T w (.returned (slice A7 (n) c7)) w7):=zhd (zi1 (W1:=W1) (x:=(⟨d,t,r,B,C,D⟩,E,F)) aE.out.symm (aa.out.trans (U.out.mono aa.out.size)) (fun _=>trivial) (fun y hy=>(HE.out.val y hy).below U.out) (HV.out.below U.out) aa.out.size (by rw [List.length_append,List.length_append,<-aK.out,<-ai.out,List.length_singleton];omega) ae);clear l ae I S;go_wp2;go_ret;exact aJ.out
    ·have aE:=zhd (aP.out j (by simp;omega) (fun i hi h1=>by simpa using aO.out i (by simpa using hi) h1) aM j (Or.inr ⟨rfl,fun h9=>by rw [ao h9];exact aH⟩));have bi:((⟨y.k.toArray⟩:ByteArray).toList==(⟨d.toArray⟩:ByteArray).toList)=false:=zfB (fun e=>aH (by
      injection e with e;have:=congrArg Array.toList e;simpa using this))
     have bj:(y.k==d)=false:=by simpa using aH
     clear az aA ay ao hbf aM;go_wp2_with fail
     refine zas (by kernel_rfl) (by kernel_rfl) ?_
     repeat (go_big_quiet_step (fail))
     refine wpQuiet_nil ?_;intro w' hw';obtain⟨p,rfl⟩:=hw';have X:=zhd (zag HO.out p.bel);have K:=zhd (Z.out.trans (p.bel.mono Z.out.size));obtain⟨w4,Y⟩:∃ w4,p.world=w4:=⟨_,rfl⟩;rw [Y] at X K ⊢;have G:=zhd (Q.out.below K.out Q.out.lt);have t0:=G.out.cell 0;have t1:=G.out.cell 1;have t2:=G.out.cell 2;have t3:=G.out.cell 3;have t4:=G.out.cell 4;have t5:=G.out.cell 5;have N:=(Below.refl w4.heap.size w4).alloc (Nat.le_refl _) (.cells ⟨zbf (⟨d,t,r,B,C,D⟩,E,F)⟩ 46);have M:=zhd (zag X.out N);have al:Hid (Blk (w4.alloc (.cells ⟨zbf (⟨d,t,r,B,C,D⟩,E,F)⟩ 46)) w4.heap.size 46 ⟨zbf (⟨d,t,r,B,C,D⟩,E,F)⟩):=zhd (Blk.new _ _ _);have J:=zhd (K.out.trans (N.mono K.out.size));clear N Y l0 aG m0 HA aD;go_wp2_with (at_builtin;refine zaN (P:=Tryz.prog) (by rfl) _ _ _ (by rfl) W1.heap.size 46 i0 (evV (evN [])) 6 72 Tryz.underlying33 am ak aj aq rfl (by decide) _ j (zaG (a.take j)) (by rfl) (by exact M.out) (w4.heap.size+1) (some ⟨w4.heap.size,0,none⟩) 1 1 (zaG [(⟨d,t,r,B,C,D⟩,E,F)]) (by rfl) (by rfl) (by exact zgF al.out (by omega)) (zcB _) (by unfold maxLen;omega) (by omega) (by exact J.out.size) ?_)
     intro v' w5 l I S;obtain⟨A5,c5,rfl,_,_⟩:=zat l;rw [<-aN,<-zdr] at l;have an:=zhd l;have L:=zhd (J.out.grown I J.out.size fun g h=>(M.out.lt g h).1);have aI:=zhd (Q.out.below L.out Q.out.lt);have aw:=zhd (HE.out.below L.out);have l0:=zab (show w5.cell? ⟨w.heap.size,0,none⟩=some (.string ⟨d.toArray⟩) from aI.out.cell 0);obtain⟨b9,o9,e9,_,hc⟩:=zbc aw.out.row (by omega);injection e9 with e9;injection e9 with e91 e92;subst e91;subst e92;have y0:=(hc j ax).1;rw [aW.out] at y0;have m0:=zab y0;clear hc y0;clear l I S M J t0 t1 t2 t3 t4 t5 G;go_wp2_with fail
     refine zas (by kernel_rfl) (by kernel_rfl) ?_
     repeat (go_big_quiet_step (fail))
     refine wpQuiet_nil ?_;intro w' hw';obtain⟨p,rfl⟩:=hw';have V:=zhd (zag an.out p.bel);have O:=zhd (L.out.trans (p.bel.mono L.out.size));have ah:=zhd (aw.out.below p.bel);obtain⟨R,ab⟩:∃ R,p.world=R:=⟨_,rfl⟩;rw [ab] at V O ah ⊢;obtain⟨A9,ag,af⟩:=zuQ _ a n c (j) (j:Int) (by omega) (by omega) W.out aQ.out;have aX:=ag R;have aB:=zhd (af _ _ ah.out.row);clear ag af;have ai:Hid (n - j=(a.drop (j)).length):=zhd (by rw [List.length_drop];have:=W.out;omega);clear ab l0;go_wp2_with (at_builtin;refine zaN (P:=Tryz.prog) (by rfl) _ _ _ (by rfl) W1.heap.size 46 i0 (evV (evN [])) 6 72 Tryz.underlying33 am ak aj aq rfl (by decide) _ (j+1) (zaG (a.take j++[(⟨d,t,r,B,C,D⟩,E,F)])) (by rfl) (by exact V.out) R.heap.size A9 (n - j) (c - (j)) (zaG (a.drop (j))) (by rfl) (by rw [zcA,ai.out]) (by exact aB.out) (zcB _) (by unfold maxLen;omega) (by omega) (by exact O.out.size) ?_)
     intro v' w7 l I S;obtain⟨A7,c7,rfl,_,_⟩:=zat l;have ae:w7.ownsRow W1.heap.size 46 6 (slice A7 (j+1+(n - j)) c7) (j+1+(n - j)) (zaG ((a.take j++[(⟨d,t,r,B,C,D⟩,E,F)])++a.drop (j))):=by simpa [zaG] using l
     have U:=zhd (O.out.grown I O.out.size fun g h=>(V.out.lt g h).1);have aJ:Hid (zlM a (⟨d,t,r,B,C,D⟩,E,F) T w (.returned (slice A7 (j+1+(n - j)) c7)) w7):=zhd (zi1 (W1:=W1) (x:=(⟨d,t,r,B,C,D⟩,E,F)) aE.out.symm (aa.out.trans (U.out.mono aa.out.size)) (fun _=>trivial) (fun y hy=>(HE.out.val y hy).below U.out) (HV.out.below U.out) aa.out.size (by rw [List.length_append,List.length_append,<-aK.out,<-ai.out,List.length_singleton]) ae);clear l ae I S;go_wp2;go_ret;exact aJ.out
   ·have aD:Op.bytesLess y.k d=true:=(zeN _ _).trans hbf;have bd:=zhd (az hbf);have aR:=zhd aA;clear az aA ay ao hbf;go_wp2_with fail
    refine zas (by kernel_rfl) (by kernel_rfl) ?_
    repeat (go_big_quiet_step (fail))
    refine wpQuiet_nil ?_;intro w' hw';obtain⟨p,rfl⟩:=hw';have au:=fun(q:Nat) (v:Value) (hv:wr.cell? ⟨b,q,none⟩=some v)=>zab hv p;have a0:=au _ _ HA.out.1;have a1:=au _ _ HA.out.2.1;have a2:=au _ _ HA.out.2.2.1;have a3:=au _ _ HA.out.2.2.2.1;have a4:=au _ _ HA.out.2.2.2.2.1;have a5:=au _ _ HA.out.2.2.2.2.2;have X:=zhd (zag HO.out p.bel);have K:=zhd (Z.out.trans (p.bel.mono Z.out.size));obtain⟨w4,Y⟩:∃ w4,p.world=w4:=⟨_,rfl⟩;rw [Y] at a0 a1 a2 a3 a4 a5 X K ⊢;have N:=(Below.refl w4.heap.size w4).alloc (Nat.le_refl _) (.cells ⟨zbf (y,yA,yc)⟩ 46);have M:=zhd (zag X.out N);have al:Hid (Blk (w4.alloc (.cells ⟨zbf (y,yA,yc)⟩ 46)) w4.heap.size 46 ⟨zbf (y,yA,yc)⟩):=zhd (Blk.new _ _ _);have J:=zhd (K.out.trans (N.mono K.out.size));clear au N Y l0 m0 aD HA aG;go_wp2_with (at_builtin;refine zaN (P:=Tryz.prog) (by rfl) _ _ _ (by rfl) W1.heap.size 46 i0 (evV (evN [])) 6 72 Tryz.underlying33 am ak aj aq rfl (by decide) _ j (zaG (a.take j)) (by rfl) (by exact M.out) (w4.heap.size+1) (some ⟨w4.heap.size,0,none⟩) 1 1 (zaG [(y,yA,yc)]) (by rfl) (by rfl) (by exact zgF al.out (by omega)) (zcB _) (by unfold maxLen;omega) (by omega) (by exact J.out.size) ?_)
    intro v' w5 l I S;obtain⟨A5,c5,rfl,_,_⟩:=zat l;have an:Hid (w5.ownsRow W1.heap.size 46 6 (slice A5 (j+1) c5) (j+1) (zaG (a.take (j+1)))):=zhd (by rw [aR.out,zdr,aN];exact l);have aZ:Hid (j+1=(a.take (j+1)).length):=zhd (by rw [aR.out,List.length_append,<-aK.out];rfl);have L:=zhd (J.out.grown I J.out.size fun g h=>(M.out.lt g h).1);clear l I S M J;go_wp2;go_roundw
    case rel=>exact⟨j+1,A5,c5,j+1,by omega,by go_num,rfl,aZ,an,bd,L⟩
    case measure=>simp [intOf];omega
  ·obtain rfl:j=n:=by omega
   have aE:=zhd (aP.out j (by simp;have:=W.out;omega) (fun i hi h1=>by simpa using aO.out i (by simpa using hi) h1) (fun h9=>by exfalso;have:=W.out;simp at h9;omega) j (Or.inr ⟨rfl,fun h9=>by exfalso;have:=W.out;simp at h9;omega⟩));clear k0;go_wp2_with fail
   refine zas (by kernel_rfl) (by kernel_rfl) ?_
   repeat (go_big_quiet_step (fail))
   refine wpQuiet_nil ?_;intro w' hw';obtain⟨p,rfl⟩:=hw';have X:=zhd (zag HO.out p.bel);have K:=zhd (Z.out.trans (p.bel.mono Z.out.size));obtain⟨w4,Y⟩:∃ w4,p.world=w4:=⟨_,rfl⟩;rw [Y] at X K ⊢;have G:=zhd (Q.out.below K.out Q.out.lt);have t0:=G.out.cell 0;have t1:=G.out.cell 1;have t2:=G.out.cell 2;have t3:=G.out.cell 3;have t4:=G.out.cell 4;have t5:=G.out.cell 5;have N:=(Below.refl w4.heap.size w4).alloc (Nat.le_refl _) (.cells ⟨zbf (⟨d,t,r,B,C,D⟩,E,F)⟩ 46);have M:=zhd (zag X.out N);have al:Hid (Blk (w4.alloc (.cells ⟨zbf (⟨d,t,r,B,C,D⟩,E,F)⟩ 46)) w4.heap.size 46 ⟨zbf (⟨d,t,r,B,C,D⟩,E,F)⟩):=zhd (Blk.new _ _ _);have J:=zhd (K.out.trans (N.mono K.out.size));clear N Y l0 aG;go_wp2_with (at_builtin;refine zaN (P:=Tryz.prog) (by rfl) _ _ _ (by rfl) W1.heap.size 46 i0 (evV (evN [])) 6 72 Tryz.underlying33 am ak aj aq rfl (by decide) _ j (zaG (a.take j)) (by rfl) (by exact M.out) (w4.heap.size+1) (some ⟨w4.heap.size,0,none⟩) 1 1 (zaG [(⟨d,t,r,B,C,D⟩,E,F)]) (by rfl) (by rfl) (by exact zgF al.out (by omega)) (zcB _) (by unfold maxLen;omega) (by omega) (by exact J.out.size) ?_)
   intro v' w5 l I S;obtain⟨A5,c5,rfl,_,_⟩:=zat l;rw [<-aN,<-zdr] at l;have an:=zhd l;have L:=zhd (J.out.grown I J.out.size fun g h=>(M.out.lt g h).1);have aI:=zhd (Q.out.below L.out Q.out.lt);have aw:=zhd (HE.out.below L.out);have l0:=zab (show w5.cell? ⟨w.heap.size,0,none⟩=some (.string ⟨d.toArray⟩) from aI.out.cell 0);have hq:True:=trivial;clear l I S M J t0 t1 t2 t3 t4 t5 G;go_wp2_with fail
   refine zas (by kernel_rfl) (by kernel_rfl) ?_
   repeat (go_big_quiet_step (fail))
   refine wpQuiet_nil ?_;intro w' hw';obtain⟨p,rfl⟩:=hw';have V:=zhd (zag an.out p.bel);have O:=zhd (L.out.trans (p.bel.mono L.out.size));have ah:=zhd (aw.out.below p.bel);obtain⟨R,ab⟩:∃ R,p.world=R:=⟨_,rfl⟩;rw [ab] at V O ah ⊢;obtain⟨A9,ag,af⟩:=zuQ _ a j c (j) (j:Int) (by omega) (by omega) W.out aQ.out;have aX:=ag R;have aB:=zhd (af _ _ ah.out.row);clear ag af;have ai:Hid (0=(a.drop (j)).length):=zhd (by rw [List.length_drop];have:=W.out;omega);clear ab l0;go_wp2_with (at_builtin;refine zaN (P:=Tryz.prog) (by rfl) _ _ _ (by rfl) W1.heap.size 46 i0 (evV (evN [])) 6 72 Tryz.underlying33 am ak aj aq rfl (by decide) _ (j+1) (zaG (a.take j++[(⟨d,t,r,B,C,D⟩,E,F)])) (by rfl) (by exact V.out) R.heap.size A9 (0) (c - (j)) (zaG (a.drop (j))) (by rfl) (by rw [zcA,ai.out]) (by exact aB.out) (zcB _) (by unfold maxLen;omega) (by omega) (by exact O.out.size) ?_)
   intro v' w7 l I S;obtain⟨A7,c7,rfl,_,_⟩:=zat l;have ae:w7.ownsRow W1.heap.size 46 6 (slice A7 (j+1) c7) (j+1) (zaG ((a.take j++[(⟨d,t,r,B,C,D⟩,E,F)])++a.drop (j))):=by simpa [zaG] using l
   have U:=zhd (O.out.grown I O.out.size fun g h=>(V.out.lt g h).1);have aJ:Hid (zlM a (⟨d,t,r,B,C,D⟩,E,F) T w (.returned (slice A7 (j+1) c7)) w7):=zhd (zi1 (W1:=W1) (x:=(⟨d,t,r,B,C,D⟩,E,F)) aE.out.symm (aa.out.trans (U.out.mono aa.out.size)) (fun _=>trivial) (fun y hy=>(HE.out.val y hy).below U.out) (HV.out.below U.out) aa.out.size (by rw [List.length_append,List.length_append,<-aK.out,<-ai.out,List.length_singleton]) ae);clear l ae I S;go_wp2;go_ret;exact aJ.out
end
section
open Go.RowKit Go.ChangeShapes Mem Be Word Frm Go.Maps
end
section
open Go.RowKit Go.ChangeShapes Mem Be Word Frm Go.Maps
def zi2(F:Nat->Prop)(w:World)(x:EV):Prop:=zaK F w x.2.1 (x.1.v.map zaa)/\x.1.v.length<=60000/\x.1.v.length<=x.2.2
theorem zi2.ok{F:Nat->Prop}{w:World}{x:EV}(h:zi2 F w x):ValOk w x.1.has x.2.1 x.1.v x.2.2:=⟨h.1.row,by have:=h.2.1;omega,h.2.2⟩
theorem zi2.below{F:Nat->Prop}{w w':World}{x:EV}(h:zi2 F w x)(hb:Below w.heap.size w w'):zi2 F w' x:=⟨h.1.grow (fun k hk=>Or.inl hk) (Touch.ofBelow hb),h.2⟩
def zqF(F:Nat->Prop)(T:List EntP)(w:World)(e:Ending)(w':World):Prop:=
 ∃ (vs:List EV) (A:Option Addr) (c:Nat),vs.map Prod.fst=T/\e=.returned (slice A vs.length c)/\vs.length<=c/\EnN F w' A vs/\Below w.heap.size w w'
theorem zfZ(w:World)(F:Nat->Prop)(i:∀ k,F k->k<w.heap.size)(n c:Nat)(A:Option Addr)(a:List EV)(x:EV)(C:n=a.length)(m:n<=c)(hl:n<=100000000)(h:EnN F w A a)(r:zaO kE (a.map Prod.fst))(d:zi2 F w x) :
 Calls Tryz.prog 97 #[slice A n c,zaT ⟨x.1.k.toArray⟩ x.1.s x.1.u x.1.o x.1.has x.2.1 x.1.v.length x.2.2] w (zqF F (zbZ kE (a.map Prod.fst) x.1) w):=by
 refine(zko n c A a x C m hl w h.env r d.ok).mono ?_;rintro e w' ⟨B,l,c',j,z,q,D,b,p,t⟩;refine⟨B,l,c',j,z,q,⟨zaF i t,fun y g=>?_⟩,b⟩;rcases p y g with h|rfl
 ·exact zi2.below (x:=y) (by exact EnN.val ‹EnN F w A a› y h) b
 ·exact d.below b
end
section
open Go.RowKit Go.ChangeShapes Mem Be Word Frm Go.Maps
theorem zeU(F:Nat->Prop)(n c:Nat)(A:Option Addr)(d:List EV)(x:EV)(D:n=d.length)(ae:n<=c)(hl:n<=100000000)(w:World)(hF:∀ k,F k->k<w.heap.size)(h:EnN F w A d)(S:zaO kE (d.map Prod.fst))(E:zi2 F w x) :
 Calls Tryz.prog 106 #[slice A n c,zaT ⟨x.1.k.toArray⟩ x.1.s x.1.u x.1.o x.1.has x.2.1 x.1.v.length x.2.2] w (zqF F (zhk (d.map Prod.fst) x.1) w):=by
 obtain⟨⟨b,l,j,i,r,t⟩,C,G⟩:=x;simp only at E ⊢;obtain⟨W1,ah⟩:∃ W1,w.alloc (.cells #[.string ⟨b.toArray⟩,int i64 l,int i64 j,int i64 i,.bool r,slice C t.length G] 46)=W1:=⟨_,rfl⟩;have g:Below w.heap.size w W1:=by rw [<-ah];exact zbl
 have p:Blk W1 w.heap.size 46 #[.string ⟨b.toArray⟩,int i64 l,int i64 j,int i64 i,.bool r,slice C t.length G]:=by rw [<-ah];exact Blk.new w _ _
 have K:=zhd g;have Q:=zhd p;have HE:=zhd (h.below g);have HV:=zhd (E.below g);have L:Hid (Below W1.heap.size W1 W1.drew):=zhd (Below.refl _ _).drew;have N:∀ W,Below W1.heap.size W1 W->Calls Tryz.prog 18 #[slice A n c,.string ⟨b.toArray⟩] W (zv9 (ofT (d.map Prod.fst) b) W):=fun W a=>zdw n c A d b D (by omega) W ((h.below g).below a).env;have ag:∀ W,Below W1.heap.size W1 W->Calls Tryz.prog 97 #[slice A n c,.agg #[.string ⟨b.toArray⟩,int i64 l,int i64 j,int i64 i,.bool r,slice C t.length G]] W (zqF F (zbZ kE (d.map Prod.fst) ⟨b,l,j,i,r,t⟩) W):=fun W a=>zfZ W F (fun k hk=>Nat.lt_of_lt_of_le (hF k hk) (Nat.le_trans g.size a.size)) n c A d (⟨b,l,j,i,r,t⟩,C,G) D ae hl ((h.below g).below a) S ((E.below g).below a);have U:∀ W,Below W1.heap.size W1 W->zqF F (d.map Prod.fst) w (.returned (slice A n c)) W:=fun W a=>⟨d,A,c,rfl,by rw [D],by omega,(h.below g).below a,g.trans (a.mono g.size)⟩;have ak:=zhd U;have al:=zhd ag;obtain⟨T,m⟩:∃ T,zhk (d.map Prod.fst) ⟨b,l,j,i,r,t⟩=T:=⟨_,rfl⟩;rw [m];unfold zhk at m;simp only at m;obtain⟨R,J⟩:∃ R,ofT (d.map Prod.fst) b=R:=⟨_,rfl⟩;rw [J] at m N;have ao:=zhd N;have ai:R.k=b:=by rw [<-J];exact ziD _ _
 unfold zeu at m;simp only at m;obtain⟨X,I⟩:∃ q,zdC l j i R.s R.u R.o=q:=⟨_,rfl⟩;rw [I] at m;have am:=zhd I;have Z:=zhd m;have ab:Hid (∀ B:World,Below W1.heap.size W1 B->B.cell? ⟨w.heap.size,0,none⟩=some (.string ⟨b.toArray⟩)/\B.cell? ⟨w.heap.size,1,none⟩=some (int i64 l)/\B.cell? ⟨w.heap.size,2,none⟩=some (int i64 j)/\B.cell? ⟨w.heap.size,3,none⟩=some (int i64 i)):=zhd fun B hw=>by
  have a:=p.below hw p.lt;exact⟨a.cell 0,a.cell 1,a.cell 2,a.cell 3⟩
 have s0:=p.cell 0;have s1:=p.cell 1;have s2:=p.cell 2;have s3:=p.cell 3;clear h D ae hl S E g p N ag U m J I ai;unfold zaT;go_enter Tryz.func106,Tryz.ntmps106
 go_wp2_with fail
 go_region_held3 (fun w'=>w'.cell? ⟨w.heap.size,0,none⟩=some (.string ⟨b.toArray⟩)/\w'.cell? ⟨w.heap.size,1,none⟩=some (int i64 l)/\w'.cell? ⟨w.heap.size,2,none⟩=some (int i64 j)/\w'.cell? ⟨w.heap.size,3,none⟩=some (int i64 i))
  (first|go_keep|exact ab.out _ z.out|exact ab.out _ M.out)
  (first
   | (go_at_call 18;refine(ao.out _ L.out).mono ?_;rintro e w3 ⟨A3,c3,rfl,_,a⟩;(have M:Hid (Below W1.heap.size W1 w3):=zhd (L.out.trans (a.mono L.out.size)));(have au:=zc0 ⟨R.k.toArray⟩ R.s R.u R.o R.has A3 R.v.length c3);clear a)
   | (go_at_call 22;refine(zcw _ _ _ _ _ _ _ am _).mono ?_;rintro e w4 ⟨rfl,a⟩;(have z:Hid (Below W1.heap.size W1 w4):=zhd (M.out.trans (a.mono M.out.size)));clear a))
 by_cases O:X<0
 ·go_wp2;go_ret;have e:=Z.out;rw [if_pos O] at e;rw [<-e];exact ak.out _ z.out
 ·have aq:0<=X:=by omega
  have an:Hid (zbZ kE (d.map Prod.fst) ⟨b,l,j,i,r,t⟩=T):=zhd (by have e:=Z.out;rw [if_neg O] at e;exact e);have y:=zhd (Q.out.below z.out Q.out.lt);have t0:=y.out.cell 0;have t1:=y.out.cell 1;have t2:=y.out.cell 2;have t3:=y.out.cell 3;have t4:=y.out.cell 4;have t5:=y.out.cell 5;clear O;go_wp2_with fail
  refine(al.out _ z.out).mono ?_;rintro e w5 ⟨vs,A5,c5,Y,rfl,aa,V,af⟩;have aj:Hid (zqF F T w (.returned (slice A5 vs.length c5)) w5):=zhd ⟨vs,A5,c5,Y.trans an.out,rfl,aa,V,(K.out.trans (z.out.mono K.out.size)).trans (af.mono (Nat.le_trans K.out.size z.out.size))⟩;clear Y aa V af;go_wp2;go_ret;exact aj.out
end
end Go.Proofs.YtahnjkkgojfdmaaGreatDoor
