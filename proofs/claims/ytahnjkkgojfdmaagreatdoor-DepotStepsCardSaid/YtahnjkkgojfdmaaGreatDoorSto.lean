import Derived.Test.YtahnjkkgojfdmaaGreatDoorRcZ
import Derived.Test.YtahnjkkgojfdmaaGreatDoorLog
set_option maxRecDepth 10000
set_option maxHeartbeats 2000000
set_option linter.unusedVariables false
namespace Go.Proofs.YtahnjkkgojfdmaaGreatDoor
open Go.Obj(cells)
open Go.IntKind(i64)
open Go.Value(int slice)
section
open Go.RowKit Mem Be Word Frm Go.Maps
structure AckP where
 who:Int
 k:List UInt8
 s:Int
 u:Int
 o:Int
def zdO(a:AckP):List Value:=[int i64 a.who,.string ⟨a.k.toArray⟩,int i64 a.s,int i64 a.u,int i64 a.o]
abbrev zaE(l:List AckP):List Value:=l.flatMap zdO
theorem zcE(l:List AckP):(zaE l).length=l.length*5:=by
 induction l with
 | nil=>rfl
 | cons p l ih=>simp only [zaE,List.flatMap_cons,List.length_append,zdO,List.length_cons,List.length_nil];have:=ih;unfold zaE at this;omega
theorem zcY(a b:List AckP):zaE (a++b)=zaE a++zaE b:=List.flatMap_append
theorem zdu(l:List AckP):∀ u∈zaE l,u.oneCell'=true:=by
 intro u b;obtain⟨x,_,a⟩:=List.mem_flatMap.1 b;simp only [zdO,List.mem_cons,List.not_mem_nil,or_false] at a;rcases a with rfl|rfl|rfl|rfl|rfl<;>rfl
theorem zsK(l:List AckP)(i:Nat)(h:i<l.length)(j:Nat)(a:j<5):(zaE l)[i*5+j]?=(zdO l[i])[j]?:=by
 induction l generalizing i with
 | nil=>simp at h
 | cons p l ih=>
  have hc:zaE (p :: l)=zdO p++zaE l:=rfl;rw [hc];have hl:(zdO p).length=5:=rfl;rcases i with _|i
  ·rw [List.getElem?_append_left (by omega),Nat.zero_mul,Nat.zero_add];rfl
  ·rw [List.getElem?_append_right (by omega),hl,show(i+1)*5+j - 5=i*5+j by omega,ih i (by simpa using h)];rfl
theorem zj8{w:World}{B:Nat}{A:Option Addr}{l:List AckP}(h:Row w B A (zaE l))(p:0<l.length) :
 ∃ b o,A=some ⟨b,o,none⟩/\b<B/\∀ i (c:i<l.length),w.cell? ⟨b,o+i*5,none⟩=some (int i64 l[i].who)/\w.cell? ⟨b,o+i*5+1,none⟩=some (.string ⟨l[i].k.toArray⟩)/\w.cell? ⟨b,o+i*5+2,none⟩=some (int i64 l[i].s)/\
  w.cell? ⟨b,o+i*5+3,none⟩=some (int i64 l[i].u)/\w.cell? ⟨b,o+i*5+4,none⟩=some (int i64 l[i].o):=by
 obtain⟨b,o,g,m,hc⟩:=h.open_ (by rw [zcE];omega);refine⟨b,o,g,m,fun i c=>?_⟩;have key:∀ j,j<5->w.cell? ⟨b,o+i*5+j,none⟩=(zdO l[i])[j]?:=fun j d=>by
  have a:i*5+j<(zaE l).length:=by rw [zcE];omega
  rw [show o+i*5+j=o+(i*5+j) by omega,hc (i*5+j) a,<-zsK l i c j d,List.getElem?_eq_getElem a]
 exact⟨key 0 (by omega),key 1 (by omega),key 2 (by omega),key 3 (by omega),key 4 (by omega)⟩
theorem zdP:(Tryz.prog.info? 130).map (fun i=>(i.zero,i.size,i.bytes))=some (some (.agg #[int i64 0,.string .empty,int i64 0,int i64 0,int i64 0]),5,48):=by kernel_rfl
theorem ziS{w:World}{x:AckP}{g:Nat}(h:Blk w g 130 ⟨zdO x⟩){B:Nat}(b:g<B):Row w B (some ⟨g,0,none⟩) (zaE [x]):=by
 refine Or.inr ⟨g,0,rfl,b,fun j a=>?_⟩;have e:zaE [x]=zdO x:=by simp [zaE]
 have d:=h.cell (0+j);rw [d];have c:j<(zdO x).length:=by rw [<-e];exact a
 rw [Nat.zero_add];rw [List.getElem_of_eq e a];show(⟨zdO x⟩:Array Value)[j]?=_
 rw [List.getElem?_toArray,List.getElem?_eq_getElem c]
structure StK where
 ty:TypeId
 Y:List Value
 hne:ty≠5
def zoP:StK:=⟨108,[],by decide⟩
def stK(KS:StK)(lm fm:Option Nat)(pv:Value):LgK:=⟨KS.ty,.map lm :: .map fm :: pv :: KS.Y,KS.hne⟩
variable {KS KS' : StK}
section
variable {w : World} {g m : Nat} {t : TypeId} {a b c v pv : Value} {lm fm : Option Nat}
theorem zwY(h:Blk w g t (dkC (lgK (stK KS lm fm pv) v m) [a,b,c])):w.cell? ⟨g,5,none⟩=some (.map lm):=(h.cell 5).trans (by simp [dkC,lgK,stK])
theorem zwZ(h:Blk w g t (dkC (lgK (stK KS lm fm pv) v m) [a,b,c])):w.cell? ⟨g,6,none⟩=some (.map fm):=(h.cell 6).trans (by simp [dkC,lgK,stK])
theorem zw0(h:Blk w g t (dkC (lgK (stK KS lm fm pv) v m) [a,b,c])):w.cell? ⟨g,7,none⟩=some pv:=(h.cell 7).trans (by simp [dkC,lgK,stK])
theorem zw1(h:Blk w g t (dkC (lgK (stK KS lm fm pv) v m) [a,b,c]))(u:Option Nat):Blk (w.setCell ⟨g,5,none⟩ (.map u)) g t (dkC (lgK (stK KS u fm pv) v m) [a,b,c]):=by simpa [dkC,lgK,stK] using h.set_ 5 (.map u)
theorem zw2(h:Blk w g t (dkC (lgK (stK KS lm fm pv) v m) [a,b,c]))(u:Option Nat):Blk (w.setCell ⟨g,6,none⟩ (.map u)) g t (dkC (lgK (stK KS lm u pv) v m) [a,b,c]):=by simpa [dkC,lgK,stK] using h.set_ 6 (.map u)
theorem zw3(h:Blk w g t (dkC (lgK (stK KS lm fm pv) v m) [a,b,c]))(u:Value):Blk (w.setCell ⟨g,7,none⟩ u) g t (dkC (lgK (stK KS lm fm u) v m) [a,b,c]):=by simpa [dkC,lgK,stK] using h.set_ 7 u
end
section
variable {w : World} {F : Nat → Prop} {g q m i : Nat} {rs : List Rc} {lm fm u : Option Nat} {pv : Value} {J J' : LgK} {x : Value}
theorem ziT(h:zcD J w F g rs m q)(G:∀ {v:Value} {a b c:Value},Blk w g (lgK J v m).ty (dkC (lgK J v m) [a,b,c])->Blk (w.setCell ⟨g,i,none⟩ x) g (lgK J' v m).ty (dkC (lgK J' v m) [a,b,c])):zcD J' (w.setCell ⟨g,i,none⟩ x) F g rs m q:=by
 obtain⟨N,z,M,R,c,D,L,K,d⟩:=h;have t:=zhV d.dk;have p:∀ j,j≠g->(w.setCell ⟨g,i,none⟩ x).heap[j]?=w.heap[j]?:=fun j C=>Below.heap_setCell w ⟨g,i,none⟩ _ j C;have y:(w.setCell ⟨g,i,none⟩ x).heap.size=w.heap.size:=by simp [World.setCell]
 refine⟨N,z,M,R,c,D,L,K,?_,zaj d.own fun a o=>p _ fun e=>d.dis g t (by rw [<-e];exact d.inR a o),fun r u=>zaj (d.byt r u) fun a o=>p _ fun e=>d.dis g t (by rw [<-e];exact d.inB r u a o),
  d.inR,d.inB,d.dis,d.sub,fun k s=>by rw [y];exact d.lt k s⟩
 obtain⟨A,I,E,B,l⟩:=d.dk;exact⟨A,I,E,B,G l.blk,zaj l.ol fun a o=>p _ (zcU l.ol l.blk (lgK J _ m).hne o),zaj l.ot fun a o=>p _ (zcU l.ot l.blk (lgK J _ m).hne o),l.fl,l.ft,l.ap,l.fg,
  fun k s=>by rw [y];exact l.lt k s,l.mx⟩
theorem zj9(h:zcD J w F g rs m q):∃ v a b c,Blk w g (lgK J v m).ty (dkC (lgK J v m) [a,b,c]):=by
 obtain⟨u,j,t,R,c,l,s,r,d⟩:=h;obtain⟨A,p,o,k,i⟩:=d.dk;exact⟨_,_,_,_,i.blk⟩
theorem zhq(h:zcD J w F g rs m q):F g:=by
 obtain⟨l,b,k,R,c,i,j,d,a⟩:=h;exact a.sub g (Or.inl (zhV a.dk))
theorem zdc(h:zcD (stK KS lm fm pv) w F g rs m q):w.cell? ⟨g,5,none⟩=some (.map lm):=by obtain⟨v,a,b,c,h⟩:=zj9 h;exact zwY h
theorem zgU(h:zcD (stK KS lm fm pv) w F g rs m q):w.cell? ⟨g,6,none⟩=some (.map fm):=by obtain⟨v,a,b,c,h⟩:=zj9 h;exact zwZ h
theorem zka(h:zcD (stK KS lm fm pv) w F g rs m q):w.cell? ⟨g,7,none⟩=some pv:=by obtain⟨v,a,b,c,h⟩:=zj9 h;exact zw0 h
theorem zqd(h:zcD (stK KS lm fm pv) w F g rs m q)(i:Nat):w.frozen? ⟨g,i,none⟩=false:=by obtain⟨v,a,b,c,h⟩:=zj9 h;exact h.frozen i
theorem zv2(h:zcD (stK KS lm fm pv) w F g rs m q)(u:Option Nat):zcD (stK KS u fm pv) (w.setCell ⟨g,5,none⟩ (.map u)) F g rs m q:=ziT h fun a=>zw1 a u
theorem zv3(h:zcD (stK KS lm fm pv) w F g rs m q)(u:Option Nat):zcD (stK KS lm u pv) (w.setCell ⟨g,6,none⟩ (.map u)) F g rs m q:=ziT h fun a=>zw2 a u
theorem ztP(h:zcD (stK KS lm fm pv) w F g rs m q)(u:Value):zcD (stK KS lm fm u) (w.setCell ⟨g,7,none⟩ u) F g rs m q:=ziT h fun a=>zw3 a u
end
structure TabAt (w:World) (F:Nat->Prop) (mo:Option Nat) (T:List EV):Prop where
 map:zjo w mo T
 inM:∀ b,mo=some b->F b
 srt:zaO kV T
 own:zcM w 0 T
 inF:∀ x∈T,InF F x.2.1
 ok:∀ x∈T,okE x.1
abbrev zcO(T:List EV):List EntP:=T.map Prod.fst
theorem ziU{T:List EV}:zaO kV T↔zaO kE (zcO T):=zsh (f:=Prod.fst) fun x=>rfl
theorem zlC(T:List EV)(x:EV):zcO (zbZ kV T x)=zbZ kE (zcO T) x.1:=zpG (f:=Prod.fst) (fun x=>rfl) x T
theorem zkb(L F:List EV):zcO (zbm kV L F)=zbm kE (zcO L) (zcO F):=zpH (f:=Prod.fst) (fun x=>rfl) F L
section
variable {w w' : World} {F F' G : Nat → Prop} {mo : Option Nat} {T : List EV}
theorem TabAt.keep(h:TabAt w F mo T)(hk:∀ k,F k->w'.heap[k]?=w.heap[k]?):TabAt w' F mo T:=
 ⟨h.map.keep fun b hb=>hk b (h.inM b hb),h.inM,h.srt,fun x hx=>zaj (h.own x hx) fun a ha=>hk _ (h.inF x hx a ha),h.inF,h.ok⟩
theorem TabAt.wide(h:TabAt w F mo T)(hF:∀ k,F k->F' k):TabAt w F' mo T:=⟨h.map,fun b hb=>hF b (h.inM b hb),h.srt,h.own,fun x hx a ha=>hF _ (h.inF x hx a ha),h.ok⟩
theorem TabAt.val(h:TabAt w F mo T):∀ x∈T,ValOk w x.1.has x.2.1 x.1.v x.2.2:=fun x hx=>ze8 (h.own x hx) (by have:=zah (h.ok x hx);omega)
theorem TabAt.key(h:TabAt w F mo T):∀ x∈T,x.1.k.length<=250:=fun x hx=>(zah (h.ok x hx)).2.1
end
structure StB (KS:StK) (w:World) (F FL FS:Nat->Prop) (g:Nat) (rs:List Rc) (m q:Nat) (lm fm:Option Nat) (TL TF:List EV) (A:Option Addr) (c:Nat) (acks:List AckP):Prop where
 lg:zcD (stK KS lm fm (slice A acks.length c)) w FL g rs m q
 tl:TabAt w FS lm TL
 tf:TabAt w FS fm TF
 ne:∀ b,lm=some b->fm=some b->False
 own:w.ownsRow 0 130 5 (slice A acks.length c) acks.length (zaE acks)
 inA:InF FS A
 dis:∀ k,FL k->¬ FS k
 sub:∀ k,FL k\/FS k->F k
 lt:∀ k,F k->k<w.heap.size
structure St8 where
 rs:List Rc
 m:Nat
 L:List EntP
 N:List EntP
 acks:List AckP
structure Ok8 (S:St8):Prop where
 le:S.m<=S.rs.length
 newer:zd3 S.rs=some S.N
 lasts:zd3 (S.rs.take S.m)=some S.L
 told:zwP S.rs S.m
def zci(KS:StK)(w:World)(F:Nat->Prop)(g:Nat)(S:St8)(q:Nat):Prop:=
 Ok8 S/\∃ FL FS lm fm TL TF A c,zcO TL=S.L/\zbm kE S.L (zcO TF)=S.N/\TF.length<=S.rs.length/\StB KS w F FL FS g S.rs S.m q lm fm TL TF A c S.acks
section
variable {w w' : World} {F FL FS G : Nat → Prop} {g q m : Nat} {rs : List Rc} {lm fm : Option Nat} {TL TF : List EV} {A : Option Addr} {c : Nat} {acks : List AckP} {S : St8}
theorem StB.keep(h:StB KS w F FL FS g rs m q lm fm TL TF A c acks)(hs:w.heap.size<=w'.heap.size)(hk:∀ k,F k->w'.heap[k]?=w.heap[k]?):StB KS w' F FL FS g rs m q lm fm TL TF A c acks:=
 ⟨h.lg.keep hs fun k hf=>hk k (h.sub k (Or.inl hf)),h.tl.keep fun k hf=>hk k (h.sub k (Or.inr hf)),h.tf.keep fun k hf=>hk k (h.sub k (Or.inr hf)),h.ne,zaj h.own fun a ha=>hk _ (h.sub _ (Or.inr (h.inA a ha))),h.inA,h.dis,h.sub,
  fun k hf=>Nat.lt_of_lt_of_le (h.lt k hf) hs⟩
theorem zci.keep(h:zci KS w F g S q)(hs:w.heap.size<=w'.heap.size)(hk:∀ k,F k->w'.heap[k]?=w.heap[k]?):zci KS w' F g S q:=by
 obtain⟨h0,FL,FS,lm,fm,TL,TF,A,c,h1,h2,hfl,h⟩:=h;exact⟨h0,FL,FS,lm,fm,TL,TF,A,c,h1,h2,hfl,h.keep hs hk⟩
theorem zci.lt(h:zci KS w F g S q):∀ k,F k->k<w.heap.size:=by
 obtain⟨h0,FL,FS,lm,fm,TL,TF,A,c,h1,h2,hfl,h⟩:=h;exact h.lt
theorem zci.below(h:zci KS w F g S q)(hb:Below w.heap.size w w'):zci KS w' F g S q:=h.keep hb.size fun k hk=>hb.block k (h.lt k hk)
theorem zci.touch(h:zci KS w F g S q)(ht:Touch G w w')(hd:∀ k,F k->¬ G k):zci KS w' F g S q:=h.keep ht.size fun k hk=>ht.block k (h.lt k hk) (hd k hk)
theorem zci.ok(h:zci KS w F g S q):Ok8 S:=h.1
theorem zci.mx(h:zci KS w F g S q):(zac S.rs).length<=4194304:=by
 obtain⟨h0,FL,FS,lm,fm,TL,TF,A,c,h1,h2,hfl,h⟩:=h;exact h.lg.mx
theorem zci.many(h:zci KS w F g S q):S.rs.length<=419430:=by
 have h1:=h.mx;have h2:=zd2 S.rs;unfold zc3 at h2;omega
theorem Ok8.nOk(h:Ok8 S):OkT S.N:=(ziK h.newer).1
theorem Ok8.lOk(h:Ok8 S):OkT S.L:=(ziK h.lasts).1
end
end
section
open Go.RowKit Mem Be Word Frm Go.Maps
variable {KS KS' : StK}
theorem zqe{w:World}{F:Nat->Prop}{y q m:Nat}{rs:List Rc}(J:LgK)(h:zcD lg0 w F y rs m q) :
 ∃ a b c v,w.cell? ⟨y,0,none⟩=some a/\w.cell? ⟨y,1,none⟩=some b/\w.cell? ⟨y,2,none⟩=some c/\w.cell? ⟨y,3,none⟩=some v/\w.cell? ⟨y,4,none⟩=some (int i64 (m:Int))/\
  zcD J (w.alloc (cells (dkC (lgK J v m) [a,b,c]) J.ty)) (fun k=>F k\/k=w.heap.size) w.heap.size rs m q:=by
 obtain⟨I,t,G,R,B,x,E,D,g⟩:=h;obtain⟨A,C,z,u,i⟩:=g.dk;refine⟨_,_,_,_,i.blk.d0,i.blk.d1,i.blk.d2,zfW g.dk,zm1 g.dk,?_⟩;have l:∀ o,Below w.heap.size w (w.alloc o):=fun o=>(Below.refl _ _).alloc (Nat.le_refl _) o;have s:∀ o,(w.alloc o).heap.size=w.heap.size+1:=fun o=>by simp
 refine⟨fun k=>I k\/k=w.heap.size,t,G,R,B,x,E,D,⟨A,C,z,u,⟨Blk.new _ _ _,zag i.ol (l _),zag i.ot (l _),fun a p=>Or.inl (i.fl a p),fun a p=>Or.inl (i.ft a p),i.ap,Or.inr rfl,fun j d=>?_,i.mx⟩⟩,
  zag g.own (l _),zaV g.byt (l _),g.inR,g.inB,fun j d r=>?_,fun j d=>?_,fun j d=>?_⟩
 ·rw [s];rcases d with d|d
  ·have:=i.lt j d;omega
  ·omega
 ·rcases d with d|d
  ·exact g.dis j d r
  ·have:=g.lt j (g.sub j (Or.inr r));omega
 ·rcases d with(d|d)|d
  ·exact Or.inl (g.sub j (Or.inl d))
  ·exact Or.inr d
  ·exact Or.inl (g.sub j (Or.inr d))
 ·rw [s];rcases d with d|d
  ·have:=g.lt j d;omega
  ·omega
theorem zkc(w:World)(F:Nat->Prop):TabAt w F none []:=⟨Or.inl ⟨rfl,rfl⟩,(fun b h=>by cases h),zem,zd0 _ _,(fun x h=>by cases h),(fun x h=>by cases h)⟩
def zqf(KS:StK)(v:Value)(F:Nat->Prop)(g:Nat)(S:St8)(q:Nat)(w:World)(e:Ending)(w':World):Prop:=e=.returned v/\∃ F',(∀ k,F' k->F k\/w.heap.size<=k)/\zci KS w' F' g S q/\Touch F w w'
def zqg(v:Value->Value)(S:St8)(q:Nat)(w:World)(e:Ending)(w':World):Prop:=
 ∃ g F,e=.returned (v (.pointer (some ⟨g,0,none⟩)))/\(∀ k,F k->w.heap.size<=k)/\zci zoP w' F g S q/\Below w.heap.size w w'
def st0:St8:=⟨[],0,[],[],[]⟩
theorem zqh{w:World}{F FS:Nat->Prop}{q m:Nat}{rs:List Rc}{T:List EV}{i:Option Nat}{g:Nat}(A:m=rs.length)(p:zd3 rs=some (zcO T))(ht:TabAt w FS i T)(y:∀ k,F k->¬ FS k)(l:∀ k,FS k->k<w.heap.size)(u:g=w.heap.size)
 {v a b c:Value} (h:zcD (stK zoP i none (slice none 0 0)) (w.alloc (cells (dkC (lgK (stK zoP i none (slice none 0 0)) v m) [a,b,c]) 108)) (fun k=>F k\/k=w.heap.size) w.heap.size rs m q) :
 zci zoP (w.alloc (cells #[a,b,c,v,int i64 (m:Int),.map i,.map none,slice none 0 0] 108)) (fun k=>F k\/FS k\/k=w.heap.size) g ⟨rs,m,zcO T,zcO T,[]⟩ q:=by
 subst u;subst A;have x:∀ o,Below w.heap.size w (w.alloc o):=fun o=>(Below.refl _ _).alloc (Nat.le_refl _) o;refine⟨⟨Nat.le_refl _,p,by simpa using p,fun j t z=>?_⟩,fun k=>F k\/k=w.heap.size,FS,i,none,T,[],none,0,rfl,rfl,Nat.zero_le _,⟨h,?_,zkc _ _,(fun b _ h=>by cases h),World.ownsRow_nil _ _ _ _,zcL _,fun k d r=>?_,fun k d=>?_,fun k d=>?_⟩⟩
 ·have:j=rs.length:=Nat.le_antisymm z t;subst this;simp [p]
 ·exact ht.keep fun k d=>(x _).block k (l k d)
 ·rcases d with d|d
  ·exact y k d r
  ·have:=l k r;omega
 ·rcases d with(d|d)|d
  ·exact Or.inl d
  ·exact Or.inr (Or.inr d)
  ·exact Or.inr (Or.inl d)
 ·have s:∀ o,(w.alloc o).heap.size=w.heap.size+1:=fun o=>by simp
  rw [s];rcases d with d|d|d
  ·have:=h.lt k (Or.inl d);rw [s] at this;exact this
  ·have:=l k d;omega
  ·omega
theorem zqi(w:World):Calls Tryz.prog 35 #[] w (zqg id st0 0 w):=by
 go_enter Tryz.func35,Tryz.ntmps35
 go_wp2_with fail
 refine(zp6 w).mono ?_;rintro e w1 ⟨y,F,rfl,g,hl,i⟩;obtain⟨a,b,c,v,c0,c1,c2,c3,c4,j⟩:=zqe (stK zoP none none (slice none 0 0)) hl;have l:Hid (zci zoP (w1.alloc (cells #[a,b,c,v,int i64 ((0:Nat):Int),.map none,.map none,slice none 0 0] 108)) (fun k=>F k\/False\/k=w1.heap.size) w1.heap.size st0 0):=zhd (zqh (FS:=fun _=>False) (T:=[]) rfl rfl (zkc _ _) (fun k _ h=>h) (fun k h=>h.elim) rfl j);have m:=zhd g;have d:=zhd i;simp only [id];clear g hl i j;go_wp2;go_ret;refine⟨w1.heap.size,_,rfl,fun k o=>?_,l.out,d.out.alloc d.out.size _⟩;rcases o with h|h|h
 ·exact m.out k h
 ·exact h.elim
 ·have:=d.out.size;omega
def zv4(x:EntP)(w:World)(e:Ending)(w':World):Prop:=∃ A c,e=.returned (evV (x,A,c))/\zix w' w.heap.size (x,A,c)/\Below w.heap.size w w'
theorem zqj{w:World}{F:Nat->Prop}{a:Option Nat}{T:List EV}(h:TabAt w F a T)(k:List UInt8):ValOk w (ofV T k).1.has (ofV T k).2.1 (ofV T k).1.v (ofV T k).2.2:=by
 unfold ofV;cases hg:zbF kV T k with
 | none=>exact⟨Row.nil _ _ _,by simp [evN,zoM],Nat.le_refl _⟩
 | some x=>exact h.val x (zb7 hg).1
theorem zsL(F:Nat->Prop)(g q:Nat)(S:St8)(k:List UInt8)(O:k.length<=maxLen)(w:World)(h:zci KS w F g S q) :
 Calls Tryz.prog 45 #[.pointer (some ⟨g,0,none⟩),.string ⟨k.toArray⟩] w (zv4 (ofT S.L k) w):=by
 obtain⟨Q,FL,FS,B,Z,d,TF,A,c,z,G,I,h⟩:=h;have c5:=zdc h.lg;have Y:g<w.heap.size:=zaq c5;have ab:=zhd h.tl;have l:Hid (∀ o,Calls Tryz.prog 73 #[.map B,.string ⟨k.toArray⟩] (w.alloc o) (IsE (ofV d k) (w.alloc o))):=zhd fun o=>zfc d B k O _ (h.tl.map.below (zbl));have p:=zhd (zqj h.tl k);have t:Hid ((ofV d k).1=ofT S.L k):=zhd ((zlt d k).trans (by rw [show d.map Prod.fst=S.L from z]));have V:Hid (∀ o,Below w.heap.size w (w.alloc o)):=zhd fun o=>zbl;clear h Q z G I;obtain⟨x,C⟩:∃ x,ofV d k=x:=⟨_,rfl⟩;rw [C] at l p t;clear C;go_enter Tryz.func45,Tryz.ntmps45
 go_wp2_with fail
 refine(l.out _).mono ?_;rintro e w1 ⟨rfl,b⟩;have aa:=zhd b;have i:Hid (Below w.heap.size w w1):=zhd ((V.out _).trans (b.mono (by simp)));have r:=zhd (zdp ⟨x.1.k.toArray⟩ x.1.s x.1.u x.1.o x.1.has x.2.1 x.1.v x.1.v.length x.2.2 rfl w1 (p.out.below i.out));have m:=zhd ((Blk.new w 46 zaR).below b (by simp));clear b l;unfold evV;go_wp2_with fail
 refine r.out.mono ?_;rintro e J ⟨j,c2,rfl,y,b⟩;have a:=zhd (m.out.below b m.out.lt);have U:Hid (J.ownsRow (w.heap.size+1) 5 1 (slice j x.1.v.length c2) x.1.v.length (x.1.v.map zaa)):=zhd (zaS y m.out.lt);have E:=zhd (i.out.trans (b.mono i.out.size));have N:=a.out.cell 0;have R:=a.out.cell 1;have T:=a.out.cell 2;have D:=a.out.cell 3;have K:=a.out.cell 4;have M:=a.out.cell 5;have z0:=a.out.frozen 0;have X:=a.out.frozen 1;have W:=a.out.frozen 2;have z3:=a.out.frozen 3;have z4:=a.out.frozen 4;have z5:=a.out.frozen 5;clear y b r;go_wp2;refine bodyPost_ret (v:=zaT ⟨x.1.k.toArray⟩ x.1.s x.1.u x.1.o x.1.has j x.1.v.length c2) (by simp [results,Tryz.results45,go_sem,N,R,T,D,K,M]) rfl ?_;rw [<-t.out];refine⟨j,c2,rfl,?_,zad (zad (zad (zad (zad (zad E.out (Nat.le_refl _) _ _) (Nat.le_refl _) _ _) (Nat.le_refl _) _ _) (Nat.le_refl _) _ _) (Nat.le_refl _) _ _) (Nat.le_refl _) _ _⟩;exact zaS (zak (zak (zak (zak (zak (zak U.out (by omega) _ _) (by omega) _ _) (by omega) _ _) (by omega) _ _) (by omega) _ _) (by omega) _ _) (by omega)
end
section
open Go.RowKit Mem Be Word Frm Go.Maps
variable {KS KS' : StK}
theorem zqk{L:List EntP}{a:List EV}{k:List UInt8}(h:zaO kV a):ofT (zbm kE L (zcO a)) k=match zbF kV a k with|some x=>x.1|none=>ofT L k:=by
 unfold ofT;rw [zfb (ziU.1 h),show zbF kE (zcO a) k=(zbF kV a k).map Prod.fst from zlr (f:=Prod.fst) (fun x=>rfl) a k];cases zbF kV a k<;>rfl
theorem zeR(F:Nat->Prop)(g q:Nat)(S:St8)(k:List UInt8)(E:k.length<=maxLen)(w:World)(h:zci KS w F g S q) :
 ∃ x:EV,x.1=ofT S.N k/\ValOk w x.1.has x.2.1 x.1.v x.2.2/\∀ W,Below w.heap.size w W->Calls Tryz.prog 115 #[.pointer (some ⟨g,0,none⟩),.string ⟨k.toArray⟩] W (IsE x W):=by
 obtain⟨M,FL,FS,D,r,m,G,A,c,C,B,I,h⟩:=h;have i:=zqk (L:=S.L) (k:=k) h.tf.srt;rw [B] at i;have y:=zdc h.lg;have t:=zgU h.lg;have j:g<w.heap.size:=zaq y;cases hg:zbF kV G k with
 | some x=>
  rw [hg] at i;refine⟨x,i.symm,h.tf.val x (zb7 hg).1,fun W a=>?_⟩;have c6:W.cell? ⟨g,6,none⟩=some (.map r):=(a.cell (p:=⟨g,6,none⟩) j).trans t;have Q:g<W.heap.size:=Nat.lt_of_lt_of_le j a.size;have l:∀ o:Obj,(Instr.lookup 106 (.map r) (.string ⟨k.toArray⟩) true).run Tryz.prog (W.alloc o)=.ok (.tuple #[evV x,.bool true]) (W.alloc o):=fun o=>by
   have:=zgm (h.tf.map.below (a.trans (((Below.refl _ W).alloc (Nat.le_refl _) o).mono a.size))) E true;rw [show zf8 G k=evV x by unfold zf8;rw [hg],hg] at this;exact this
  clear h M C B I i hg y t a j;unfold evV at l;unfold zaT at l;go_enter Tryz.func115,Tryz.ntmps115
  go_wp2;exact bodyPost_ret (v:=zaT ⟨x.1.k.toArray⟩ x.1.s x.1.u x.1.o x.1.has x.2.1 x.1.v.length x.2.2) (by simp [results,Tryz.results115,go_sem]) rfl ⟨rfl,(zbl).alloc (by simp) _⟩
 | none=>
  rw [hg] at i;refine⟨ofV m k,((zlt m k).trans (by rw [show m.map Prod.fst=S.L from C])).trans i.symm,zqj h.tl k,fun W a=>?_⟩;have c5:W.cell? ⟨g,5,none⟩=some (.map D):=(a.cell (p:=⟨g,5,none⟩) j).trans y;have c6:W.cell? ⟨g,6,none⟩=some (.map r):=(a.cell (p:=⟨g,6,none⟩) j).trans t;have Q:g<W.heap.size:=Nat.lt_of_lt_of_le j a.size;have J:∀ o d,Below w.heap.size w ((W.alloc o).alloc d):=fun o d=>a.trans ((((Below.refl _ W).alloc (Nat.le_refl _) o).alloc (by simp) d).mono a.size);have z:Hid (∀ o d,Calls Tryz.prog 73 #[.map D,.string ⟨k.toArray⟩] ((W.alloc o).alloc d) (IsE (ofV m k) ((W.alloc o).alloc d))):=zhd fun o d=>zfc m D k E _ (h.tl.map.below (J o d));have l:∀ o:Obj,(Instr.lookup 106 (.map r) (.string ⟨k.toArray⟩) true).run Tryz.prog (W.alloc o)=.ok (.tuple #[evV (evN []),.bool false]) (W.alloc o):=fun o=>by
   have:=zgm (h.tf.map.below (a.trans (((Below.refl _ W).alloc (Nat.le_refl _) o).mono a.size))) E true;rw [show zf8 G k=evV (evN []) by unfold zf8;rw [hg],hg] at this;exact this
  obtain⟨x,K⟩:∃ x,ofV m k=x:=⟨_,rfl⟩;rw [K] at z ⊢;clear h M C B I i hg y t a j J K;unfold evV evN zoM at l;unfold zaT at l;simp only [List.length_nil] at l;go_enter Tryz.func115,Tryz.ntmps115
  go_wp2_with fail
  refine(z.out _ _).mono ?_;rintro e w1 ⟨rfl,a⟩;have V:Hid (Below W.heap.size W w1):=zhd ((((Below.refl _ W).alloc (Nat.le_refl _) _).alloc (by simp) _).trans (a.mono (by simp;omega)));have b:=zhd (((Blk.new W 46 zaR).alloc _).below a (by simp;omega));have U:=b.out.cell 0;have X:=b.out.cell 1;have Y:=b.out.cell 2;have O:=b.out.cell 3;have R:=b.out.cell 4;have T:=b.out.cell 5;have z0:=b.out.frozen 0;have z1:=b.out.frozen 1;have Z:=b.out.frozen 2;have z3:=b.out.frozen 3;have z4:=b.out.frozen 4;have z5:=b.out.frozen 5;clear a z;unfold evV;go_wp2;exact bodyPost_ret (v:=zaT ⟨x.1.k.toArray⟩ x.1.s x.1.u x.1.o x.1.has x.2.1 x.1.v.length x.2.2) (by simp [results,Tryz.results115,go_sem,U,X,Y,O,R,T]) rfl
   ⟨rfl,zad (zad (zad (zad (zad (zad V.out (Nat.le_refl _) _ _) (Nat.le_refl _) _ _) (Nat.le_refl _) _ _) (Nat.le_refl _) _ _) (Nat.le_refl _) _ _) (Nat.le_refl _) _ _⟩
theorem zfl{w:World}{F:Nat->Prop}{g q:Nat}{S:St8}(h:zci KS w F g S q):S.L.length<=8388608/\S.N.length<=8388608:=by
 have c:=h.mx;have d:=(ziK h.ok.newer).2;have b:=(ziK h.ok.lasts).2;have a:=congrArg List.length (zbp S.rs S.m);rw [List.length_append] at a;exact⟨by omega,by omega⟩
theorem zsM(F:Nat->Prop)(g q:Nat)(S:St8)(w:World)(h:zci KS w F g S q) :
 Calls Tryz.prog 53 #[.pointer (some ⟨g,0,none⟩)] w (zpy S.L w):=by
 have v:=zfl h;obtain⟨u,z,FS,r,y,m,B,A,c,a,d,o,h⟩:=h;have c5:=zdc h.lg;have i:=zfd m r h.tl.srt (by have:=congrArg List.length a;rw [List.length_map] at this;omega) w h.tl.map h.tl.val (fun x t=>by have:=h.tl.key x t;unfold maxLen;omega);rw [show m.map Prod.fst=S.L from a] at i;have l:=zhd i;clear h u a d o v i;go_enter Tryz.func53,Tryz.ntmps53
 go_wp2_with fail
 refine l.out.mono ?_;rintro e w1 ⟨p,s,c1,a,rfl,d,k,j⟩;have b:=zhd (And.intro a (And.intro d (And.intro k j)));clear a d k j l;go_wp2;go_ret;exact⟨p,s,c1,b.out.1,rfl,b.out.2.1,b.out.2.2.1,b.out.2.2.2⟩
theorem zgV(F:Nat->Prop)(g q:Nat)(S:St8)(w:World)(h:zci KS w F g S q) :
 Calls Tryz.prog 55 #[.pointer (some ⟨g,0,none⟩)] w (zll id (zac (S.rs.take S.m)) (zac (S.rs.drop S.m)) q w):=by
 obtain⟨k,o,FS,r,p,t,s,A,c,i,l,d,h⟩:=h;have c5:=zdc h.lg;have b:=zhd (zp8 o g S.m q S.rs w h.lg);clear h k i l d;go_enter Tryz.func55,Tryz.ntmps55
 go_wp2_with fail
 refine b.out.mono ?_;rintro e w1 ⟨y,F1,rfl,a⟩;have j:=zhd a;simp only [id];clear a;go_wp2;go_ret;exact⟨y,F1,rfl,j.out⟩
end
section
open Go.RowKit Mem Be Word Frm Go.Maps
variable {KS KS' : StK}
theorem zbU{w:World}{B s n m c b:Nat}{e:TypeId}{A:Option Addr}{g:List Value}{T:List EV}(h:w.ownsRow B e s (slice A m c) n g)(j:zdg w b T){a:Addr}(d:A=some a):a.block≠b:=by
 obtain⟨_,_,k,i⟩:=zaJ h d;exact fun e=>j.ne i e.symm
theorem zcd{w w':World}{p:Addr}{v:Value}(h:Touch (fun _=>False) (w.setCell p v) w'):w.heap.size<=w'.heap.size:=by have:=h.size;simpa [World.setCell] using this
def Now(w w':World)(F:Nat->Prop)(k:Nat):Prop:=(F k\/w.heap.size<=k)/\k<w'.heap.size
theorem zql{w4 s o:World}{FS:Nat->Prop}{g i:Nat}{B G:Option Nat}{T Q:List EV}{y:EV}{e:Ending}(u:TabAt w4 FS B T)(m:TabAt w4 FS G Q)(hne:∀ b,B=some b->G=some b->False)(v:∀ k,FS k->k<w4.heap.size)(hg:¬ FS g)(aa:g<w4.heap.size)
 (q:Below w4.heap.size w4 s) (C:zix s 0 y) (M:∀ a,y.2.1=some a->FS a.block\/w4.heap.size<=a.block) (ok:okE y.1) (J:zsi g i B T y s e o) :
 e=.returned (.tuple #[])/\∃ l,TabAt o (Now w4 o FS) (some l) (zbZ kV T y)/\TabAt o (Now w4 o FS) G Q/\G≠some l/\(∀ k,k<w4.heap.size->k≠g->¬ B=some k->o.heap[k]?=w4.heap[k]?)/\
  ((B=some l/\Touch FS w4 o)\/(B=none/\s.heap.size<=l/\Touch (fun _=>False) (s.setCell ⟨g,i,none⟩ (.map (some l))) o)):=by
 obtain⟨Y,J⟩:=J;refine⟨Y,?_⟩;rcases J with⟨b,rfl,F,t⟩|⟨rfl,b,O,F,t⟩
 ·have V:=u.inM b rfl;have L:zdg w4 b T:=by
   rcases u.map with⟨h,_⟩|⟨Z,h,U⟩
   ·cases h
   ·injection h with h;subst h;exact U
  have K:w4.heap.size<=o.heap.size:=Nat.le_trans q.size t.size;have z:∀ k,k<w4.heap.size->k≠b->o.heap[k]?=w4.heap[k]?:=fun k j r=>(t.block k (Nat.lt_of_lt_of_le j q.size) r).trans (q.block k j);have A:∀ k,FS k->Now w4 o FS k:=fun k j=>⟨Or.inl j,Nat.lt_of_lt_of_le (v k j) K⟩;have R:∀ {E:List EV},zcM w4 0 E->(∀ x∈E,InF FS x.2.1)->zcM o 0 E:=fun {E} ho hi x c=>zaj (ho x c) fun a d=>z _ (v _ (hi x c a d)) (zbU (ho x c) L d);have D:zix o 0 y:=zaj C fun a d=>t.block _ (zaJ C d).2.1 fun e=>zbU C (L.keep (q.block b L.lt)) d e;refine⟨b,⟨Or.inr ⟨b,rfl,F⟩,fun l p=>by injection p with p;subst p;exact A _ V,zcx u.srt,fun x c=>?_,fun x c a d=>?_,fun x c=>?_⟩,⟨?_,fun l p=>A _ (m.inM l p),m.srt,R m.own m.inF,fun x c a d=>A _ (m.inF x c a d),m.ok⟩,
   fun e=>hne b rfl e,fun k j _ r=>z k j (fun e=>r (by rw [e])),Or.inl ⟨rfl,(Touch.ofBelow q).trans t fun k j=>by subst j;exact Or.inl V⟩⟩
  ·rcases zcr c with rfl|c
   ·exact D
   ·exact R u.own u.inF x c
  ·rcases zcr c with rfl|c
   ·exact⟨M a d,(zaJ D d).2.1⟩
   ·exact A _ (u.inF x c a d)
  ·rcases zcr c with rfl|c
   ·exact ok
   ·exact u.ok x c
  ·exact m.map.keep fun l p=>z l (v l (m.inM l p)) fun e=>hne b rfl (by rw [p,e])
 ·have W:T=[]:=by
   rcases u.map with⟨_,h⟩|⟨Z,h,_⟩
   ·exact h
   ·cases h
  subst W;have X:=zcd t;have K:w4.heap.size<=o.heap.size:=Nat.le_trans q.size X;have S:∀ k,k<s.heap.size->k≠g->o.heap[k]?=s.heap[k]?:=fun k j r=>(t.block k (by simpa [World.setCell] using j) (fun h=>h)).trans (Below.heap_setCell s ⟨g,i,none⟩ _ k r);have z:∀ k,k<w4.heap.size->k≠g->o.heap[k]?=w4.heap[k]?:=fun k j r=>(S k (Nat.lt_of_lt_of_le j q.size) r).trans (q.block k j);have A:∀ k,FS k->Now w4 o FS k:=fun k j=>⟨Or.inl j,Nat.lt_of_lt_of_le (v k j) K⟩;have I:∀ k,FS k->k≠g:=fun k j e=>hg (by rw [<-e];exact j);have D:zix o 0 y:=zaj C fun a d=>S _ (zaJ C d).2.1 fun e=>by
   rcases M a d with h|h
   ·exact I _ h e
   ·omega
  have N:zbZ kV ([]:List EV) y=[y]:=rfl;refine⟨b,⟨Or.inr ⟨b,rfl,F⟩,fun l p=>by injection p with p;subst p;exact⟨Or.inr (Nat.le_trans q.size O),F.lt⟩,zcx zem,fun x c=>?_,fun x c a d=>?_,fun x c=>?_⟩,
   ⟨m.map.keep fun l p=>z l (v l (m.inM l p)) (I _ (m.inM l p)),fun l p=>A _ (m.inM l p),m.srt,fun x c=>zaj (m.own x c) fun a d=>z _ (v _ (m.inF x c a d)) (I _ (m.inF x c a d)),fun x c a d=>A _ (m.inF x c a d),m.ok⟩,
   fun e=>?_,fun k j r _=>z k j r,Or.inr ⟨rfl,O,t⟩⟩
  ·rw [N] at c;have:x=y:=by simpa using c
   subst this;exact D
  ·rw [N] at c;have:x=y:=by simpa using c
   subst this;exact⟨M a d,(zaJ D d).2.1⟩
  ·rw [N] at c;have:x=y:=by simpa using c
   subst this;exact ok
  ·have U:=v b (m.inM b e);have h4:=q.size;omega
section
variable {w4 w5 w6 : World} {F FL FS : Nat → Prop} {g m q : Nat} {rs : List Rc} {lm fm : Option Nat} {TL TF : List EV} {A : Option Addr} {c : Nat} {acks : List AckP} {y : EV} {e : Ending}
theorem ziV(h:StB KS w4 F FL FS g rs m q lm fm TL TF A c acks)(d:∀ k,k<w4.heap.size->k≠g->(∀ T,¬ zdg w4 k T)->w6.heap[k]?=w4.heap[k]?):w6.ownsRow 0 130 5 (slice A acks.length c) acks.length (zaE acks):=
 zaj h.own fun a b=>d _ (zaJ h.own b).2.1 (fun e=>h.dis g (zhq h.lg) (by rw [<-e];exact h.inA a b)) fun T i=>zbU h.own i b rfl
theorem zcZ{w:World}{b:Nat}{T:List EV}(h:zjo w (some b) T):zdg w b T:=by
 rcases h with⟨h,_⟩|⟨c,h,a⟩
 ·cases h
 ·injection h with h;subst h;exact a
theorem zuE(h:StB KS w4 F FL FS g rs m q lm fm TL TF A c acks)(o:Below w4.heap.size w4 w5)(C:zix w5 w4.heap.size y)(ok:okE y.1)(L:zsi g 6 fm TF y w5 e w6) :
 e=.returned (.tuple #[])/\(∃ K,StB KS w6 (Now w4 w6 F) FL (Now w4 w6 FS) g rs m q lm K TL (zbZ kV TF y) A c acks)/\Touch F w4 w6/\(∀ k,k<w4.heap.size->k≠g->¬ fm=some k->w6.heap[k]?=w4.heap[k]?):=by
 have x:=zhq h.lg;have N:g<w4.heap.size:=h.lt g (h.sub g (Or.inl x));have v:∀ k,FS k->k<w4.heap.size:=fun k d=>h.lt k (h.sub k (Or.inr d));obtain⟨M,t,s,r,E,B,G⟩:=zql h.tf h.tl (fun b s r=>h.ne b r s) v (h.dis g x) N o (zaz C (Nat.zero_le _)) (fun a j=>Or.inr (zaJ C j).1) ok L;have D:∀ k,k<w4.heap.size->k≠g->(∀ T,¬ zdg w4 k T)->w6.heap[k]?=w4.heap[k]?:=fun k d i Q=>B k d i fun e=>Q TF (by have:=h.tf.map;rw [e] at this;exact zcZ this);refine⟨M,?_,?_,B⟩
 ·rcases G with⟨rfl,ht⟩|⟨rfl,R,ht⟩
  ·have O:∀ k,FL k->w6.heap[k]?=w4.heap[k]?:=fun k d=>ht.block k (h.lt k (h.sub k (Or.inl d))) (h.dis k d);refine⟨some t,⟨h.lg.keep ht.size O,r,s,fun b l u=>E (by rw [l,<-u]),ziV h D,fun a j=>⟨Or.inl (h.inA a j),Nat.lt_of_lt_of_le (v _ (h.inA a j)) ht.size⟩,fun k d i=>?_,fun k d=>?_,fun k d=>d.2⟩⟩
   ·rcases i.1 with i|i
    ·exact h.dis k d i
    ·have:=h.lt k (h.sub k (Or.inl d));omega
   ·rcases d with d|d
    ·exact⟨Or.inl (h.sub k (Or.inl d)),Nat.lt_of_lt_of_le (h.lt k (h.sub k (Or.inl d))) ht.size⟩
    ·exact⟨d.1.imp (fun l=>h.sub k (Or.inr l)) id,d.2⟩
  ·have J:=zcd ht;have z:w4.heap.size<=w6.heap.size:=Nat.le_trans o.size J;have I:=(zv3 (h.lg.below o) (some t)).keep ht.size (fun k d=>ht.block k (by have:=h.lt k (h.sub k (Or.inl d));have:=o.size;simp [World.setCell];omega) (fun h=>h));refine⟨some t,⟨I,r,s,fun b l u=>E (by rw [l,<-u]),ziV h D,fun a j=>⟨Or.inl (h.inA a j),Nat.lt_of_lt_of_le (v _ (h.inA a j)) z⟩,fun k d i=>?_,fun k d=>?_,fun k d=>d.2⟩⟩
   ·rcases i.1 with i|i
    ·exact h.dis k d i
    ·have:=h.lt k (h.sub k (Or.inl d));omega
   ·rcases d with d|d
    ·exact⟨Or.inl (h.sub k (Or.inl d)),Nat.lt_of_lt_of_le (h.lt k (h.sub k (Or.inl d))) z⟩
    ·exact⟨d.1.imp (fun l=>h.sub k (Or.inr l)) id,d.2⟩
 ·rcases G with⟨_,ht⟩|⟨_,_,ht⟩
  ·exact ht.mono fun k d=>h.sub k (Or.inr d)
  ·exact((Touch.ofBelow o).set_ (p:=⟨g,6,none⟩) (Or.inl (h.sub g (Or.inl x))) _).trans ht fun k d=>d.elim
theorem zuF(h:StB KS w4 F FL FS g rs m q lm fm TL TF A c acks)(o:Below w4.heap.size w4 w5)(N:zix w5 0 y)(M:InF FS y.2.1)(ok:okE y.1)(J:zsi g 5 lm TL y w5 e w6) :
 e=.returned (.tuple #[])/\(∃ L,StB KS w6 (Now w4 w6 F) FL (Now w4 w6 FS) g rs m q L fm (zbZ kV TL y) TF A c acks)/\Touch F w4 w6/\(∀ k,k<w4.heap.size->k≠g->¬ lm=some k->w6.heap[k]?=w4.heap[k]?):=by
 have u:=zhq h.lg;have O:g<w4.heap.size:=h.lt g (h.sub g (Or.inl u));have t:∀ k,FS k->k<w4.heap.size:=fun k d=>h.lt k (h.sub k (Or.inr d));obtain⟨K,r,B,v,D,z,E⟩:=zql h.tl h.tf h.ne t (h.dis g u) O o N (fun a j=>Or.inl (M a j)) ok J;have C:∀ k,k<w4.heap.size->k≠g->(∀ T,¬ zdg w4 k T)->w6.heap[k]?=w4.heap[k]?:=fun k d i R=>z k d i fun e=>R TL (by have:=h.tl.map;rw [e] at this;exact zcZ this);refine⟨K,?_,?_,z⟩
 ·rcases E with⟨rfl,ht⟩|⟨rfl,S,ht⟩
  ·have Q:∀ k,FL k->w6.heap[k]?=w4.heap[k]?:=fun k d=>ht.block k (h.lt k (h.sub k (Or.inl d))) (h.dis k d);refine⟨some r,⟨h.lg.keep ht.size Q,B,v,fun b l s=>D (by rw [s,<-l]),ziV h C,fun a j=>⟨Or.inl (h.inA a j),Nat.lt_of_lt_of_le (t _ (h.inA a j)) ht.size⟩,fun k d i=>?_,fun k d=>?_,fun k d=>d.2⟩⟩
   ·rcases i.1 with i|i
    ·exact h.dis k d i
    ·have:=h.lt k (h.sub k (Or.inl d));omega
   ·rcases d with d|d
    ·exact⟨Or.inl (h.sub k (Or.inl d)),Nat.lt_of_lt_of_le (h.lt k (h.sub k (Or.inl d))) ht.size⟩
    ·exact⟨d.1.imp (fun l=>h.sub k (Or.inr l)) id,d.2⟩
  ·have I:=zcd ht;have x:w4.heap.size<=w6.heap.size:=Nat.le_trans o.size I;have G:=(zv2 (h.lg.below o) (some r)).keep ht.size (fun k d=>ht.block k (by have:=h.lt k (h.sub k (Or.inl d));have:=o.size;simp [World.setCell];omega) (fun h=>h));refine⟨some r,⟨G,B,v,fun b l s=>D (by rw [s,<-l]),ziV h C,fun a j=>⟨Or.inl (h.inA a j),Nat.lt_of_lt_of_le (t _ (h.inA a j)) x⟩,fun k d i=>?_,fun k d=>?_,fun k d=>d.2⟩⟩
   ·rcases i.1 with i|i
    ·exact h.dis k d i
    ·have:=h.lt k (h.sub k (Or.inl d));omega
   ·rcases d with d|d
    ·exact⟨Or.inl (h.sub k (Or.inl d)),Nat.lt_of_lt_of_le (h.lt k (h.sub k (Or.inl d))) x⟩
    ·exact⟨d.1.imp (fun l=>h.sub k (Or.inr l)) id,d.2⟩
 ·rcases E with⟨_,ht⟩|⟨_,_,ht⟩
  ·exact ht.mono fun k d=>h.sub k (Or.inr d)
  ·exact((Touch.ofBelow o).set_ (p:=⟨g,5,none⟩) (Or.inl (h.sub g (Or.inl u))) _).trans ht fun k d=>d.elim
end
end
section
open Go.RowKit Mem Be Word Frm Go.Maps
variable {KS KS' : StK}
def zbq(S:St8)(e:EntP):St8×Int:=if(zac (S.rs++[(1,zbe e)])).length<=4194304 then(⟨S.rs++[(1,zbe e)],S.m,S.L,zbZ kE S.N e,S.acks⟩,0) else(S,3)
theorem zqm(rs:List Rc){e:EntP}(h:okE e):ztO rs 1 [zbe e]=if(zac (rs++[(1,zbe e)])).length<=4194304 then(rs++[(1,zbe e)],0) else(rs,3):=by
 have g:=zcN h;unfold ztO;have i:zfk 1 [zbe e]=[(1,zbe e)]:=rfl;rw [i];by_cases a:(zac (rs++[(1,zbe e)])).length<=4194304
 ·rw [if_pos a,if_pos ⟨fun b d=>(by have c:b=zbe e:=(by simpa using d);rw [c];exact g),a⟩]
 ·rw [if_neg a,if_neg fun h=>a h.2]
theorem zfM(x:EV)(ok:okE x.1)(w:World)(h:ValOk w x.1.has x.2.1 x.1.v x.2.2):Calls Tryz.prog 121 #[evV x] w (zgv w.heap.size (zbe x.1) 0 w):=by
 obtain⟨⟨k,s,u,o,has,v⟩,A,c⟩:=x;have a:(⟨k.toArray⟩:ByteArray).size=k.length:=by show k.toArray.size=_;simp
 unfold okE at ok;simp only at ok h ⊢;cases has
 ·have:=zr3 ⟨k.toArray⟩ s u o A v v.length c rfl (by rw [a];exact ok) w h;rw [zrO] at this;exact this
 ·have:=zpf ⟨k.toArray⟩ s u o A v v.length c rfl (by rw [a];exact ok) w h;rw [zrO] at this;exact this
section
variable {w w2 w3 : World} {F FL FL' FS : Nat → Prop} {g m q m' q' : Nat} {rs rs' : List Rc} {lm fm : Option Nat} {TL TF : List EV} {A : Option Addr} {c : Nat} {acks : List AckP}
theorem zkd(h:StB KS w F FL FS g rs m q lm fm TL TF A c acks)(j:Below w.heap.size w w2)(p:∀ k,FL' k->FL k\/w2.heap.size<=k)(hl:zcD (stK KS lm fm (slice A acks.length c)) w3 FL' g rs' m' q')(ht:Touch FL w2 w3) :
 StB KS w3 (Now w w3 F) FL' FS g rs' m' q' lm fm TL TF A c acks/\Touch F w w3:=by
 have l:∀ k,FS k->k<w.heap.size:=fun k d=>h.lt k (h.sub k (Or.inr d));have t:w.heap.size<=w3.heap.size:=Nat.le_trans j.size ht.size;have d:∀ k,FS k->w3.heap[k]?=w.heap[k]?:=fun k o=>(ht.block k (Nat.lt_of_lt_of_le (l k o) j.size) fun hl=>h.dis k hl o).trans (j.block k (l k o));refine⟨⟨hl,h.tl.keep d,h.tf.keep d,h.ne,zaj h.own fun a s=>d _ (h.inA a s),h.inA,fun k b r=>?_,fun k b=>?_,fun k b=>b.2⟩,(Touch.ofBelow j).trans ht fun k d=>Or.inl (h.sub k (Or.inl d))⟩
 ·rcases p k b with i|i
  ·exact h.dis k i r
  ·have:=l k r;have:=j.size;omega
 ·rcases b with b|b
  ·refine⟨?_,hl.lt k b⟩;rcases p k b with i|i
   ·exact Or.inl (h.sub k (Or.inl i))
   ·exact Or.inr (Nat.le_trans j.size i)
  ·exact⟨Or.inl (h.sub k (Or.inr b)),Nat.lt_of_lt_of_le (l k b) t⟩
end
theorem zuG{S:St8}(h:Ok8 S){e:EntP}(ok:okE e)(d:e.s≠0)(hc:¬ zeu e (ofT S.N e.k)<0):Ok8 ⟨S.rs++[(1,zbe e)],S.m,S.L,zbZ kE S.N e,S.acks⟩:=by
 have a:=zpR h.newer ok d;rw [show zhk S.N e=zbZ kE S.N e from if_neg hc] at a;refine⟨by have:=h.le;simp;omega,a,?_,fun j c hl=>?_⟩
 ·show zd3 ((S.rs++[(1,zbe e)]).take S.m)=_
  rw [List.take_append_of_le_length h.le];exact h.lasts
 ·by_cases b:j<=S.rs.length
  ·show(zd3 ((S.rs++[(1,zbe e)]).take j)).isSome=true
   rw [List.take_append_of_le_length b];exact h.told j c b
  ·have:(S.rs++[(1,zbe e)]).take j=S.rs++[(1,zbe e)]:=List.take_of_length_le (by simp;omega);show(zd3 ((S.rs++[(1,zbe e)]).take j)).isSome=true
   rw [this,a];rfl
theorem zhZ(F:Nat->Prop)(g q:Nat)(S:St8)(x:EV)(ok:okE x.1)(hs:x.1.s≠0)(hc:¬ zeu x.1 (ofT S.N x.1.k)<0)(w:World)(h:zci KS w F g S q)(V:ValOk w x.1.has x.2.1 x.1.v x.2.2)(hN:zaK F w x.2.1 (x.1.v.map zaa)) :
 Calls Tryz.prog 116 #[.pointer (some ⟨g,0,none⟩),evV x] w (zqf KS (int i64 (zbq S x.1).2) F g (zbq S x.1).1 q w):=by
 by_cases D:(zac (S.rs++[(1,zbe x.1)])).length<=4194304
 ·rw [show zbq S x.1=(⟨S.rs++[(1,zbe x.1)],S.m,S.L,zbZ kE S.N x.1,S.acks⟩,0) from if_pos D];simp only;have ay:=h.many;have ak:=h.ok;obtain⟨h0,FL,FS,lm,T,TL,U,A,c,R,Q,ab,h⟩:=h;have aB:=zhd ab;have Z:U.length<=419430:=by omega
  have a:=zhd h;have ao:=zhd ak;have al:=zhd (And.intro R Q);have aq:=zhd ok;have aL:=zhd hs;have HC:=zhd hc;have c5:=zdc h.lg;have aO:g<w.heap.size:=zaq c5;have aG:=zhd Z;have ag:=zhd (Blk.new w 46 ⟨zbf x⟩);have C:Hid (Below w.heap.size w (w.alloc (cells ⟨zbf x⟩ 46))):=zhd (zbl);have y:=zhd (zfM x ok (w.alloc (cells ⟨zbf x⟩ 46)) (V.below C.out));have HV:=zhd V;have aN:=zhd hN;have ah:=zqm S.rs ok;have af:=zhd ah;have aA:=zhd (zcN ok);obtain⟨B,E⟩:∃ B,zbe x.1=B:=⟨_,rfl⟩;have t:=zhd E;rw [E] at y;clear h h0 R Q ab ak ok hs hc V hN ay Z ah E c5;unfold evV;unfold evV at y;go_enter Tryz.func116,Tryz.ntmps116
  go_wp2_with fail
  refine y.out.mono ?_;rintro e w1 ⟨b,c1,rfl,ae,K⟩;have p:=zhd (C.out.trans (K.mono C.out.size));have au:=zhd (ag.out.below K ag.out.lt);have ai:=(a.out.lg.below p.out).below ((Below.refl w1.heap.size w1).alloc (Nat.le_refl _) (cells #[slice b B.length c1] 27));have O:=zgS (J:=stK KS lm T (slice A S.acks.length c)) FL g S.m q 1 1 1 (by decide) S.rs (some ⟨w1.heap.size,0,none⟩) [(b,B,c1)] rfl (by omega) (fun r I=>by
   have:r=(b,B,c1):=by simpa using I
   subst this;have h3:=aA.out;rw [t.out] at h3;show B.length<=maxLen
   unfold maxLen;omega) _ ai (by
   refine Or.inr ⟨w1.heap.size,0,rfl,fun hf=>?_,by simp,fun j hj=>?_⟩
   ·have h3:=a.out.lt _ (a.out.sub _ (Or.inl hf));have h4:=p.out.size;omega
   ·have az:j=0:=by simp at hj;omega
    subst az;exact(Blk.new w1 27 #[slice b B.length c1]).cell 0) (fun r I=>by
   have:r=(b,B,c1):=by simpa using I
   subst this;have aD:=zag ae ((Below.refl w1.heap.size w1).alloc (Nat.le_refl _) (cells #[slice b B.length c1] 27));exact zaF (w:=w.alloc (cells ⟨zbf x⟩ 46)) (fun k l=>Nat.lt_of_lt_of_le (a.out.lt k (a.out.sub k (Or.inl l))) C.out.size) aD)
  rw [show(((1:UInt8).toNat:Nat):Int)=1 from rfl,show zaI [(b,B,c1)]=[B] from rfl,<-t.out,af.out,t.out] at O;have G:=zhd O;clear O ai ae K y;rw [t.out] at D;rw [if_pos D] at G;clear D af;go_wp2_with fail
  refine G.out.mono ?_;rintro e d ⟨rfl,aw,X,aj,M⟩;have ax:=zkd a.out (p.out.alloc p.out.size _) X aj M;have hne:∀ k,FL k->k≠w.heap.size:=fun k l e=>by have:=a.out.lt k (a.out.sub k (Or.inl l));omega
  have aP:d.heap[w.heap.size]?=w1.heap[w.heap.size]?:=(M.block _ (by have:=au.out.lt;simp;omega) fun hf=>hne _ hf rfl).trans (((Below.refl w1.heap.size w1).alloc (Nat.le_refl _) _).block _ au.out.lt);have an:Hid (Blk d w.heap.size 46 ⟨zbf x⟩):=zhd (aP.trans au.out);have Y:=zhd ax;have aM:ValOk d x.1.has x.2.1 x.1.v x.2.2:=⟨(aN.out.touch ax.2).row,HV.out.len,HV.out.cap⟩;have aU:Hid (∀ W,Below d.heap.size d W->Calls Tryz.prog 72 #[zaT ⟨x.1.k.toArray⟩ x.1.s x.1.u x.1.o x.1.has x.2.1 x.1.v.length x.2.2] W (zlb W.heap.size ⟨x.1.k.toArray⟩ x.1.s x.1.u x.1.o x.1.has x.1.v W)):=zhd fun W i=>zdp ⟨x.1.k.toArray⟩ x.1.s x.1.u x.1.o x.1.has x.2.1 x.1.v x.1.v.length x.2.2 rfl W (aM.below i);have am:Hid (Below d.heap.size d d.drew):=zhd (Below.refl _ _).drew;have bf:g<d.heap.size:=Nat.lt_of_lt_of_le aO (by have:=p.out.size;have:=M.size;simp at this;omega);obtain⟨s0,s1,s2,s3,s4,s5⟩:=ent_cells an.out;have aK:Hid (∀ z:World,z.heap[w.heap.size]?=d.heap[w.heap.size]?->z.cell? ⟨w.heap.size,0,none⟩=some (.string ⟨x.1.k.toArray⟩)/\z.cell? ⟨w.heap.size,1,none⟩=some (int i64 x.1.s)/\z.cell? ⟨w.heap.size,2,none⟩=some (int i64 x.1.u)/\
   z.cell? ⟨w.heap.size,3,none⟩=some (int i64 x.1.o)/\z.cell? ⟨w.heap.size,4,none⟩=some (.bool x.1.has)/\z.cell? ⟨w.heap.size,5,none⟩=some (slice x.2.1 x.1.v.length x.2.2)):=zhd fun z h=>by
    have i:Blk z w.heap.size 46 ⟨zbf x⟩:=h.trans an.out;exact⟨i.cell 0,i.cell 1,i.cell 2,i.cell 3,i.cell 4,i.cell 5⟩
  have aZ:Hid (¬ T=some w.heap.size):=zhd fun e=>by have:=a.out.lt _ (a.out.sub _ (Or.inr (a.out.tf.inM _ e)));omega
  have aR:Hid (w.heap.size≠g):=zhd (by omega);clear X aj M G ax hne aP aM;go_wp2_with fail
  go_region_held3 (fun w'=>w'.cell? ⟨w.heap.size,0,none⟩=some (.string ⟨x.1.k.toArray⟩)/\w'.cell? ⟨w.heap.size,1,none⟩=some (int i64 x.1.s)/\w'.cell? ⟨w.heap.size,2,none⟩=some (int i64 x.1.u)/\w'.cell? ⟨w.heap.size,3,none⟩=some (int i64 x.1.o)/\w'.cell? ⟨w.heap.size,4,none⟩=some (.bool x.1.has)/\w'.cell? ⟨w.heap.size,5,none⟩=some (slice x.2.1 x.1.v.length x.2.2))
   (first|go_keep|exact aK.out _ aQ.out|exact aK.out _ aX.out)
   (first
    | (go_at_call 72;refine(aU.out _ am.out).mono ?_;rintro e w5 ⟨A5,c5,rfl,ho,i⟩;(have aa:=zhd (am.out.trans (i.mono am.out.size)));(have aV:Hid (zix w5 d.heap.size (x.1,A5,c5)):=zhd (zaz ho am.out.size));(have aX:Hid (w5.heap[w.heap.size]?=d.heap[w.heap.size]?):=zhd (aa.out.block _ an.out.lt));(have aT:=zhd (ziE U T g 6 (x.1,A5,c5) (zah aq.out).2.1 (by have:=aG.out;omega) w5 (zgU (Y.out.1.lg.below aa.out)) (zqd (Y.out.1.lg.below aa.out) 6) (Y.out.1.tf.map.below aa.out)));clear ho i)
    | (go_at_call 124;refine aT.out.mono ?_;rintro e w6 hx;obtain⟨rfl,aE,aH,aJ⟩:=zuE Y.out.1 aa.out aV.out aq.out hx;(have aQ:Hid (w6.heap[w.heap.size]?=d.heap[w.heap.size]?):=zhd (aJ _ an.out.lt aR.out aZ.out));(have aS:=zhd (And.intro aE aH));clear hx aE aH aJ))
  all_goals
   clear s0 s1 s2 s3 s4 s5;go_wp2;go_ret;obtain⟨⟨aW,aI⟩,aY⟩:=aS.out;rw [<-t.out] at aI;refine⟨rfl,_,fun k l=>?_,⟨zuG ao.out aq.out aL.out (by have:=HC.out;omega),aw,_,lm,aW,TL,_,A,c,al.out.1,?_,?_,aI⟩,Y.out.2.trans aY fun k l=>l.1⟩
   ·rcases l.1 with h|h
    ·exact h.1
    ·exact Or.inr (Nat.le_trans Y.out.2.size h)
   ·rw [zlC,zpE ao.out.lOk.srt (ziU.1 a.out.tf.srt),al.out.2]
   ·have R:=ziC (key:=kV) (x.1,A5,c5) U;have Q:=aB.out;show _<=(S.rs++[(1,zbe x.1)]).length
    rw [List.length_append];simp only [List.length_cons,List.length_nil];omega
 ·rw [show zbq S x.1=(S,3) from if_neg D];simp only;have ay:=h.many;have ak:=h.ok;obtain⟨h0,FL,FS,lm,T,TL,U,A,c,R,Q,ab,h⟩:=h;have aB:=zhd ab;have Z:U.length<=419430:=by omega
  have a:=zhd h;have ao:=zhd ak;have al:=zhd (And.intro R Q);have aq:=zhd ok;have aL:=zhd hs;have HC:=zhd hc;have c5:=zdc h.lg;have aO:g<w.heap.size:=zaq c5;have aG:=zhd Z;have ag:=zhd (Blk.new w 46 ⟨zbf x⟩);have C:Hid (Below w.heap.size w (w.alloc (cells ⟨zbf x⟩ 46))):=zhd (zbl);have y:=zhd (zfM x ok (w.alloc (cells ⟨zbf x⟩ 46)) (V.below C.out));have HV:=zhd V;have aN:=zhd hN;have ah:=zqm S.rs ok;have af:=zhd ah;have aA:=zhd (zcN ok);obtain⟨B,E⟩:∃ B,zbe x.1=B:=⟨_,rfl⟩;have t:=zhd E;rw [E] at y;clear h h0 R Q ab ak ok hs hc V hN ay Z ah E c5;unfold evV;unfold evV at y;go_enter Tryz.func116,Tryz.ntmps116
  go_wp2_with fail
  refine y.out.mono ?_;rintro e w1 ⟨b,c1,rfl,ae,K⟩;have p:=zhd (C.out.trans (K.mono C.out.size));have au:=zhd (ag.out.below K ag.out.lt);have ai:=(a.out.lg.below p.out).below ((Below.refl w1.heap.size w1).alloc (Nat.le_refl _) (cells #[slice b B.length c1] 27));have O:=zgS (J:=stK KS lm T (slice A S.acks.length c)) FL g S.m q 1 1 1 (by decide) S.rs (some ⟨w1.heap.size,0,none⟩) [(b,B,c1)] rfl (by omega) (fun r I=>by
   have:r=(b,B,c1):=by simpa using I
   subst this;have h3:=aA.out;rw [t.out] at h3;show B.length<=maxLen
   unfold maxLen;omega) _ ai (by
   refine Or.inr ⟨w1.heap.size,0,rfl,fun hf=>?_,by simp,fun j hj=>?_⟩
   ·have h3:=a.out.lt _ (a.out.sub _ (Or.inl hf));have h4:=p.out.size;omega
   ·have az:j=0:=by simp at hj;omega
    subst az;exact(Blk.new w1 27 #[slice b B.length c1]).cell 0) (fun r I=>by
   have:r=(b,B,c1):=by simpa using I
   subst this;have aD:=zag ae ((Below.refl w1.heap.size w1).alloc (Nat.le_refl _) (cells #[slice b B.length c1] 27));exact zaF (w:=w.alloc (cells ⟨zbf x⟩ 46)) (fun k l=>Nat.lt_of_lt_of_le (a.out.lt k (a.out.sub k (Or.inl l))) C.out.size) aD)
  rw [show(((1:UInt8).toNat:Nat):Int)=1 from rfl,show zaI [(b,B,c1)]=[B] from rfl,<-t.out,af.out,t.out] at O;have G:=zhd O;clear O ai ae K y;rw [t.out] at D;rw [if_neg D] at G;clear D af;go_wp2_with fail
  refine G.out.mono ?_;rintro e d ⟨rfl,aw,X,aj,M⟩;have HX:=zhd (zkd a.out (p.out.alloc p.out.size _) X aj M);have bd:=zhd X;clear X aj M G;go_wp2;go_ret;exact⟨rfl,_,fun k l=>l.1,⟨ao.out,aw,FS,lm,T,TL,U,A,c,al.out.1,al.out.2,aB.out,HX.out.1⟩,HX.out.2⟩
end
section
open Go.RowKit Mem Be Word Frm Go.Maps
variable {KS KS' : StK}
def zaW(e:EntP)(who:Int):AckP:=⟨who,e.k,e.s,e.u,e.o⟩
def zdv(S:St8)(a:AckP):St8:=⟨S.rs,S.m,S.L,S.N,S.acks++[a]⟩
def zhr(e:EntP)(who:Int):Prop:=okE e/\e.s≠0/\0<=who/\who<=1048575
instance mayPdec(e:EntP)(who:Int):Decidable (zhr e who):=by unfold zhr okE;infer_instance
def zce(S:St8)(e:EntP)(who:Int):St8×Int:=
 if zhr e who then(if 0<zeu e (ofT S.N e.k) then(if(zbq S e).2=0 then(zdv (zbq S e).1 (zaW e who),0) else(S,(zbq S e).2)) else(zdv S (zaW e who),0)) else(S,2)
theorem TabAt.keepBut{w w':World}{F:Nat->Prop}{mo:Option Nat}{T:List EV}(h:TabAt w F mo T)(hk:∀ k,F k->(∀ cur,w.heap[k]?≠some (cells cur 130 (0,0)))->w'.heap[k]?=w.heap[k]?):TabAt w' F mo T:=by
 refine⟨?_,h.inM,h.srt,fun x hx=>zaj (h.own x hx) fun a ha=>hk _ (h.inF x hx a ha) fun cur e=>?_,h.inF,h.ok⟩
 ·rcases h.map with h1|⟨b,h1,h2⟩
  ·exact Or.inl h1
  ·refine Or.inr ⟨b,h1,h2.keep (hk b (h.inM b h1) fun cur e=>?_)⟩;exact h2.ne e rfl
 ·obtain⟨_,_,cur',hh⟩:=zaJ (h.own x hx) ha;rw [e] at hh;injection hh with hh;injection hh with _ hh;exact absurd hh (by decide)
theorem zqn{W w4 d:World}{F G FS:Nat->Prop}{g m q:Nat}{rs:List Rc}{R Q:Option Nat}{I S:List EV}{A i:Option Addr}{c c':Nat}{acks:List AckP}{a:AckP}(h:StB KS W F G FS g rs m q R Q I S A c acks)(l:Below W.heap.size W w4)
 (L:d.ownsRow 0 130 5 (slice i (acks.length+1) c') (acks.length+1) (zaE (acks++[a]))) (t:w4.grownBy d (Value.slice A acks.length c).ownBlock)
 (U:(Value.slice i (acks.length+1) c').ownBlock=(Value.slice A acks.length c).ownBlock\/(Value.slice i (acks.length+1) c').ownBlock=some w4.heap.size) :
 StB KS (d.setCell ⟨g,7,none⟩ (slice i (acks.length+1) c')) (Now W d F) G (Now W d FS) g rs m q R Q I S i c' (acks++[a])/\Touch F W (d.setCell ⟨g,7,none⟩ (slice i (acks.length+1) c'))/\d.cell? ⟨g,7,none⟩=some (slice A acks.length c)/\d.frozen? ⟨g,7,none⟩=false:=by
 have E:=zhq h.lg;have s:∀ k,(Value.slice A acks.length c).ownBlock=some k->FS k/\∃ o,W.heap[k]?=some (cells o 130 (0,0)):=fun k b=>by
  cases A with
  | none=>cases b
  | some x=>
   have:x.block=k:=by simpa [Value.ownBlock] using b
   subst this;exact⟨h.inA x rfl,(zaJ h.own rfl).2.2⟩
 have j:∀ k,F k->k<W.heap.size:=h.lt;have B:W.heap.size<=d.heap.size:=Nat.le_trans l.size t.size;have X:(d.setCell ⟨g,7,none⟩ (slice i (acks.length+1) c')).heap.size=d.heap.size:=by simp [World.setCell]
 have Y:∀ k,k<W.heap.size->¬ (∃ o,W.heap[k]?=some (cells o 130 (0,0)))->d.heap[k]?=W.heap[k]?:=fun k b z=>
  (t.block k (Nat.lt_of_lt_of_le b l.size) fun e=>z (s k e.symm).2).trans (l.block k b)
 have Z:∀ k,G k->d.heap[k]?=W.heap[k]?:=fun k b=>(t.block k (Nat.lt_of_lt_of_le (j k (h.sub k (Or.inl b))) l.size) fun e=>h.dis k b (s k e.symm).1).trans (l.block k (j k (h.sub k (Or.inl b))));have v:=h.lg.keep B Z;have K:∀ k,FS k->k≠g:=fun k b e=>h.dis g E (by rw [<-e];exact b);have M:∀ k,k≠g->(d.setCell ⟨g,7,none⟩ (slice i (acks.length+1) c')).heap[k]?=d.heap[k]?:=fun k b=>Below.heap_setCell d ⟨g,7,none⟩ _ k b;have J:∀ x,i=some x->Now W d FS x.block:=fun x u=>by
  refine⟨?_,(zaJ L u).2.1⟩;subst u;rcases U with C|C
  ·exact Or.inl (s _ C.symm).1
  ·have:x.block=w4.heap.size:=by simpa [Value.ownBlock] using C
   have:=l.size;exact Or.inr (by omega)
 have hl:(acks++[a]).length=acks.length+1:=by simp
 have O:∀ {y:Option Nat} {T:List EV},TabAt W FS y T->TabAt (d.setCell ⟨g,7,none⟩ (slice i (acks.length+1) c')) (Now W d FS) y T:=fun {y T} ht=>
  (ht.keepBut fun k b z=>(M k (K k b)).trans (Y k (j k (h.sub k (Or.inr b))) fun⟨o,e⟩=>z o e)).wide fun k b=>⟨Or.inl b,Nat.lt_of_lt_of_le (j k (h.sub k (Or.inr b))) B⟩
 refine⟨⟨?_,O h.tl,O h.tf,h.ne,?_,J,fun k N V=>?_,fun k b=>?_,fun k b=>by rw [X];exact b.2⟩,?_,zka v,zqd v 7⟩
 ·rw [hl];exact ztP v _
 ·rw [hl];exact zaj L fun x u=>M _ fun e=>by
   rcases(J x u).1 with r|r
   ·exact K _ r e
   ·have:=j g (h.sub g (Or.inl E));omega
 ·rcases V.1 with r|r
  ·exact h.dis k N r
  ·have:=j k (h.sub k (Or.inl N));omega
 ·rcases b with b|b
  ·exact⟨Or.inl (h.sub k (Or.inl b)),Nat.lt_of_lt_of_le (j k (h.sub k (Or.inl b))) B⟩
  ·exact⟨b.1.imp (fun D=>h.sub k (Or.inr D)) (fun D=>D),b.2⟩
 ·exact((Touch.ofBelow l).grown t fun k b=>Or.inl (h.sub k (Or.inr (s k b).1))).set_ (p:=⟨g,7,none⟩) (Or.inl (h.sub g (Or.inl E))) _
end
end Go.Proofs.YtahnjkkgojfdmaaGreatDoor
