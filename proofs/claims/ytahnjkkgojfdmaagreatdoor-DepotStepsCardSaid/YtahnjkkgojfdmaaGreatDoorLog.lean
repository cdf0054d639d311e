import Derived.Test.YtahnjkkgojfdmaaGreatDoorDk
import Derived.Test.YtahnjkkgojfdmaaGreatDoorScZ
set_option maxRecDepth 10000
set_option maxHeartbeats 2000000
set_option linter.unusedVariables false
namespace Go.Proofs.YtahnjkkgojfdmaaGreatDoor
open Go.Obj(cells)
open Go.IntKind(i64)
open Go.Value(int slice pointer)
section
open Go.RowKit Mem Be Word Frm
structure LgK where
 ty:TypeId
 X:List Value
 hne:ty≠5
def lg0:LgK:=⟨104,[],by decide⟩
def lgK(J:LgK)(v:Value)(m:Nat):DkK:=⟨J.ty,v :: int i64 (m:Int) :: J.X,J.hne⟩
variable {J : LgK}
section
variable {w : World} {g m : Nat} {t : TypeId} {a b c v : Value}
theorem zwT(h:Blk w g t (dkC (lgK J v m) [a,b,c])):w.cell? ⟨g,3,none⟩=some v:=(h.cell 3).trans (by simp [dkC,lgK])
theorem zwU(h:Blk w g t (dkC (lgK J v m) [a,b,c])):w.cell? ⟨g,4,none⟩=some (int i64 (m:Int)):=(h.cell 4).trans (by simp [dkC,lgK])
theorem zwV(h:Blk w g t (dkC (lgK J v m) [a,b,c]))(u:Value):Blk (w.setCell ⟨g,3,none⟩ u) g t (dkC (lgK J u m) [a,b,c]):=by simpa [dkC,lgK] using h.set_ 3 u
theorem zwW(h:Blk w g t (dkC (lgK J v m) [a,b,c]))(k:Nat):Blk (w.setCell ⟨g,4,none⟩ (int i64 (k:Int))) g t (dkC (lgK J v k) [a,b,c]):=by simpa [dkC,lgK] using h.set_ 4 (int i64 (k:Int))
end
section
variable {w : World} {F : Nat → Prop} {g q m : Nat} {L T : List UInt8} {A A' : Option Addr} {c c' : Nat} {v : Value}
theorem zvU(h:DkB (lgK J v m) w F g L T q A c A' c')(u:Value):DkB (lgK J u m) (w.setCell ⟨g,3,none⟩ u) F g L T q A c A' c':=by
 have b:∀ k,k≠g->(w.setCell ⟨g,3,none⟩ u).heap[k]?=w.heap[k]?:=fun k b=>Below.heap_setCell w ⟨g,3,none⟩ _ k b;exact⟨zwV h.blk u,zaj h.ol fun a d=>b _ (zcU h.ol h.blk (lgK J v m).hne d),zaj h.ot fun a d=>b _ (zcU h.ot h.blk (lgK J v m).hne d),h.fl,h.ft,h.ap,h.fg,
  fun k i=>Nat.lt_of_lt_of_le (h.lt k i) ((Below.refl 0 w).setCell (p:=⟨g,3,none⟩) (Nat.zero_le _) _).size,h.mx⟩
theorem zvV(h:DkB (lgK J v m) w F g L T q A c A' c')(k:Nat):DkB (lgK J v k) (w.setCell ⟨g,4,none⟩ (int i64 (k:Int))) F g L T q A c A' c':=by
 have d:∀ j,j≠g->(w.setCell ⟨g,4,none⟩ (int i64 (k:Int))).heap[j]?=w.heap[j]?:=fun j i=>Below.heap_setCell w ⟨g,4,none⟩ _ j i;exact⟨zwW h.blk k,zaj h.ol fun a b=>d _ (zcU h.ol h.blk (lgK J v m).hne b),zaj h.ot fun a b=>d _ (zcU h.ot h.blk (lgK J v m).hne b),h.fl,h.ft,h.ap,h.fg,
  fun k l=>Nat.lt_of_lt_of_le (h.lt k l) ((Below.refl 0 w).setCell (p:=⟨g,4,none⟩) (Nat.zero_le _) _).size,h.mx⟩
theorem zvW(h:zcV (lgK J v m) w F g L T q)(u:Value):zcV (lgK J u m) (w.setCell ⟨g,3,none⟩ u) F g L T q:=by
 obtain⟨A,c,a,c',h⟩:=h;exact⟨A,c,a,c',zvU h u⟩
theorem zvX(h:zcV (lgK J v m) w F g L T q)(k:Nat):zcV (lgK J v k) (w.setCell ⟨g,4,none⟩ (int i64 (k:Int))) F g L T q:=by
 obtain⟨A,c,a,c',h⟩:=h;exact⟨A,c,a,c',zvV h k⟩
theorem zhV{K:DkK}(h:zcV K w F g L T q):F g:=by
 obtain⟨A,c,a,c',h⟩:=h;exact h.fg
theorem zfW(h:zcV (lgK J v m) w F g L T q):w.cell? ⟨g,3,none⟩=some v:=by
 obtain⟨A,c,a,c',h⟩:=h;exact zwT h.blk
theorem zm1(h:zcV (lgK J v m) w F g L T q):w.cell? ⟨g,4,none⟩=some (int i64 (m:Int)):=by
 obtain⟨A,c,a,c',h⟩:=h;exact zwU h.blk
theorem zsE{K:DkK}(h:zcV K w F g L T q)(i:Nat):w.frozen? ⟨g,i,none⟩=false:=by
 obtain⟨A,c,a,c',h⟩:=h;exact h.blk.frozen i
end
structure LgB (J:LgK) (w:World) (F FD FR:Nat->Prop) (g:Nat) (L T:List UInt8) (q m:Nat) (vs:List za3) (R:Option Addr) (c:Nat):Prop where
 dk:zcV (lgK J (slice R vs.length c) m) w FD g L T q
 own:w.ownsRow 0 168 2 (slice R vs.length c) vs.length (zaw vs)
 byt:zb1 w 0 vs
 inR:InF FR R
 inB:∀ r∈vs,InF FR r.2.1
 dis:∀ k,FD k->¬ FR k
 sub:∀ k,FD k\/FR k->F k
 lt:∀ k,F k->k<w.heap.size
def zcD(J:LgK)(w:World)(F:Nat->Prop)(g:Nat)(rs:List Rc)(m q:Nat):Prop:=
 ∃ FD FR vs R c,vs.map za1=rs/\zca rs/\m<=rs.length/\LgB J w F FD FR g (zac (rs.take m)) (zac (rs.drop m)) q m vs R c
section
variable {w w' : World} {F FD FR G : Nat → Prop} {g q m : Nat} {L T : List UInt8} {vs : List za3} {R : Option Addr} {c : Nat} {rs : List Rc}
theorem LgB.keep(h:LgB J w F FD FR g L T q m vs R c)(hs:w.heap.size<=w'.heap.size)(hk:∀ k,F k->w'.heap[k]?=w.heap[k]?):LgB J w' F FD FR g L T q m vs R c:=
 ⟨h.dk.keep hs fun k hf=>hk k (h.sub k (Or.inl hf)),zaj h.own fun a ha=>hk _ (h.sub _ (Or.inr (h.inR a ha))),fun r hr=>zaj (h.byt r hr) fun a ha=>hk _ (h.sub _ (Or.inr (h.inB r hr a ha))),
  h.inR,h.inB,h.dis,h.sub,fun k hf=>Nat.lt_of_lt_of_le (h.lt k hf) hs⟩
theorem zcD.keep(h:zcD J w F g rs m q)(hs:w.heap.size<=w'.heap.size)(hk:∀ k,F k->w'.heap[k]?=w.heap[k]?):zcD J w' F g rs m q:=by
 obtain⟨FD,FR,vs,R,c,h1,h2,h3,h⟩:=h;exact⟨FD,FR,vs,R,c,h1,h2,h3,h.keep hs hk⟩
theorem zcD.lt(h:zcD J w F g rs m q):∀ k,F k->k<w.heap.size:=by
 obtain⟨FD,FR,vs,R,c,h1,h2,h3,h⟩:=h;exact h.lt
theorem zcD.below(h:zcD J w F g rs m q)(hb:Below w.heap.size w w'):zcD J w' F g rs m q:=h.keep hb.size fun k hk=>hb.block k (h.lt k hk)
theorem zcD.touch(h:zcD J w F g rs m q)(ht:Touch G w w')(hd:∀ k,F k->¬ G k):zcD J w' F g rs m q:=h.keep ht.size fun k hk=>ht.block k (h.lt k hk) (hd k hk)
theorem zcD.mx(h:zcD J w F g rs m q):(zac rs).length<=4194304:=by
 obtain⟨FD,FR,vs,R,c,h1,h2,h3,h⟩:=h;have:=h.dk.mx;rw [zbp rs m,List.length_append];exact this
theorem zcD.many(h:zcD J w F g rs m q):rs.length<=419430:=by
 have h1:=h.mx;have h2:=zd2 rs;unfold zc3 at h2;omega
theorem zcD.short(h:zcD J w F g rs m q):zca rs:=by
 obtain⟨FD,FR,vs,R,c,h1,h2,h3,h⟩:=h;exact h2
theorem zcD.le(h:zcD J w F g rs m q):m<=rs.length:=by
 obtain⟨FD,FR,vs,R,c,h1,h2,h3,h⟩:=h;exact h3
theorem LgB.disk{F1:Nat->Prop}{L1 T1:List UInt8}{q1:Nat}(h:LgB J w F FD FR g L T q m vs R c)(hf:∀ k,F1 k->FD k\/w.heap.size<=k)(hd:zcV (lgK J (slice R vs.length c) m) w' F1 g L1 T1 q1)(ht:Touch FD w w') :
 LgB J w' (fun k=>(F k\/w.heap.size<=k)/\k<w'.heap.size) F1 FR g L1 T1 q1 m vs R c/\Touch F w w':=by
 have hk:∀ k,FR k->w'.heap[k]?=w.heap[k]?:=fun k hr=>ht.block k (h.lt k (h.sub k (Or.inr hr))) fun hd=>h.dis k hd hr;refine⟨⟨hd,zaj h.own fun a ha=>hk _ (h.inR a ha),fun r hr=>zaj (h.byt r hr) fun a ha=>hk _ (h.inB r hr a ha),h.inR,h.inB,fun k h1 h2=>?_,fun k hk=>?_,fun k hk=>hk.2⟩,ht.mono fun k hk=>h.sub k (Or.inl hk)⟩
 ·rcases hf k h1 with h3|h3
  ·exact h.dis k h3 h2
  ·have:=h.lt k (h.sub k (Or.inr h2));omega
 ·rcases hk with hk|hk
  ·refine⟨?_,hd.lt k hk⟩;rcases hf k hk with h3|h3
   ·exact Or.inl (h.sub k (Or.inl h3))
   ·exact Or.inr h3
  ·exact⟨Or.inl (h.sub k (Or.inr hk)),Nat.lt_of_lt_of_le (h.lt k (h.sub k (Or.inr hk))) ht.size⟩
theorem LgB.setM(h:LgB J w F FD FR g L T q m vs R c)(k:Nat):LgB J (w.setCell ⟨g,4,none⟩ (int i64 (k:Int))) F FD FR g L T q k vs R c:=by
 have hg:=zhV h.dk;have hk:∀ j,FR j->(w.setCell ⟨g,4,none⟩ (int i64 (k:Int))).heap[j]?=w.heap[j]?:=fun j hj=>Below.heap_setCell w ⟨g,4,none⟩ _ j (fun e=>h.dis g hg (by have e:j=g:=e;rw [<-e];exact hj));exact⟨zvX h.dk k,zaj h.own fun a ha=>hk _ (h.inR a ha),fun r hr=>zaj (h.byt r hr) fun a ha=>hk _ (h.inB r hr a ha),h.inR,h.inB,h.dis,h.sub,
  fun j hf=>Nat.lt_of_lt_of_le (h.lt j hf) ((Below.refl 0 w).setCell (p:=⟨g,4,none⟩) (Nat.zero_le _) _).size⟩
theorem LgB.setR{FR':Nat->Prop}{vs':List za3}{R':Option Addr}{c':Nat}{w0:World}(h:LgB J w0 F FD FR g L T q m vs R c)(hD:zcV (lgK J (slice R vs.length c) m) w FD g L T q)(ho:w.ownsRow 0 168 2 (slice R' vs'.length c') vs'.length (zaw vs'))(hb:zb1 w 0 vs')(hR:InF FR' R')(hB:∀ r∈vs',InF FR' r.2.1)
 (hF:∀ k,FR' k->FR k\/w0.heap.size<=k) (hlt:∀ k,FR' k->k<w.heap.size) (ht:Touch FR w0 w) :
 LgB J (w.setCell ⟨g,3,none⟩ (slice R' vs'.length c')) (fun k=>(F k\/w0.heap.size<=k)/\k<w.heap.size) FD FR' g L T q m vs' R' c'/\Touch F w0 (w.setCell ⟨g,3,none⟩ (slice R' vs'.length c')):=by
 have hg:=zhV h.dk;have hdis:∀ k,FD k->¬ FR' k:=fun k h1 h2=>by
  rcases hF k h2 with h3|h3
  ·exact h.dis k h1 h3
  ·have:=h.lt k (h.sub k (Or.inl h1));omega
 have hk:∀ j,FR' j->(w.setCell ⟨g,3,none⟩ (slice R' vs'.length c')).heap[j]?=w.heap[j]?:=fun j hj=>Below.heap_setCell w ⟨g,3,none⟩ _ j (fun e=>hdis g hg (by have e:j=g:=e;rw [<-e];exact hj));have hsz:(w.setCell ⟨g,3,none⟩ (slice R' vs'.length c')).heap.size=w.heap.size:=by simp [World.setCell]
 refine⟨⟨zvW hD _,zaj ho fun a ha=>hk _ (hR a ha),fun r hr=>zaj (hb r hr) fun a ha=>hk _ (hB r hr a ha),hR,hB,hdis,fun k hk=>?_,fun k hk=>by rw [hsz];exact hk.2⟩,
  (ht.mono fun k hk=>h.sub k (Or.inr hk)).set_ (Or.inl (h.sub g (Or.inl hg))) _⟩
 rcases hk with hk|hk
 ·exact⟨Or.inl (h.sub k (Or.inl hk)),hD.lt k hk⟩
 ·refine⟨?_,hlt k hk⟩;rcases hF k hk with h3|h3
  ·exact Or.inl (h.sub k (Or.inr h3))
  ·exact Or.inr h3
end
def zsF(J:LgK)(v:Value)(F:Nat->Prop)(g:Nat)(rs:List Rc)(m q:Nat)(w:World)(e:Ending)(w':World):Prop:=e=.returned v/\∃ F',(∀ k,F' k->F k\/w.heap.size<=k)/\zcD J w' F' g rs m q/\Touch F w w'
def zsG(v:Value->Value)(rs:List Rc)(m q:Nat)(w:World)(e:Ending)(w':World):Prop:=
 ∃ g F,e=.returned (v (pointer (some ⟨g,0,none⟩)))/\(∀ k,F k->w.heap.size<=k)/\zcD lg0 w' F g rs m q/\Below w.heap.size w w'
theorem zsH{w:World}(base:Nat)(ty:TypeId)(v:Value)(n:Nat)(l:List za3)(o:w.ownsRow base 168 2 v n (zaw l))
 (B:Nat) (A:Option Addr) (m c:Nat) (d:List za3) (hl:d.length=m) (D:Row w B A (zaw d)) (K:n+m<=1073741824) (t:base<=w.heap.size) :
 ∃ h w',(Builtin.append_ #[30,30] ty #[v,slice A m c]).run Tryz.prog w=.ok h w'/\w'.ownsRow base 168 2 h (n+m) (zaw (l++d))/\w.grownBy w' v.ownBlock/\(h.ownBlock=v.ownBlock\/h.ownBlock=some w.heap.size):=by
 obtain⟨i,k,y,x,F⟩:=info_parts ztM;rcases Nat.eq_zero_or_pos m with q|q
 ·subst q;obtain rfl:d=[]:=List.eq_nil_of_length_eq_zero hl;refine⟨v,w,?_,by simpa using o,⟨rfl,rfl,rfl,Nat.le_refl _,fun _ _ _=>rfl⟩,Or.inl rfl⟩;rcases o.2 with⟨rfl,rfl⟩|⟨g,cap,L,rfl,_,_,r,_⟩<;>rcases A with _|a
  ·simp [Builtin.append_,run_underlying Tryz.underlying30,sizeOf,typeInfo,k,Builtin.lenOf,Builtin.firstCells]
  ·simp [Builtin.append_,run_underlying Tryz.underlying30,sizeOf,typeInfo,k,Builtin.lenOf,Builtin.firstCells,loadCells,loadCellsFrom]
  ·simp [Builtin.append_,run_underlying Tryz.underlying30,sizeOf,typeInfo,k,Builtin.lenOf,Builtin.firstCells,r,storeCells]
  ·simp [Builtin.append_,run_underlying Tryz.underlying30,sizeOf,typeInfo,k,Builtin.lenOf,Builtin.firstCells,r,storeCells,loadCells,loadCellsFrom]
 ·obtain⟨b,p,rfl,_,hc⟩:=D.open_ (by rw [za0];omega);have E:∀ j u,(zaw d)[j]?=some u->w.cell? ((⟨b,p,none⟩:Addr).add j)=some u:=by
   intro j u z;obtain⟨s,e⟩:=List.getElem?_eq_some_iff.1 z;have:=hc j s;rw [<-e,<-this];unfold Addr.add;split
   ·subst_vars;rfl
   ·rfl
  obtain⟨h,w',J,C,G,_,I⟩:=run_append_own_at (P:=Tryz.prog) w base 30 ty 168 i _ 2 32 Tryz.underlying30 k y x F rfl (by decide) v n (zaw l) o ⟨b,p,none⟩ m c (zaw d) (by rw [za0,hl]) E (zhS d) (by unfold maxLen;omega) (by omega) t;exact⟨h,w',J,by rw [zcC];exact C,G,I⟩
theorem zp5{i:Array Oper}{o:Oper}{a:Act}{K:Act->World->Prop}{Q:Exit->Act->World->Prop}{E:Prop}{w:World}(y:o.guard=none)(s x:Operand)
 (z:o.op=.call {callee:=.builtin .append,args:=#[s,x],argTypes:=#[30,30]})
 (base:Nat) (v:Value) (n:Nat) (g:List za3) (k:a.eval s=v) (q:w.ownsRow base 168 2 v n (zaw g))
 (B:Nat) (A:Option Addr) (m c:Nat) (d:List za3) (D:a.eval x=slice A m c) (hl:d.length=m) (r:Row w B A (zaw d)) (l:n+m<=1073741824) (j:base<=w.heap.size)
 (h:∀ b w',w'.ownsRow base 168 2 b (n+m) (zaw (g++d))->w.grownBy w' v.ownBlock->(b.ownBlock=v.ownBlock\/b.ownBlock=some w.heap.size)->K (a.put o.dst b) w') :
 if Region.wanted o (yielded i a.tmps)=true then Oper.wp Tryz.prog o a w K Q else E:=by
 have t:Region.wanted o (yielded i a.tmps)=true:=by simp [Region.wanted,y]
 rw [if_pos t];obtain⟨b,w',F,p,C,u⟩:=zsH (w:=w) base o.type v n g q B A m c d hl r l j;unfold Oper.wp execOp;simp only [z,resolve,invoke,builtin,Sem.run_bind,Sem.run_pure,Result.andThen_ok,List.map_toArray,List.map_cons,List.map_nil,k,D,F];exact h b w' p C u
end
section
open Go.RowKit Mem Be Word Frm
variable {J : LgK}
theorem zvY{w:World}{F h:Nat->Prop}{y q n c:Nat}{L:List UInt8}{d:List za3}{R A i:Option Addr}{k l:Nat}(B:n=d.length)(g:DkB dk0 w F y L [] q A k i l)(C:w.ownsRow 0 168 2 (slice R n c) n (zaw d))(E:zb1 w 0 d)
 (x:InF h R) (v:∀ r∈d,InF h r.2.1) (D:∀ k,F k->¬ h k) (u:∀ k,h k->k<w.heap.size) (z:zca (d.map za1)) (G:L=zac (d.map za1)) :
 zcD lg0 (w.alloc (cells #[slice A L.length k,slice i 0 l,int i64 (q:Int),slice R n c,int i64 (n:Int)] 104)) (fun k=>F k\/h k\/k=w.heap.size) w.heap.size (d.map za1) d.length q:=by
 subst B;have o:Below w.heap.size w (w.alloc (cells #[slice A L.length k,slice i 0 l,int i64 (q:Int),slice R d.length c,int i64 (d.length:Int)] 104)):=zbl;have t:(w.alloc (cells #[slice A L.length k,slice i 0 l,int i64 (q:Int),slice R d.length c,int i64 (d.length:Int)] 104)).heap.size=w.heap.size+1:=by simp
 refine⟨fun k=>F k\/k=w.heap.size,h,d,R,c,rfl,z,by simp,?_,zag C o,zaV E o,x,v,fun j m s=>?_,fun j b=>?_,fun j b=>?_⟩
 ·rw [List.take_of_length_le (by simp),List.drop_eq_nil_of_le (by simp),<-G];refine⟨A,k,i,l,⟨Blk.new _ _ _,zag g.ol o,zag g.ot o,fun a p=>Or.inl (g.fl a p),fun a p=>Or.inl (g.ft a p),g.ap,Or.inr rfl,fun j b=>?_,g.mx⟩⟩;rw [t];rcases b with b|b
  ·have:=g.lt j b;omega
  ·omega
 ·rcases m with m|m
  ·exact D j m s
  ·have:=u j s;omega
 ·rcases b with(b|b)|b
  ·exact Or.inl b
  ·exact Or.inr (Or.inr b)
  ·exact Or.inr (Or.inl b)
 ·rw [t];rcases b with b|b|b
  ·have:=g.lt j b;omega
  ·have:=u j b;omega
  ·omega
theorem zj5(F d:Nat->Prop)(y q n c:Nat)(L:List UInt8)(a:List za3)(R:Option Addr)(t:n=a.length)(w:World)(b:zcV dk0 w F y L [] q)(l:w.ownsRow 0 168 2 (slice R n c) n (zaw a))(o:zb1 w 0 a)
 (h:InF d R) (g:∀ r∈a,InF d r.2.1) (m:∀ k,F k->¬ d k) (j:∀ k,d k->k<w.heap.size) (i:zca (a.map za1)) (p:L=zac (a.map za1)) :
 Calls Tryz.prog 94 #[pointer (some ⟨y,0,none⟩),slice R n c] w fun e w'=>e=.returned (pointer (some ⟨w.heap.size,0,none⟩))/\zcD lg0 w' (fun k=>F k\/d k\/k=w.heap.size) w.heap.size (a.map za1) a.length q/\Below w.heap.size w w':=by
 subst t;obtain⟨A,k,s,v,b⟩:=b;have u:=zhd (zvY rfl b l o h g m j i p);have c0:w.cell? ⟨y,0,none⟩=some (slice A L.length k):=b.blk.d0;have c1:w.cell? ⟨y,1,none⟩=some (slice s ([]:List UInt8).length v):=b.blk.d1;have c2:w.cell? ⟨y,2,none⟩=some (int i64 (q:Int)):=b.blk.d2;simp only [List.length_nil] at c1;clear b l o h g m j i p;go_enter Tryz.func94,Tryz.ntmps94
 go_wp2;go_ret;exact⟨rfl,u.out,zbl⟩
theorem zp6(w:World):Calls Tryz.prog 62 #[] w (zsG id [] 0 0 w):=by
 go_enter Tryz.func62,Tryz.ntmps62
 go_wp2_with fail
 refine(zpr w).mono ?_;rintro e w1 ⟨y,F,rfl,c,g,a⟩;have l:=zhd c;have b:=zhd a;have d:=zhd (zj5 F (fun _=>False) y 0 0 0 [] [] none rfl w1 g (World.ownsRow_nil _ _ _ _) (zd4 _ _) (zcL _) (fun r h=>by cases h) (fun k _ h=>h) (fun k h=>h.elim) (fun r h=>by cases h) rfl);simp only [id];clear c g a;go_wp2_with fail
 refine d.out.mono ?_;rintro e i ⟨rfl,hl,a⟩;have j:Hid (zsG id [] 0 0 w (.returned (pointer (some ⟨w1.heap.size,0,none⟩))) i):=zhd ⟨w1.heap.size,_,rfl,fun k m=>by
  rcases m with h|h|h
  ·exact l.out k h
  ·exact h.elim
  ·have:=b.out.size;omega,hl,b.out.trans (a.mono b.out.size)⟩
 clear hl a d;go_wp2;go_ret;exact j.out
def zp7(bs:List UInt8)(q:Nat)(w:World)(e:Ending)(w':World):Prop:=
 zsG (fun p=>.tuple #[p,int i64 ((bs.length:Int) - ((zar bs).2.1:Int)),int i64 0]) (zar bs).1 (zar bs).1.length q w e w'
theorem zsI(F:Nat->Prop)(y q:Nat)(L T:List UInt8)(w:World)(h:zcV dk0 w F y L T q) :
 Calls Tryz.prog 126 #[pointer (some ⟨y,0,none⟩)] w (zp7 (L++T) q w):=by
 have HD:=zhd h;have N:=h.mx;have K:=zpt F y q L T w h;obtain⟨X,M⟩:∃ X,L++T=X:=⟨_,rfl⟩;have an:X.length<=4194304:=by rw [<-M,List.length_append];exact N
 rw [M] at K ⊢;have O:=zhd K;clear h N K M;go_enter Tryz.func126,Tryz.ntmps126
 go_wp2_with fail
 refine O.out.mono ?_;rintro e w1 ⟨D,c1,rfl,g,b⟩;have al:=zhd g;have m:=zhd b;have ao:=zhd (zbR g).1;have HS:=zhd (zsD w1.heap.size c1 X.length D X rfl (zbR g).1 w1 (Row.of_own g) (Nat.le_refl _) an);clear g b O;go_wp2_with fail
 refine HS.out.mono ?_;rintro e C ⟨u,R,cR,j,rfl,Z,aa,b⟩;have am:=zfI X;have J:=zdt X;have E:=zfH X;obtain⟨s,i⟩:∃ s,(zar X).2.1=s:=⟨_,rfl⟩;have U:Hid (zp7 X q w=zsG (fun p=>.tuple #[p,int i64 ((X.length:Int) - (s:Int)),int i64 0]) (u.map za1) u.length q w):=zhd (by
  unfold zp7;rw [i,<-j,List.length_map])
 rw [i,<-j] at J;rw [<-j] at E;rw [i] at am ⊢;have S:=zhd J;have ah:=zhd E;have A:=zhd Z;have I:=zhd aa;have v:=zhd b;have ak:=zhd (((Row.of_own al.out).below b).more b.size);clear j Z aa b i J E HS;go_wp2_with fail
 refine(zmK F y q L T C (HD.out.below (m.out.trans (v.out.mono m.out.size)))).mono ?_;rintro e Q ⟨z,F3,rfl,ab,x,t⟩;have G:=zhd ab;have aq:=zhd x;have o:=zhd t;simp only [id];have hcut:=fun W=>zbk (P:=Tryz.prog) (w:=W) 27 5 _ _ Tryz.underlying27 zaB D X.length c1 s (by have:=ao.out;omega);have au:(s:Int)<=(X.length:Int):=by omega
 have aw:(X.length:Int)<=4194304:=by omega
 have HR:=zhd (zgE F3 z q s Q.heap.size c1 L T (X.take s) D (by rw [List.length_take];omega) (by omega) Q x (by
  rw [List.map_take];exact zby ((ak.out.below t).more t.size) s) (Nat.le_refl _))
 clear ab x t;go_wp2_with fail
 refine HR.out.mono ?_;rintro e w4 ⟨rfl,F4,ag,aj,af⟩;have d:=zhd (o.out.trans (af.below o.out.size G.out));have ae:Hid (∀ k,F4 k->C.heap.size<=k):=zhd fun k l=>by
  rcases ag k l with h|h
  ·exact G.out k h
  ·exact Nat.le_trans o.out.size h
 have ai:=zhd (zj5 F4 (fun k=>w1.heap.size<=k/\k<C.heap.size) z q u.length cR (X.take s) u R rfl w4 aj (zaz (zag A.out d.out) (Nat.zero_le _)) (zfJ (zaV I.out d.out) (Nat.zero_le _))
  (fun a c=>⟨(zaJ A.out c).1,(zaJ A.out c).2.1⟩) (fun r Y a c=>⟨(zaJ (I.out r Y) c).1,(zaJ (I.out r Y) c).2.1⟩)
  (fun k B V=>by have:=ae.out k B;omega) (fun k l=>by have:=d.out.size;omega) ah.out S.out.symm)
 clear ag aj af HR aq G o ak;go_wp2_with fail
 refine ai.out.mono ?_;rintro e w5 ⟨rfl,hl,b⟩;have HX:Hid (zp7 X q w (.returned (.tuple #[pointer (some ⟨w4.heap.size,0,none⟩),int i64 ((X.length:Int) - (s:Int)),int i64 0])) w5):=zhd (by
  have B:=m.out.size;have V:=v.out.size;have h4:=d.out.size;rw [U.out];refine⟨w4.heap.size,_,rfl,fun k l=>?_,hl,m.out.trans ((v.out.trans ((d.out.trans (b.mono h4)).mono V)).mono B)⟩;rcases l with h|h|h
  ·have:=ae.out k h;omega
  ·omega
  ·omega)
 clear hl b ai S ah U;go_wp2;go_ret3
 exact HX.out
theorem zp8(F:Nat->Prop)(g m q:Nat)(rs:List Rc)(w:World)(h:zcD J w F g rs m q) :
 Calls Tryz.prog 83 #[pointer (some ⟨g,0,none⟩)] w (zll id (zac (rs.take m)) (zac (rs.drop m)) q w):=by
 obtain⟨l,o,p,R,c,b,k,i,h⟩:=h;have j:=zhd (zmK l g q _ _ w h.dk);clear h b k i;go_enter Tryz.func83,Tryz.ntmps83
 go_wp2_with fail
 refine j.out.mono ?_;rintro e w1 ⟨y,F1,rfl,a⟩;have d:=zhd a;simp only [id];clear a;go_wp2;go_ret;exact⟨y,F1,rfl,d.out⟩
end
section
open Go.RowKit Mem Be Word Frm
theorem zuz:(Tryz.prog.info? 27).map (fun i=>(i.zero,i.size,i.bytes))=some (some (slice none 0 0),1,24):=by kernel_rfl
def zj6(rs:List zb3):Prop:=∀ r∈rs,r.2.1.length<=65536
def zuA(k:UInt8)(rs:List zb3):List (List UInt8):=rs.map fun r=>frB (k,r.2.1)
def zvZ(w:World)(B:Nat)(r:zb3):Prop:=w.ownsRow B 5 1 (slice r.1 r.2.1.length r.2.2) r.2.1.length (r.2.1.map zaa)
def FrsP(k:UInt8)(rs:List zb3)(w:World)(e:Ending)(w':World):Prop:=
 (zj6 rs/\∃ (fs:List zb3) (A:Option Addr) (c:Nat),fs.map (fun r=>r.2.1)=zuA k rs/\e=.returned (.tuple #[slice A fs.length c,int i64 0])/\
  w'.ownsRow w.heap.size 27 1 (slice A fs.length c) fs.length (fs.map zbN)/\(∀ r∈fs,zvZ w' w.heap.size r)/\Below w.heap.size w w')\/
 (¬ zj6 rs/\e=.returned (.tuple #[slice none 0 0,int i64 3])/\Below w.heap.size w w')
theorem zsJ(r:zb3):∀ u∈[zbN r],u.oneCell'=true:=by
 intro u a;have:u=zbN r:=by simpa using a
 subst this;rfl
theorem zj7(k:UInt8)(n c:Nat)(A0:Option Addr)(rs:List zb3)(hn:n=rs.length)(aa:n<=5864062014805)(w:World)(h:Row w w.heap.size A0 (rs.map zbN))(a:zdT w rs) :
 Calls Tryz.prog 182 #[int .u8 (k.toNat:Int),slice A0 n c] w (FrsP k rs w):=by
 obtain⟨i0,am,aj,ae,au⟩:=info_parts zuz;have HR:=zhd h;have HS:=zhd a;have HN:=zhd hn;have aD:=zhd aa;have ax:(n:Int)<=5864062014805:=by omega
 clear h a hn aa;go_enter Tryz.func182,Tryz.ntmps182
 go_wp2_with fail
 go_step3
 go_wp2_with fail
 go_step3
 go_wp2_with fail
 go_loopg [6,7,14] n (fun gk z e i wr=>∃ (j:Nat) (d:List zb3) (A:Option Addr) (c:Nat),j+gk=n/\i=int i64 j/\z=slice A d.length c/\e=int i64 0/\Hid (d.map (fun r=>r.2.1)=zuA k (rs.take j))/\Hid (zj6 (rs.take j))/\
  Hid (wr.ownsRow w.heap.size 27 1 (slice A d.length c) d.length (d.map zbN))/\Hid (∀ r∈d,zvZ wr w.heap.size r)/\Hid (Below w.heap.size w wr))
 case atStart=>exact⟨0,[],none,0,by omega,rfl,rfl,rfl,zhd rfl,zhd (fun r h=>by simp at h),zhd (World.ownsRow_nil _ _ _ _),zhd (fun r h=>by cases h),zhd (Below.refl _ _)⟩
 case round=>
  obtain⟨j,d,A,cA,hj,rfl,rfl,rfl,B,M,S,Y,m⟩:=hrel;by_cases aq:j<n
  ·have x:j<rs.length:=by rw [<-HN.out];exact aq
   obtain⟨b,o,rfl,an,hc⟩:=HR.out.open_ (by simp;omega);have J:w.cell? ⟨b,o+j,none⟩=some (zbN rs[j]):=(hc j (by simpa using x)).trans (congrArg some (List.getElem_map (f:=zbN) (h:=by simpa using x)));have U:wr.cell? ⟨b,o+j,none⟩=some (zbN rs[j]):=(m.out.cell (p:=⟨b,o+j,none⟩) an).trans J;have u:=(zfv HS.out m.out) rs[j] (List.getElem_mem x);have F:rs.take (j+1)=rs.take j++[rs[j]]:=List.take_succ_eq_append_getElem x;obtain⟨⟨Q,y,c1⟩,C⟩:∃ y,rs[j]=y:=⟨_,rfl⟩;have R:(Q,y,c1)∈rs:=by rw [<-C];exact List.getElem_mem x
   rw [C] at U u F;unfold zbN at U;simp only at U u;have V:d.length=j:=by have:=congrArg List.length B.out;rw [List.length_map] at this;rw [this];simp [zuA];omega
   have Z:=zhd V;have ab:=zhd F;have ao:=zhd R;have aB:(0:Int)<=(j:Int):=by omega
   have aE:(j:Int)<(n:Int):=by omega
   have s:=zpX k wr.heap.size c1 y.length Q y rfl wr u (Nat.le_refl _);by_cases hl:65536<y.length
   ·rw [show zkS (k,y)=([],3) from if_pos hl] at s;have E:=zhd s;have ak:Hid (¬ zj6 rs):=zhd fun hs=>by have:=hs _ ao.out;simp only at this;omega
    clear s hc J C u F R V hl;go_wp2_with fail
    refine E.out.mono ?_;rintro e w1 ⟨l,c2,rfl,t,q⟩;have v:=zhd (m.out.trans (q.mono m.out.size));clear t q;go_wp2
    try rw [Exit.noGoto_ret]
    go_ret2
    exact Or.inr ⟨ak.out,rfl,v.out⟩
   ·rw [show zkS (k,y)=(frB (k,y),0) from if_neg hl] at s;have E:=zhd s;have ag:=zhd hl;clear s hc J C u F R V hl;go_wp2_with fail
    refine E.out.mono ?_;rintro e w1 ⟨l,c2,rfl,t,q⟩;obtain⟨X,W⟩:∃ X,frB (k,y)=X:=⟨_,rfl⟩;have HX:=zhd W;simp only at t ⊢;rw [W] at t ⊢;have v:=zhd (m.out.trans (q.mono m.out.size));have af:=zhd (za5 S.out q);have ai:Hid (∀ r∈d++[(l,X,c2)],zvZ w1 w.heap.size r):=zhd fun r a=>by
     rcases List.mem_append.1 a with a|a
     ·exact za5 (Y.out r a) q
     ·have:r=(l,X,c2):=by simpa using a
      subst this;exact zaz t m.out.size
    clear t q W E;have I:Hid (∀ o,Below w.heap.size w (w1.alloc o)):=zhd fun o=>v.out.alloc v.out.size o;have D:Hid (∀ o,(w1.alloc o).ownsRow w.heap.size 27 1 (slice A d.length cA) d.length (d.map zbN)):=zhd fun o=>za5 af.out ((Below.refl _ _).alloc (Nat.le_refl _) o);have O:Hid (∀ o,∀ r∈d++[(l,X,c2)],zvZ (w1.alloc o) w.heap.size r):=zhd fun o r a=>za5 (ai.out r a) ((Below.refl _ _).alloc (Nat.le_refl _) o);have aG:w.heap.size<=w1.heap.size:=v.out.size;go_wp2_with (at_builtin;refine zan _ rfl _ _ 147 rfl w.heap.size 27 i0 (slice none 0 0) 24 Tryz.underlying147 am aj ae au rfl _ _ _ rfl (D.out _) (w1.heap.size+1) _ 1 1 [zbN (l,X,c2)] rfl rfl (zbs (by rfl)) (zsJ _) (by have:=Z.out;unfold maxLen;omega) (by have:=Z.out;omega) (by simp;omega) ?_)
    intro v' w2 K N _;obtain⟨A3,c3,rfl,_,_⟩:=zat K;have al:Hid (Below w.heap.size w w2):=zhd ((I.out _).grown N (I.out _).size fun g h=>((D.out (cells #[slice l X.length c2] 27)).lt g h).1);have aw:Hid (∀ r∈d++[(l,X,c2)],zvZ w2 w.heap.size r):=zhd fun r a=>(O.out (cells #[slice l X.length c2] 27) r a).kept N (by
     have h1:=O.out (cells #[slice l X.length c2] 27) r a;have h2:=D.out (cells #[slice l X.length c2] 27);rcases h1.2 with⟨L,_⟩|⟨g,cap,az,L,_,hh,_⟩
     ·rw [L];exact Or.inl rfl
     ·refine Or.inr fun e=>?_;rw [L] at e;rcases h2.2 with⟨T,_⟩|⟨g',ay,aA,T,_,G,_⟩
      ·rw [T] at e;cases e
      ·rw [T] at e;have eg:g=g':=by simpa [Value.ownBlock] using e
       subst eg;rw [hh] at G;injection G with G;injection G with _ ht;exact absurd ht (by decide))
    have ah:=zhd K;clear K N I D O S Y m;go_wp2;go_roundg (gk - 1)
    case measure=>omega
    case rel=>exact⟨j+1,d++[(l,X,c2)],A3,c3,by omega,by go_num,by rw [List.length_append];rfl,rfl,zhd (by rw [ab.out,List.map_append,B.out,<-HX.out];simp [zuA]),
     zhd (by
      rw [ab.out];intro r a;rcases List.mem_append.1 a with a|a
      ·exact M.out r a
      ·have:r=(Q,y,c1):=by simpa using a
       subst this;have:=ag.out;show y.length<=65536
       omega),zhd (by rw [List.length_append,List.map_append];exact ah.out),aw,al⟩
  ·obtain rfl:j=n:=by omega
   have ht:rs.take j=rs:=List.take_of_length_le (by rw [<-HN.out];omega);rw [ht] at B M;go_wp2
   try rw [Exit.noGoto_ret]
   go_ret2
   exact Or.inl ⟨M.out,d,A,cA,B.out,rfl,S.out,Y.out,m.out⟩
end
section
open Go.RowKit Mem Be Word Frm
variable {J : LgK}
def zfk(k:UInt8)(bs:List (List UInt8)):List Rc:=bs.map fun b=>(k,b)
def ztO(rs:List Rc)(k:UInt8)(bs:List (List UInt8)):List Rc×Int:=
 if(∀ b∈bs,b.length<=65536)/\(zac (rs++zfk k bs)).length<=4194304 then(rs++zfk k bs,0) else(rs,3)
def zaI(rs:List zb3):List (List UInt8):=rs.map fun r=>r.2.1
theorem zhW(rs:List zb3):zj6 rs↔∀ b∈zaI rs,b.length<=65536:=by
 constructor
 ·intro h b c;obtain⟨r,a,rfl⟩:=List.mem_map.1 c;exact h r a
 ·exact fun h r a=>h _ (List.mem_map.2 ⟨r,a,rfl⟩)
theorem zuB{k:UInt8}{a rs:List zb3}(h:a.map (fun r=>r.2.1)=zuA k rs):zbi a=zac (zfk k (zaI rs)):=by
 have b:zbi a=(a.map (fun r=>r.2.1)).flatten:=by unfold zbi;rw [List.flatMap_def]
 rw [b,h];unfold zuA zac zfk zaI;rw [List.flatMap_def,List.map_map,List.map_map];rfl
theorem zaF{F:Nat->Prop}{w w1:World}{A:Option Addr}{n c s:Nat}{e:TypeId}{d:List Value}(g:∀ k,F k->k<w.heap.size)(a:w1.ownsRow w.heap.size e s (slice A n c) n d):zaK F w1 A d:=by
 rcases zcz a with h|⟨b,o,rfl,j,hc⟩
 ·exact Or.inl h
 ·exact Or.inr ⟨b,o,rfl,fun i=>by have:=g b i;have l:=(zaJ a rfl).1;simp only at l;omega,j,hc⟩
section
variable {w : World} {F FD FR : Nat → Prop} {g q m : Nat} {L T : List UInt8} {vs : List za3} {R : Option Addr} {c : Nat}
theorem zhX(h:LgB J w F FD FR g L T q m vs R c){n d k:Nat}(b:(Value.slice R n d).ownBlock=some k):FR k:=by
 cases R with
 | none=>cases b
 | some a=>
  have:a.block=k:=by simpa [Value.ownBlock] using b
  subst this;exact h.inR a rfl
theorem zuC{d b:World}{k:UInt8}{i j:Option Addr}{c2 c3:Nat}{y:List UInt8}(h:LgB J w F FD FR g L T q m vs R c)(u:Below w.heap.size w d)(x:d.ownsRow w.heap.size 5 1 (slice i y.length c2) y.length (y.map zaa))(o:Obj)
 (D:b.ownsRow 0 168 2 (slice j (vs.length+1) c3) (vs.length+1) (zaw (vs++[(k,i,y,c2)]))) (C:(d.alloc o).grownBy b (Value.slice R vs.length c).ownBlock)
 (E:(Value.slice j (vs.length+1) c3).ownBlock=(Value.slice R vs.length c).ownBlock\/(Value.slice j (vs.length+1) c3).ownBlock=some (d.alloc o).heap.size) :
 LgB J (b.setCell ⟨g,3,none⟩ (slice j (vs.length+1) c3)) (fun k=>(F k\/w.heap.size<=k)/\k<b.heap.size) FD (fun k=>(FR k\/w.heap.size<=k)/\k<b.heap.size) g L T q m (vs++[(k,i,y,c2)]) j c3/\Touch F w (b.setCell ⟨g,3,none⟩ (slice j (vs.length+1) c3))/\b.cell? ⟨g,3,none⟩=some (slice R vs.length c)/\b.frozen? ⟨g,3,none⟩=false:=by
 have z:Below d.heap.size d (d.alloc o):=(Below.refl _ _).alloc (Nat.le_refl _) o;have v:Below w.heap.size w (d.alloc o):=u.trans (z.mono u.size);have ht:Touch FR w b:=(Touch.ofBelow v).grown C fun k s=>Or.inl (zhX h s);have G:zb1 (d.alloc o) 0 (vs++[(k,i,y,c2)]):=zaV (zgL (zaV h.byt u) (zfi (r:=(k,i,y,c2)) (zaz x (Nat.zero_le _)))) z;have A:=zeP G (zag h.own v) C;have hl:(vs++[(k,i,y,c2)]).length=vs.length+1:=by simp
 have:=h.setR (FR':=fun k=>(FR k\/w.heap.size<=k)/\k<b.heap.size) (vs':=vs++[(k,i,y,c2)]) (R':=j) (c':=c3) (w:=b) (h.dk.touch ht h.dis) (by rw [hl];exact D) A (fun a l=>?_) (fun r p a l=>?_) (fun k s=>s.1) (fun k s=>s.2) ht
 ·rw [hl] at this;have B:=h.dk.touch ht h.dis;exact⟨this.1,this.2,zfW B,zsE B 3⟩
 ·refine⟨?_,(zaJ D l).2.1⟩;subst l;rcases E with t|t
  ·exact Or.inl (zhX h t.symm)
  ·have e:a.block=(d.alloc o).heap.size:=by simpa [Value.ownBlock] using t
   have:=v.size;exact Or.inr (by omega)
 ·refine⟨?_,(zaJ (A r p) l).2.1⟩;rcases List.mem_append.1 p with p|p
  ·exact Or.inl (h.inB r p a l)
  ·have:r=(k,i,y,c2):=by simpa using p
   subst this;exact Or.inr (zaJ x l).1
end
theorem zp9(k:UInt8)(rs:List zb3)(j:Nat)(h:j<rs.length):zfk k (zaI (rs.take (j+1)))=zfk k (zaI (rs.take j))++[(k,rs[j].2.1)]:=by
 rw [List.take_succ_eq_append_getElem h];unfold zfk zaI;rw [List.map_append,List.map_append];rfl
theorem zd5{rs:List Rc}{M:Nat}(h:(zac rs).length<=M):rs.length*10<=M:=by have:=zd2 rs;unfold zc3 at this;omega
theorem zdN{w:World}{p:Addr}{v:Value}(o:Obj)(h:w.cell? p=some v):(w.alloc o).cell? p=some v:=(World.cell?_alloc_lt w o p (zaq h)).trans h
def zwX(J:LgK)(w0:World)(F0:Nat->Prop)(g:Nat)(L T:List UInt8)(q m:Nat)(rs:List Rc)(w:World):Prop:=
 ∃ F FD FR vs R c,vs.map za1=rs/\LgB J w F FD FR g L T q m vs R c/\(∀ k,F k->F0 k\/w0.heap.size<=k)/\Touch F0 w0 w
theorem zgQ{v:Value}{F:Nat->Prop}{g q m:Nat}{rs:List Rc}{w w1:World}(h:zcD J w F g rs m q)(a:Below w.heap.size w w1):zsF J v F g rs m q w (.returned v) w1:=
 ⟨rfl,F,fun k b=>Or.inl b,h.below a,Touch.ofBelow a⟩
theorem zuD(F:Nat->Prop)(g m q n c:Nat)(k:UInt8)(rs:List Rc)(A0:Option Addr)(a:List zb3)(hn:n=a.length)(ah:n<=5864062014805)(aW:∀ r∈a,r.2.1.length<=maxLen)(w:World)(h:zcD J w F g rs m q)
 (d:zaK F w A0 (a.map zbN)) (an:∀ r∈a,zaK F w r.1 (r.2.1.map zaa)) :
 Calls Tryz.prog 168 #[pointer (some ⟨g,0,none⟩),int .u8 (k.toNat:Int),slice A0 n c] w (zsF J (int i64 (ztO rs k (zaI a)).2) F g (ztO rs k (zaI a)).1 m q w):=by
 have aA:=zhd (zj7 k n c A0 a hn ah w d.row (fun r d=>(an r d).row));have X:=zhd h;have HR:=zhd d;have aY:=zhd an;have HN:=zhd hn;have bh:=zhd ah;have bo:(n:Int)<=5864062014805:=by omega
 obtain⟨S,hS⟩:∃ S,ztO rs k (zaI a)=S:=⟨_,rfl⟩;have C:=zhd hS;rw [hS];clear h d an hn ah hS aW;go_enter Tryz.func168,Tryz.ntmps168
 go_wp2_with fail
 refine aA.out.mono ?_;clear aA;rintro e w1 (⟨x,l,A1,c1,U,rfl,aj,au,z⟩|⟨x,rfl,z⟩)
 ·have D:=zhd z;have bl:=zhd (X.out.below z);obtain⟨FD,FR,vs,R,cR,t,L,B,G⟩:=bl.out;have ab:∀ k,FD k->k<w.heap.size:=fun j hj=>X.out.lt j (G.sub j (Or.inl hj));have O:=zuB U;have aB:l.length=n:=by have:=congrArg List.length U;rw [List.length_map] at this;rw [this,HN.out];simp [zuA]
  have ag:l.length<=maxLen:=by have:=bh.out;unfold maxLen;omega
  have s:=zaF ab aj;have ak:∀ r∈l,zaK FD w1 r.1 (r.2.1.map zaa):=fun r d=>zaF ab (au r d);by_cases u:(zac (rs++zfk k (zaI a))).length<=4194304
  ·have V:S=(rs++zfk k (zaI a),0):=by rw [<-C.out];exact if_pos ⟨(zhW a).1 x,u⟩
   have aJ:(zac (rs.take m)).length+(zac (rs.drop m)).length+(zbi l).length<=4194304:=by
    rw [O];rw [zdh,List.length_append,zbp rs m,List.length_append] at u;exact u
   have T:=zhd (znN FD g q l.length c1 _ _ A1 l rfl ag w1 G.dk s ak aJ);have M:=zhd G;have HV:=zhd t;have bg:=zhd L;have HM:=zhd B;have ax:=zhd O;have bn:=zhd x;have aU:Hid ((rs++zfk k (zaI a)).length<=2000000):=zhd (by have:=zd5 u;omega);subst V;simp only;clear z G t L B ab U aB ag s ak u aJ aj au x O C;go_wp2_with fail
   refine T.out.mono ?_;rintro e w2 ⟨rfl,F2,aO,aK,aN⟩;have aq:=M.out.disk aO aK aN;have aE:(zfk k (zaI a)).length=n:=by rw [HN.out];simp [zfk,zaI]
   have ai:=aU.out;rw [List.length_append,aE] at ai;have bi:=zhd ai;have aS:Hid (zwX J w F g (zac (rs.take m)) (zac (rs.drop m)++zbi l) q m rs w2):=zhd ⟨_,F2,FR,vs,R,cR,HV.out,aq.1,fun j hj=>by
    rcases hj.1 with h|h
    ·exact Or.inl h
    ·exact Or.inr (Nat.le_trans D.out.size h),(Touch.ofBelow D.out).trans aq.2 (fun k hk=>Or.inl hk)⟩
   clear aO aK aN aq M T ai aE HV;go_wp2_with fail
   go_loopw [30] (fun i wr=>∃ j:Nat,j<=n/\i=int i64 j/\Hid (zwX J w F g (zac (rs.take m)) (zac (rs.drop m)++zbi l) q m (rs++zfk k (zaI (a.take j))) wr)) (fun i _=>n - (intOf i).toNat)
   case atStart=>exact⟨0,by omega,rfl,zhd (by simpa [zfk,zaI] using aS.out)⟩
   case round=>
    obtain⟨j,hj,rfl,Z⟩:=hrel;by_cases bk:j<n
    ·have N:j<a.length:=by rw [<-HN.out];exact bk
     obtain⟨Fx,aP,FR',vs',R',c',Q,E,af,I⟩:=Z.out;obtain⟨b,o,rfl,_,hc⟩:=(HR.out.touch I).row.open_ (by simp;omega);have aw:wr.cell? ⟨b,o+j,none⟩=some (zbN a[j]):=(hc j (by simpa using N)).trans (congrArg some (List.getElem_map (f:=zbN) (h:=by simpa using N)));have s:=((aY.out a[j] (List.getElem_mem N)).touch I).row;have aa:=zp9 k a j N;obtain⟨⟨A4,y,c4⟩,al⟩:∃ y,a[j]=y:=⟨_,rfl⟩;rw [al] at aw s aa;unfold zbN at aw;simp only at aw s aa;have ay:vs'.length<=1000000000:=by
      have t:=congrArg List.length Q;have L:=bi.out;rw [List.length_map,List.length_append] at t;have B:(zfk k (zaI (a.take j))).length<=n:=by simp [zfk,zaI];omega
      omega
     have aM:y.length<=140737488355328:=by
      have t:=s;have L:y.length<=(zbi l).length:=by
       rw [ax.out];have hm:(k,y)∈zfk k (zaI a):=by
        refine List.mem_map.2 ⟨y,?_,rfl⟩;exact List.mem_map.2 ⟨a[j],List.getElem_mem N,by rw [al]⟩
       have:=zjU hm;unfold zc3 at this;simp only at this;omega
      have B:=E.dk.mx;rw [List.length_append] at B;omega
     have aV:Hid (∀ W,Below wr.heap.size wr W->Calls Tryz.prog 71 #[slice A4 y.length c4] W (zex W.heap.size y W)):=zhd fun W A=>
      za4 wr.heap.size c4 A4 y y.length rfl W (s.below A) A.size aM
     have Y:Hid (Below wr.heap.size wr wr.drew):=zhd (Below.refl _ _).drew;have M:=zhd E;have aR:=zhd Q;have aD:=zhd af;have az:=zhd I;have aX:=zhd aa;have bf:=zhd ay;have d3:wr.cell? ⟨g,3,none⟩=some (slice R' vs'.length c'):=zfW E.dk;have bm:g<wr.heap.size:=zaq d3;have bp:(0:Int)<=(j:Int):=by omega
     have bq:(j:Int)<(n:Int):=by omega
     clear hc al s I E Q af aa Z ay aM;go_wp2_with fail
     go_region_law (first
      | (go_simp;go_at_call 71;refine(aV.out _ Y.out).mono ?_;rintro e w4 ⟨v,c5,rfl,ho,A⟩;have ae:=zhd (Y.out.trans (A.mono Y.out.size));have aT:=zhd (zaz ho Y.out.size);(have d4:w4.cell? ⟨g,3,none⟩=some (slice R' vs'.length c'):=(ae.out.cell (p:=⟨g,3,none⟩) bm).trans d3);(have d5:(w4.alloc (cells #[int .u8 (k.toNat:Int),slice v y.length c5] 168)).cell? ⟨g,3,none⟩=some (slice R' vs'.length c'):=zdN _ d4);(have bd:Hid ((w4.alloc (cells #[int .u8 (k.toNat:Int),slice v y.length c5] 168)).ownsRow 0 168 2 (slice R' vs'.length c') vs'.length (zaw vs')):=zhd (zag M.out.own (ae.out.alloc ae.out.size _)));(have aZ:Hid (Row (w4.alloc (cells #[int .u8 (k.toNat:Int),slice v y.length c5] 168)) (w4.heap.size+1) (some ⟨w4.heap.size,0,none⟩) (zaw [(k,v,y,c5)])):=zhd (zly (r:=(k,v,y,c5)) rfl rfl rfl));clear ho A)
      | (refine zp5 (by rfl) _ _ (by rfl) 0 (slice R' vs'.length c') vs'.length vs' (by rfl) (show World.ownsRow _ _ _ _ _ _ _ from bd.out) (w4.heap.size+1) (some ⟨w4.heap.size,0,none⟩) 1 1 [(k,v,y,c5)] (by rfl) rfl (show Row _ _ _ _ from aZ.out) (by have:=bf.out;omega) (Nat.zero_le _) ?_;intro v' w5 ao aG aI;obtain⟨A6,c6,rfl,_,_⟩:=zat ao;have K:=zhd (zuC M.out ae.out aT.out (cells #[int .u8 (k.toNat:Int),slice v y.length c5] 168) ao aG aI);have e3:=K.out.2.2.1;have z3:=K.out.2.2.2;clear ao aG aI))
     all_goals
      have bj:Hid (zwX J w F g (zac (rs.take m)) (zac (rs.drop m)++zbi l) q m (rs++zfk k (zaI (a.take (j+1)))) (w5.setCell ⟨g,3,none⟩ (slice A6 (vs'.length+1) c6))):=zhd (by
       refine⟨_,_,_,vs'++[(k,v,y,c5)],A6,c6,?_,K.out.1,fun i hi=>?_,az.out.trans K.out.2.1 (fun i hi=>aD.out i hi)⟩
       ·rw [List.map_append,aR.out,aX.out,List.append_assoc];rfl
       ·rcases hi.1 with h|h
        ·exact aD.out i h
        ·exact Or.inr (Nat.le_trans az.out.size h))
      clear K;go_wp2;go_roundw
      case rel=>exact⟨j+1,by omega,by go_num,bj⟩
      case measure=>simp [intOf];omega
    ·obtain rfl:j=n:=by omega
     have ht:a.take j=a:=List.take_of_length_le (by rw [<-HN.out];omega);rw [ht] at Z;go_wp2;go_ret;obtain⟨Fx,aP,FR',vs',R',c',Q,E,af,I⟩:=Z.out;refine⟨rfl,Fx,af,⟨aP,FR',vs',R',c',Q,?_,?_,?_⟩,I⟩
     ·intro r d;rcases List.mem_append.1 d with d|d
      ·exact bg.out r d
      ·obtain⟨b,A,rfl⟩:=List.mem_map.1 d;obtain⟨r0,am,rfl⟩:=List.mem_map.1 A;exact bn.out r0 am
     ·rw [List.length_append];have:=HM.out;omega
     ·rw [List.take_append_of_le_length HM.out,List.drop_append_of_le_length HM.out,zdh,<-ax.out];exact E
  ·have V:S=(rs,3):=by rw [<-C.out];exact if_neg fun hx=>u hx.2
   have aL:4194304<(zac (rs.take m)).length+(zac (rs.drop m)).length+(zbi l).length:=by
    rw [O];rw [zdh,List.length_append,zbp rs m,List.length_append] at u;omega
   have T:=zhd (zlo FD g q l.length c1 _ _ A1 l rfl ag (fun r d=>by
    have t:=List.mem_map_of_mem (f:=fun r:zb3=>r.2.1) d;rw [U] at t;obtain⟨r0,am,h4⟩:=List.mem_map.1 t;have h5:=x r0 am;have h6:=congrArg List.length h4;rw [zcJ] at h6;simp only at h6;unfold maxLen;omega) w1 G.dk s.row aL)
   subst V;simp only;clear z G t L B ab U aB ag s ak u aL aj au x O C;go_wp2_with fail
   refine T.out.mono ?_;rintro e w2 ⟨rfl,aH⟩;have aQ:=zhd (D.out.trans (aH.mono D.out.size));clear aH T;go_wp2;go_ret;exact zgQ X.out aQ.out
 ·have V:S=(rs,3):=by rw [<-C.out];exact if_neg fun hx=>x ((zhW a).2 hx.1)
  have D:=zhd z;subst V;simp only;clear z x C;go_wp2;go_ret;exact zgQ X.out D.out
end
section
open Go.RowKit Mem Be Word Frm
variable {J : LgK}
theorem zgR{k:UInt8}(h:k≠0):(k.toNat:Int)≠0:=fun e=>h (by
 have:k.toNat=0:=by omega
 exact UInt8.toNat_inj.1 this)
theorem zgS(F:Nat->Prop)(g m q n c:Nat)(k:UInt8)(p:k≠0)(rs:List Rc)(b:Option Addr)(a:List zb3)(t:n=a.length)(l:n<=5864062014805)(i:∀ r∈a,r.2.1.length<=maxLen)(w:World)(h:zcD J w F g rs m q)
 (u:zaK F w b (a.map zbN)) (d:∀ r∈a,zaK F w r.1 (r.2.1.map zaa)) :
 Calls Tryz.prog 144 #[pointer (some ⟨g,0,none⟩),int .u8 (k.toNat:Int),slice b n c] w (zsF J (int i64 (ztO rs k (zaI a)).2) F g (ztO rs k (zaI a)).1 m q w):=by
 have v:=zhd (zuD F g m q n c k rs b a t l i w h u d);have j:=zgR p;have y:((k.toNat:Int)==0)=false:=by simpa using j
 obtain⟨S,s⟩:∃ S,ztO rs k (zaI a)=S:=⟨_,rfl⟩;rw [s] at v ⊢;clear h u d t l i s p j;go_enter Tryz.func144,Tryz.ntmps144
 go_wp2_with fail
 refine v.out.mono ?_;intro e w1 o;have x:=zhd o;obtain⟨rfl,_⟩:=o;go_wp2;go_ret;exact x.out
theorem zqa(F:Nat->Prop)(g m q:Nat)(rs:List Rc)(hq:q<=4611686018427387904)(w:World)(h:zcD J w F g rs m q) :
 Calls Tryz.prog 120 #[pointer (some ⟨g,0,none⟩)] w (zsF J (int i64 0) F g rs rs.length (upN (zac (rs.drop m)) q) w):=by
 have t:Calls Tryz.prog 148 #[pointer (some ⟨g,0,none⟩)] w (zsF J (int i64 0) F g rs rs.length (upN (zac (rs.drop m)) q) w):=by
  obtain⟨E,A,l,R,c,u,s,C,o⟩:=h;have a:=zhd (zse E g q _ _ hq w o.dk);have j:=zhd o;have p:=zhd u;have y:=zhd s;rw [<-zbp] at a;obtain⟨b,i⟩:∃ b,upN (zac (rs.drop m)) q=b:=⟨_,rfl⟩;rw [i] at a ⊢;clear o u s C hq i;go_enter Tryz.func148,Tryz.ntmps148
  go_wp2_with fail
  refine a.out.mono ?_;rintro e w1 ⟨rfl,F1,v,d,ht⟩;have hl:=j.out.disk v d ht;have I:=zfW d;have G:=zm1 d;have z4:=zsE d 4;have r:Hid (zsF J (int i64 0) F g rs rs.length b w (.returned (int i64 0)) (w1.setCell ⟨g,4,none⟩ (int i64 (l.length:Int)))):=zhd (by
   have x:=hl.1.setM l.length;have B:l.length=rs.length:=by rw [<-p.out,List.length_map]
   refine⟨rfl,(fun k=>(F k\/w.heap.size<=k)/\k<w1.heap.size),fun k D=>D.1,⟨F1,A,l,R,c,p.out,y.out,Nat.le_refl _,?_⟩,hl.2.set_ (Or.inl (j.out.sub g (Or.inl (zhV j.out.dk)))) _⟩;rw [B] at x ⊢;rw [List.take_of_length_le (Nat.le_refl _),List.drop_eq_nil_of_le (Nat.le_refl _)];exact x)
  clear hl v d ht j p y a;go_wp2;go_ret;exact r.out
 have a:=zhd t;obtain⟨b,i⟩:∃ b,upN (zac (rs.drop m)) q=b:=⟨_,rfl⟩;rw [i] at a ⊢;clear t h hq i;go_enter Tryz.func120,Tryz.ntmps120
 go_wp2_with fail
 refine a.out.mono ?_;intro e w1 z;have r:=zhd z;obtain⟨rfl,_⟩:=z;go_wp2;go_ret;exact r.out
def zgT(rs:List Rc)(m:Nat)(b:List UInt8):List Rc×Nat×Int:=if 65536<b.length then(rs,m,3) else([(0,b)],1,0)
theorem zlB(r:Rc):zac [r]=frB r:=by rw [zdK];simp [zac]
theorem zqb(F:Nat->Prop)(g m q n c:Nat)(rs:List Rc)(B:Option Addr)(b:List UInt8)(V:n=b.length)(w:World)(h:zcD J w F g rs m q)(l:zaK F w B (b.map zaa)) :
 Calls Tryz.prog 90 #[pointer (some ⟨g,0,none⟩),slice B n c] w (zsF J (int i64 (zgT rs m b).2.2) F g (zgT rs m b).1 (zgT rs m b).2.1 q w):=by
 have ab:Calls Tryz.prog 123 #[pointer (some ⟨g,0,none⟩),slice B n c] w (zsF J (int i64 (zgT rs m b).2.2) F g (zgT rs m b).1 (zgT rs m b).2.1 q w):=by
  subst V;have A:=zpX 0 w.heap.size c b.length B b rfl w l.row (Nat.le_refl _);have Q:=zhd h;have HR:=zhd l;by_cases hl:65536<b.length
  ·rw [show zgT rs m b=(rs,m,3) from if_pos hl];rw [show zkS (0,b)=([],3) from if_pos hl] at A;have x:=zhd A;simp only;clear h l A hl;go_enter Tryz.func123,Tryz.ntmps123
   go_wp2_with fail
   refine x.out.mono ?_;rintro e w1 ⟨Y,c1,rfl,t,j⟩;have D:=zhd j;clear t j x;go_wp2;go_ret;exact zgQ Q.out D.out
  ·rw [show zgT rs m b=([(0,b)],1,0) from if_neg hl];rw [show zkS (0,b)=(frB (0,b),0) from if_neg hl] at A;have x:=zhd A;have HL:=zhd hl;obtain⟨X,I⟩:∃ X,frB (0,b)=X:=⟨_,rfl⟩;have aj:X.length<=65546:=by rw [<-I,zcJ];show b.length+10<=_;omega
   rw [I] at x;have O:=zhd I;simp only at x ⊢;have ai:(b.length:Int)<=65536:=by omega
   clear h l A hl I;go_enter Tryz.func123,Tryz.ntmps123
   go_wp2_with fail
   refine x.out.mono ?_;rintro e w1 ⟨Y,c1,rfl,t,j⟩;simp only at t ⊢;obtain⟨FD,FR,vs,R,cR,h1,h2,h3,M⟩:=Q.out.below j;have aa:=zhd M;have D:=zhd j;have W:=zhd (zgE FD g q X.length w1.heap.size c1 _ _ X Y rfl (by omega) w1 M.dk (Row.of_own t) (Nat.le_refl _));clear t j h1 h2 h3 M x;go_wp2_with fail
   refine W.out.mono ?_;rintro e u ⟨rfl,F2,hf,K,ht⟩;have L:=aa.out.disk hf K ht;have s:=zhd L.1;have E:Hid (Touch F w u):=zhd ((Touch.ofBelow D.out).trans L.2 (fun k o=>Or.inl o));have C:Hid (∀ k,(F k\/w1.heap.size<=k)/\k<u.heap.size->F k\/w.heap.size<=k):=zhd fun k o=>by
    rcases o.1 with h|h
    ·exact Or.inl h
    ·exact Or.inr (Nat.le_trans D.out.size h)
   have ag:=zhd (za4 u.heap.size c B b b.length rfl u (HR.out.touch E.out).row (Nat.le_refl _) (by omega));have d3:=zfW K;clear hf K ht L W aa;go_wp2_with fail
   refine ag.out.mono ?_;rintro e d ⟨i,c3,rfl,t,j⟩;have N:Below d.heap.size d (d.alloc (cells #[int .u8 0,slice i b.length c3] 168)):=zbl;have v:Below u.heap.size u (d.alloc (cells #[int .u8 0,slice i b.length c3] 168)):=j.trans (N.mono j.size);have U:(d.alloc (cells #[int .u8 0,slice i b.length c3] 168)).ownsRow d.heap.size 168 2 (slice (some ⟨d.heap.size,0,none⟩) 1 1) 1 (zaw [((0,i,b,c3):za3)]):=zm0 d (0,i,b,c3) b.length rfl;have G:zb1 (d.alloc (cells #[int .u8 0,slice i b.length c3] 168)) u.heap.size [((0,i,b,c3):za3)]:=zfi (r:=(0,i,b,c3)) (zag t N);have z:=s.out.setR (FR':=fun k=>u.heap.size<=k/\k<(d.alloc (cells #[int .u8 0,slice i b.length c3] 168)).heap.size) (vs':=[((0,i,b,c3):za3)]) (R':=some ⟨d.heap.size,0,none⟩) (c':=1) (w:=d.alloc (cells #[int .u8 0,slice i b.length c3] 168))
    (s.out.dk.below v) (zaz U (Nat.zero_le _)) (zfJ G (Nat.zero_le _)) (fun a y=>by injection y with y;subst y;exact⟨j.size,by simp⟩)
    (fun r l a y=>⟨(zaJ (G r l) y).1,(zaJ (G r l) y).2.1⟩) (fun k o=>Or.inr o.1) (fun k o=>o.2) (Touch.ofBelow v)
   have T:=z.1.setM 1;have e3:=zfW (s.out.dk.below v);have z3:=zsE (s.out.dk.below v) 3;have e4:=zm1 (s.out.dk.below v);have z4:=zsE (s.out.dk.below v) 4;have ah:Hid (zsF J (int i64 0) F g [(0,b)] 1 q w (.returned (int i64 0)) (((d.alloc (cells #[int .u8 0,slice i b.length c3] 168)).setCell ⟨g,3,none⟩ (slice (some ⟨d.heap.size,0,none⟩) 1 1)).setCell ⟨g,4,none⟩ (int i64 1))):=zhd (by
    have af:=s.out.sub g (Or.inl (zhV s.out.dk));have ae:=T;rw [show X=zac (([(0,b)]:List Rc).take 1) by rw [<-O.out];exact(zlB _).symm] at ae;refine⟨rfl,_,fun k o=>?_,⟨_,_,[((0,i,b,c3):za3)],some ⟨d.heap.size,0,none⟩,1,rfl,?_,by simp,ae⟩,(E.out.trans z.2 C.out).set_ (p:=⟨g,4,none⟩) (C.out g af) _⟩
    ·rcases o.1 with h|h
     ·exact C.out k h
     ·exact Or.inr (Nat.le_trans E.out.size h)
    ·intro r l;have:r=(0,b):=by simpa using l
     subst this;have:=HL.out;show b.length<=65536
     omega)
   clear t j N v U G z T s E C d3;go_wp2;go_ret;exact ah.out
 have HS:=zhd ab;obtain⟨S,z⟩:∃ S,zgT rs m b=S:=⟨_,rfl⟩;rw [z] at HS ⊢;clear ab h l z V;go_enter Tryz.func90,Tryz.ntmps90
 go_wp2_with fail
 refine HS.out.mono ?_;intro e w1 Z;have O:=zhd Z;obtain⟨rfl,_⟩:=Z;go_wp2;go_ret;exact O.out
end
section
open Go.RowKit Mem Be Word Frm
variable {J : LgK}
theorem zn2(w:World):(w.alloc (cells #[] 168)).ownsRow w.heap.size 168 2 (slice (some ⟨w.heap.size,0,none⟩) 0 0) 0 (zaw []):=
 ⟨rfl,Or.inr ⟨w.heap.size,0,#[],rfl,Nat.le_refl _,heap_alloc_new w _,Nat.le_refl _,by unfold maxLen;omega,rfl,rfl⟩⟩
theorem zm2(A:Option Addr)(n c:Nat)(W:World):(binOp .eql 30 (slice A n c) (slice none 0 0)).run Tryz.prog W=.ok (.bool A.isNone) W:=
 Lib.run_eql_slice_nil W 30 168 A n c 0 0 Tryz.underlying30
def zv0(vs:List za3)(w:World)(e:Ending)(w':World):Prop:=
 ∃ A c,e=.returned (slice A vs.length c)/\w'.ownsRow w.heap.size 168 2 (slice A vs.length c) vs.length (zaw vs)/\Below w.heap.size w w'
theorem zn3(n c:Nat)(A:Option Addr)(d:List za3)(s:n=d.length)(w:World)(h:Row w w.heap.size A (zaw d))(hl:n<=1000000000) :
 Calls Tryz.prog 198 #[slice A n c] w (zv0 d w):=by
 subst s;rcases A with _|a
 ·have t:d=[]:=by
   rcases h with h|⟨b,o,e,_⟩
   ·have:=congrArg List.length h;rw [za0] at this;exact List.eq_nil_of_length_eq_zero (by simp at this;omega)
   ·cases e
  subst t;clear h hl;have q:=zm2 none 0 c;go_enter Tryz.func198,Tryz.ntmps198
  go_wp2;go_ret;exact⟨none,0,rfl,World.ownsRow_nil _ _ _ _,Below.refl _ _⟩
 ·have l:=zhd (h.alloc (Nat.le_refl _) (cells #[] 168));have p:=zhd (zn2 w);clear h;have q:=zm2 (some a) d.length c;go_enter Tryz.func198,Tryz.ntmps198
  go_wp2_with (at_builtin;refine zct rfl _ _ rfl w.heap.size _ 0 [] rfl p.out w.heap.size _ d.length c d rfl rfl l.out (by omega) (by simp) ?_)
  intro k c' w1 j i;have m:Hid (Below w.heap.size w w1):=zhd ((zbl).grown i (by simp) (fun g i=>by simp [Value.ownBlock] at i;omega));have r:=zhd j;clear j i;go_wp2;go_ret;refine⟨k,c',by simp,?_,m.out⟩;exact r.out
def zv1(rs:List Rc)(w:World)(e:Ending)(w':World):Prop:=
 ∃ (us:List za3) (A:Option Addr) (c:Nat),us.map za1=rs/\e=.returned (slice A us.length c)/\w'.ownsRow w.heap.size 168 2 (slice A us.length c) us.length (zaw us)/\zb1 w' w.heap.size us/\Below w.heap.size w w'
theorem zqc(ns tl:List za3)(k:UInt8)(A a:Option Addr)(y:List UInt8)(c c2:Nat) :
 (zaw (ns++(k,A,y,c) :: tl)).set (ns.length*2+1) (slice a y.length c2)=zaw (ns++(k,a,y,c2) :: tl):=by
 rw [zcC,zcC,List.set_append_right _ _ (by rw [za0];omega),za0];rw [show ns.length*2+1 - ns.length*2=1 by omega];rfl
theorem zhY(n c:Nat)(A:Option Addr)(d:List za3)(O:n=d.length)(w:World)(h:Row w w.heap.size A (zaw d))(o:zjX w d)(hl:n<=1000000000)(g:∀ r∈d,r.2.2.1.length<=140737488355328) :
 Calls Tryz.prog 178 #[slice A n c] w (zv1 (d.map za1) w):=by
 have ae:=zhd (zn3 n c A d O w h hl);have an:=zhd o;have ak:=zhd g;have G:=zhd O;have ay:(n:Int)<=1000000000:=by omega
 clear h o g O hl;go_enter Tryz.func178,Tryz.ntmps178
 go_wp2_with fail
 refine ae.out.mono ?_;rintro e w1 ⟨S,c1,rfl,x,g⟩;have HO:=zhd x;have HB:=zhd g;rw [<-G.out] at HO ⊢;clear x g ae;go_wp2_with fail
 go_loopw [10] (fun i wr=>∃ (j:Nat) (ns:List za3),j<=n/\i=int i64 j/\ns.length=j/\Hid (ns.map za1=(d.take j).map za1)/\Hid (wr.ownsRow w.heap.size 168 2 (slice S n c1) n (zaw (ns++d.drop j)))/\Hid (zb1 wr w.heap.size ns)/\Hid (Below w.heap.size w wr)) (fun i _=>n - (intOf i).toNat)
 case atStart=>exact⟨0,[],by omega,rfl,rfl,zhd rfl,HO,zhd (zd4 _ _),HB⟩
 case round=>
  obtain⟨j,ns,hj,rfl,v,Q,D,M,s⟩:=hrel;by_cases au:j<n
  ·have J:j<d.length:=by rw [<-G.out];exact au
   have N:d.drop j=d[j] :: d.drop (j+1):=List.drop_eq_getElem_cons J;have U:(d.take (j+1)).map za1=(d.take j).map za1++[za1 d[j]]:=by rw [List.take_succ_eq_append_getElem J,List.map_append];rfl
   have E:=an.out d[j] (List.getElem_mem J);have I:=ak.out d[j] (List.getElem_mem J);obtain⟨⟨k,q,y,c2⟩,hy⟩:∃ y,d[j]=y:=⟨_,rfl⟩;rw [hy] at N U E I;simp only at E I;have how:=D.out;rw [N] at how;obtain⟨b,rfl⟩:∃ b,S=some ⟨b,0,none⟩:=by
    rcases how.2 with⟨_,aG⟩|⟨b,cap,ai,V,_⟩
    ·omega
    ·injection V with V;exact⟨b,V⟩
   have aw:(zaw (ns++(k,q,y,c2) :: d.drop (j+1))).length=n*2:=how.1;have X:∀ i,i<2->wr.cell? ⟨b,j*2+i,none⟩=(zrH (k,q,y,c2))[i]?:=fun i hi=>by
    rw [how.cellAt (j*2+i) (by omega),zcC,List.getElem?_append_right (by rw [za0];omega),za0,v,show j*2+i - j*2=i by omega];show(zrH (k,q,y,c2)++zaw (d.drop (j+1)))[i]?=_
    rw [List.getElem?_append_left (by show i<2;exact hi)]
   have Z:wr.cell? ⟨b,j*2,none⟩=some (int .u8 (k.toNat:Int)):=X 0 (by omega);have f1:wr.cell? ⟨b,j*2+1,none⟩=some (slice q y.length c2):=X 1 (by omega);have ax:w.heap.size<=b:=(zaJ how rfl).1;have al:b<wr.heap.size:=zaq Z;have ab:Hid (∀ W,Below w.heap.size w W->Calls Tryz.prog 71 #[slice q y.length c2] W (zex W.heap.size y W)):=zhd fun W g=>
    za4 w.heap.size c2 q y y.length rfl W (E.below g) g.size I
   have ag:Below wr.heap.size wr (wr.alloc (cells #[int .u8 (k.toNat:Int),slice q y.length c2] 168)):=zbl;have C:=zhd ag;have aa:=zhd how;have am:=zhd U;have aD:(0:Int)<=(j:Int):=by omega
   have aE:(j:Int)<(n:Int):=by omega
   clear N U E I hy how aw X ag D;go_wp2_with fail
   refine(ab.out _ (s.out.trans (C.out.mono s.out.size))).mono ?_;rintro e u ⟨m,c3,rfl,x,g⟩;have B:Below wr.heap.size wr u:=C.out.trans (g.mono C.out.size);have L:=zag aa.out B;have t:=(L.stored (j*2+1) (slice m y.length c3)).1;rw [<-v,zqc,v] at t;have aA:=L.frozenAt (j*2+1);have g1:u.cell? ⟨b,j*2+1,none⟩=some (slice q y.length c2):=(B.cell (p:=⟨b,j*2+1,none⟩) al).trans f1;have hne:∀ a,m=some a->a.block≠b:=fun a z=>by
    have F:=(zaJ x z).1;simp at F;omega
   have R:∀ k,k≠b->(u.setCell ⟨b,j*2+1,none⟩ (slice m y.length c3)).heap[k]?=u.heap[k]?:=fun k hk=>Below.heap_setCell u ⟨b,j*2+1,none⟩ _ k hk;have aj:Hid (zb1 (u.setCell ⟨b,j*2+1,none⟩ (slice m y.length c3)) w.heap.size (ns++[(k,m,y,c3)])):=zhd fun r o=>by
    rcases List.mem_append.1 o with o|o
    ·have F:=zag (M.out r o) B;refine zaj F fun a z=>R _ fun e=>?_;obtain⟨_,_,ai,K⟩:=zaJ F z;rcases L.2 with⟨l,_⟩|⟨g',az,aB,l,_,aq,_⟩
     ·cases l
     ·injection l with l;injection l with l;injection l with l;rw [e,l,aq] at K;injection K with K;injection K with _ ht;exact absurd ht (by decide)
    ·have:r=(k,m,y,c3):=by simpa using o
     subst this;exact zaj (zaz x (Nat.le_trans s.out.size C.out.size)) fun a z=>R _ (hne a z)
   have ah:Hid (Below w.heap.size w (u.setCell ⟨b,j*2+1,none⟩ (slice m y.length c3))):=zhd ((s.out.trans (B.mono s.out.size)).setCell (p:=⟨b,j*2+1,none⟩) ax _);have Y:=zhd t;clear x g B L t hne R Z f1 aa C ab s M;go_wp2;go_roundw
   case rel=>exact⟨j+1,ns++[(k,m,y,c3)],by omega,by go_num,by simp [v],zhd (by rw [List.map_append,Q.out,am.out];rfl),zhd (by rw [List.append_assoc];exact Y.out),aj,ah⟩
   case measure=>simp [intOf];omega
  ·obtain rfl:j=n:=by omega
   have ht:d.take j=d:=List.take_of_length_le (by rw [<-G.out];omega);have af:d.drop j=[]:=List.drop_eq_nil_of_le (by rw [<-G.out];omega);have t:=D.out;rw [af,List.append_nil] at t;have T:=Q.out;rw [ht] at T;have ao:=zhd T;have Y:=zhd t;clear ht af t T Q D;go_wp2;go_ret;exact⟨ns,S,c1,ao.out,by rw [v];rfl,by rw [v];exact Y.out,M.out,s.out⟩
end
end Go.Proofs.YtahnjkkgojfdmaaGreatDoor
