import Derived.Test.YtahnjkkgojfdmaaGreatDoorCore
import Derived.Deep.RegionLaw
import Derived.Deep.RegionWith
import Derived.Deep.LoopGhost
import Derived.Lib.AppendZerosOnto
set_option maxRecDepth 10000
set_option maxHeartbeats 2000000
set_option linter.unusedVariables false
namespace Go.Proofs.YtahnjkkgojfdmaaGreatDoor
open Go.IntKind(i64)
open Go.Value(int slice pointer)
section
open Go.RowKit Mem
structure Touch (F:Nat->Prop) (w w':World):Prop where
 os:w'.os=w.os
 tape:w'.tape=w.tape
 output:w'.output=w.output
 size:w.heap.size<=w'.heap.size
 block:∀ k,k<w.heap.size->¬ F k->w'.heap[k]?=w.heap[k]?
namespace Touch
variable {F G : Nat → Prop} {w w1 w2 : World} {B : Nat}
theorem refl(F:Nat->Prop)(w:World):Touch F w w:=⟨rfl,rfl,rfl,Nat.le_refl _,fun _ _ _=>rfl⟩
theorem trans(h:Touch F w w1)(a:Touch G w1 w2)(i:∀ k,G k->F k\/w.heap.size<=k):Touch F w w2:=
 ⟨a.os.trans h.os,a.tape.trans h.tape,a.output.trans h.output,Nat.le_trans h.size a.size,fun k b d=>
  (a.block k (Nat.lt_of_lt_of_le b h.size) (fun g=>by rcases i k g with c|c;exact d c;omega)).trans (h.block k b d)⟩
theorem mono(h:Touch F w w1)(c:∀ k,F k->G k):Touch G w w1:=⟨h.os,h.tape,h.output,h.size,fun k b d=>h.block k b (fun a=>d (c k a))⟩
theorem ofBelow(h:Below w.heap.size w w1):Touch F w w1:=⟨h.os,h.tape,h.output,h.size,fun k a _=>h.block k a⟩
theorem below(h:Touch F w w1)(c:B<=w.heap.size)(b:∀ k,F k->B<=k):Below B w w1:=⟨h.os,h.tape,h.output,h.size,fun k d=>h.block k (by omega) (fun a=>by have:=b k a;omega)⟩
theorem thenBelow(h:Touch F w w1)(a:Below w1.heap.size w1 w2):Touch F w w2:=h.trans (G:=F) (ofBelow a) (fun k b=>Or.inl b)
theorem set_(h:Touch F w w1){p:Addr}(b:F p.block\/w.heap.size<=p.block)(u:Value):Touch F w (w1.setCell p u):=by
 refine h.trans (G:=fun k=>k=p.block) ⟨rfl,rfl,rfl,?_,fun k _ a=>Below.heap_setCell w1 p u k a⟩ (fun k a=>by subst a;exact b);exact((Below.refl 0 w1).setCell (Nat.zero_le _) u).size
theorem alloc(h:Touch F w w1)(o:Obj):Touch F w (w1.alloc o):=h.thenBelow (zbl)
theorem grown(h:Touch F w w1){row:Option Nat}(a:w1.grownBy w2 row)(d:∀ k,row=some k->F k\/w.heap.size<=k):Touch F w w2:=
 h.trans (G:=fun k=>row=some k) ⟨a.os,a.tape,a.output,a.size,fun k b c=>a.block k b (fun e=>c e.symm)⟩ d
end Touch
def InF(F:Nat->Prop)(A:Option Addr):Prop:=∀ a,A=some a->F a.block
def znJ(A A':Option Addr):Prop:=∀ a a',A=some a->A'=some a'->a.block≠a'.block
theorem zcL(F:Nat->Prop):InF F none:=fun a h=>by cases h
theorem zfE(A:Option Addr):znJ A none:=fun a b _ h=>by cases h
theorem zaj{w w':World}{B s n m c:Nat}{e:TypeId}{A:Option Addr}{i:List Value}(h:w.ownsRow B e s (slice A m c) n i)(o:∀ a,A=some a->w'.heap[a.block]?=w.heap[a.block]?):w'.ownsRow B e s (slice A m c) n i:=by
 obtain⟨j,d⟩:=h;refine⟨j,?_⟩;rcases d with d|⟨g,cap,p,b,k,l,r⟩
 ·exact Or.inl d
 ·refine Or.inr ⟨g,cap,p,b,k,?_,r⟩;injection b with b;rw [o _ b];exact l
theorem zaJ{w:World}{B s n m c:Nat}{e:TypeId}{A:Option Addr}{l:List Value}(h:w.ownsRow B e s (slice A m c) n l){a:Addr}(i:A=some a):B<=a.block/\a.block<w.heap.size/\∃ d,w.heap[a.block]?=some (.cells d e (0,0)):=by
 rcases h.2 with⟨b,_⟩|⟨g,cap,d,b,k,j,_⟩
 ·injection b with b;rw [i] at b;cases b
 ·injection b with b;rw [i] at b;injection b with b;subst b;exact⟨k,(Array.getElem?_eq_some_iff.1 j).1,d,j⟩
theorem zcU{w:World}{B s n m c g:Nat}{e t:TypeId}{A:Option Addr}{i:List Value}{j:Array Value}(h:w.ownsRow B e s (slice A m c) n i)(b:Blk w g t j)(ht:t≠e){a:Addr}(d:A=some a):a.block≠g:=by
 obtain⟨_,_,l,k⟩:=zaJ h d;rintro rfl;unfold Blk at b;rw [k] at b;injection b with b;injection b with _ b;exact ht b.symm
theorem zlj{w w':World}{g:Nat}{t:TypeId}{a:Array Value}(h:Blk w g t a)(b:w'.heap[g]?=w.heap[g]?):Blk w' g t a:=b.trans h
structure DkK where
 ty:TypeId
 X:List Value
 hne:ty≠5
def dkC(K:DkK)(l:List Value):Array Value:=⟨l++K.X⟩
def dk0:DkK:=⟨100,[],by decide⟩
variable {K : DkK}
section
variable {w : World} {g : Nat} {t : TypeId} {a b c : Value}
theorem _root_.Go.Proofs.YtahnjkkgojfdmaaGreatDoor.Mem.Blk.d0(h:Blk w g t (dkC K [a,b,c])):w.cell? ⟨g,0,none⟩=some a:=(h.cell 0).trans (by simp [dkC])
theorem _root_.Go.Proofs.YtahnjkkgojfdmaaGreatDoor.Mem.Blk.d1(h:Blk w g t (dkC K [a,b,c])):w.cell? ⟨g,1,none⟩=some b:=(h.cell 1).trans (by simp [dkC])
theorem _root_.Go.Proofs.YtahnjkkgojfdmaaGreatDoor.Mem.Blk.d2(h:Blk w g t (dkC K [a,b,c])):w.cell? ⟨g,2,none⟩=some c:=(h.cell 2).trans (by simp [dkC])
theorem _root_.Go.Proofs.YtahnjkkgojfdmaaGreatDoor.Mem.Blk.e0(h:Blk w g t (dkC K [a,b,c]))(u:Value):Blk (w.setCell ⟨g,0,none⟩ u) g t (dkC K [u,b,c]):=by simpa [dkC] using h.set_ 0 u
theorem _root_.Go.Proofs.YtahnjkkgojfdmaaGreatDoor.Mem.Blk.e1(h:Blk w g t (dkC K [a,b,c]))(u:Value):Blk (w.setCell ⟨g,1,none⟩ u) g t (dkC K [a,u,c]):=by simpa [dkC] using h.set_ 1 u
theorem _root_.Go.Proofs.YtahnjkkgojfdmaaGreatDoor.Mem.Blk.e2(h:Blk w g t (dkC K [a,b,c]))(u:Value):Blk (w.setCell ⟨g,2,none⟩ u) g t (dkC K [a,b,u]):=by simpa [dkC] using h.set_ 2 u
end
structure DkB (K:DkK) (w:World) (F:Nat->Prop) (g:Nat) (L T:List UInt8) (n:Nat) (A:Option Addr) (c:Nat) (A':Option Addr) (c':Nat):Prop where
 blk:Blk w g K.ty (dkC K [slice A L.length c,slice A' T.length c',int i64 (n:Int)])
 ol:w.ownsRow 0 5 1 (slice A L.length c) L.length (L.map zaa)
 ot:w.ownsRow 0 5 1 (slice A' T.length c') T.length (T.map zaa)
 fl:InF F A
 ft:InF F A'
 ap:znJ A A'
 fg:F g
 lt:∀ k,F k->k<w.heap.size
 mx:L.length+T.length<=4194304
def zcV(K:DkK)(w:World)(F:Nat->Prop)(g:Nat)(L T:List UInt8)(n:Nat):Prop:=∃ A c A' c',DkB K w F g L T n A c A' c'
section
variable {w w' : World} {F G : Nat → Prop} {g n : Nat} {L T : List UInt8} {A A' : Option Addr} {c c' : Nat}
theorem DkB.keep(h:DkB K w F g L T n A c A' c')(hs:w.heap.size<=w'.heap.size)(hk:∀ k,F k->w'.heap[k]?=w.heap[k]?):DkB K w' F g L T n A c A' c':=
 ⟨zlj h.blk (hk g h.fg),zaj h.ol fun a ha=>hk _ (h.fl a ha),zaj h.ot fun a ha=>hk _ (h.ft a ha),h.fl,h.ft,h.ap,h.fg,fun k hf=>Nat.lt_of_lt_of_le (h.lt k hf) hs,h.mx⟩
theorem zcV.keep(h:zcV K w F g L T n)(hs:w.heap.size<=w'.heap.size)(hk:∀ k,F k->w'.heap[k]?=w.heap[k]?):zcV K w' F g L T n:=by
 obtain⟨A,c,A',c',h⟩:=h;exact⟨A,c,A',c',h.keep hs hk⟩
theorem zcV.lt(h:zcV K w F g L T n):∀ k,F k->k<w.heap.size:=by
 obtain⟨A,c,A',c',h⟩:=h;exact h.lt
theorem zcV.mx(h:zcV K w F g L T n):L.length+T.length<=4194304:=by
 obtain⟨A,c,A',c',h⟩:=h;exact h.mx
theorem zcV.below(h:zcV K w F g L T n)(hb:Below w.heap.size w w'):zcV K w' F g L T n:=h.keep hb.size fun k hk=>hb.block k (h.lt k hk)
theorem zcV.touch(h:zcV K w F g L T n)(ht:Touch G w w')(hd:∀ k,F k->¬ G k):zcV K w' F g L T n:=h.keep ht.size fun k hk=>ht.block k (h.lt k hk) (hd k hk)
theorem DkB.setN(h:DkB K w F g L T n A c A' c')(m:Nat):DkB K (w.setCell ⟨g,2,none⟩ (int i64 (m:Int))) F g L T m A c A' c':=by
 have hk:∀ k,k≠g->(w.setCell ⟨g,2,none⟩ (int i64 (m:Int))).heap[k]?=w.heap[k]?:=fun k hk=>Below.heap_setCell w ⟨g,2,none⟩ _ k hk;exact⟨h.blk.e2 (int i64 (m:Int)),zaj h.ol fun a ha=>hk _ (zcU h.ol h.blk K.hne ha),zaj h.ot fun a ha=>hk _ (zcU h.ot h.blk K.hne ha),h.fl,h.ft,h.ap,h.fg,
  fun k hf=>Nat.lt_of_lt_of_le (h.lt k hf) ((Below.refl 0 w).setCell (p:=⟨g,2,none⟩) (Nat.zero_le _) _).size,h.mx⟩
end
def zsd(K:DkK)(v:Value)(F:Nat->Prop)(g:Nat)(L T:List UInt8)(n:Nat)(w:World)(e:Ending)(w':World):Prop:=e=.returned v/\∃ F',(∀ k,F' k->F k\/w.heap.size<=k)/\zcV K w' F' g L T n/\Touch F w w'
end
section
open Go.RowKit Mem
variable {K : DkK}
theorem DkB.row{w:World}{F:Nat->Prop}{g n:Nat}{L T:List UInt8}{A A':Option Addr}{c c':Nat}(h:DkB K w F g L T n A c A' c'){k m d:Nat}(hk:(Value.slice A m d).ownBlock=some k):F k/\k≠g:=by
 cases A with
 | none=>cases hk
 | some a=>
  have:a.block=k:=by simpa [Value.ownBlock] using hk
  subst this;exact⟨h.fl a rfl,zcU h.ol h.blk K.hne rfl⟩
theorem DkB.grownBlk{w w1:World}{F:Nat->Prop}{g n:Nat}{L T:List UInt8}{A A':Option Addr}{c c':Nat}(h:DkB K w F g L T n A c A' c'){m d:Nat}(hg:w.grownBy w1 (Value.slice A m d).ownBlock) :
 Blk w1 g K.ty (dkC K [slice A L.length c,slice A' T.length c',int i64 (n:Int)]):=h.blk.grown hg (fun e=>(h.row e.symm).2 rfl)
theorem znK{w w1:World}{F:Nat->Prop}{g n:Nat}{L T X:List UInt8}{A p:Option Addr}{c c':Nat}(h:DkB K w F g L T n A c p c'){v:Value}{m:Nat}(x:X.length=m)(j:w1.ownsRow 0 5 1 v (L.length+m) (L.map zaa++X.map zaa))
 (o:w.grownBy w1 (Value.slice A L.length c).ownBlock) (d:v.ownBlock=(Value.slice A L.length c).ownBlock\/v.ownBlock=some w.heap.size) (B:m<=T.length) :
 zsd K (.tuple #[]) F g (L++X) [] n w (.returned (.tuple #[])) ((w1.setCell ⟨g,0,none⟩ v).setCell ⟨g,1,none⟩ (slice none 0 0)):=by
 subst x;obtain⟨i,c1,rfl,y,z⟩:=zat j;have l:∀ k,(Value.slice A L.length c).ownBlock=some k->F k/\k≠g:=fun k b=>by
  cases A with
  | none=>cases b
  | some a=>
   have:a.block=k:=by simpa [Value.ownBlock] using b
   subst this;exact⟨h.fl a rfl,zcU h.ol h.blk K.hne rfl⟩
 have q:Blk w1 g K.ty (dkC K [slice A L.length c,slice p T.length c',int i64 (n:Int)]):=h.blk.grown o (fun e=>(l g e.symm).2 rfl);have u:=(q.e0 (slice i (L.length+X.length) c1)).e1 (slice none 0 0);have b:∀ k,k≠g->((w1.setCell ⟨g,0,none⟩ (slice i (L.length+X.length) c1)).setCell ⟨g,1,none⟩ (slice none 0 0)).heap[k]?=w1.heap[k]?:=fun k b=>
  (Below.heap_setCell _ ⟨g,1,none⟩ _ k b).trans (Below.heap_setCell _ ⟨g,0,none⟩ _ k b)
 have r:∀ a,i=some a->F a.block\/w.heap.size<=a.block:=fun a s=>by
  subst s;rcases d with d|d
  ·exact Or.inl (l a.block d.symm).1
  ·have:a.block=w.heap.size:=by simpa [Value.ownBlock] using d
   exact Or.inr (by omega)
 have t:((w1.setCell ⟨g,0,none⟩ (slice i (L.length+X.length) c1)).setCell ⟨g,1,none⟩ (slice none 0 0)).heap.size=w1.heap.size:=by simp [World.setCell]
 refine⟨rfl,fun k=>(F k\/w.heap.size<=k)/\k<w1.heap.size,fun k b=>b.1,⟨i,c1,none,0,?_⟩,(((Touch.refl F w).grown o (fun k b=>Or.inl (l k b).1)).set_ (Or.inl h.fg) _).set_ (Or.inl h.fg) _⟩;refine⟨?_,?_,World.ownsRow_nil _ _ _ _,?_,zcL _,zfE _,?_,?_,?_⟩
 ·rw [List.length_append];exact u
 ·rw [List.length_append,List.map_append];exact zaj j fun a d=>b _ (zcU j q K.hne d)
 ·exact fun a d=>⟨r a d,(zaJ j d).2.1⟩
 ·exact⟨Or.inl h.fg,Nat.lt_of_lt_of_le (h.lt g h.fg) o.size⟩
 ·intro k b;rw [t];exact b.2
 ·have:=h.mx;rw [List.length_append,List.length_nil];omega
theorem zel(F:Nat->Prop)(g n k:Nat)(L T:List UInt8)(y:k<=T.length)(w:World)(h:zcV K w F g L T n) :
 Calls Tryz.prog 125 #[pointer (some ⟨g,0,none⟩),int i64 (k:Int)] w (zsd K (.tuple #[]) F g (L++T.take k) [] n w):=by
 obtain⟨s,q,x,r,u⟩:=info_parts zaB;obtain⟨A,c,b,c',h⟩:=h;have c0:w.cell? ⟨g,0,none⟩=some (slice A L.length c):=h.blk.d0;have c1:w.cell? ⟨g,1,none⟩=some (slice b T.length c'):=h.blk.d1;have z0:=h.blk.frozen 0;have C:=h.blk.frozen 1;have B:=(zbR h.ot).1;have hcut:=fun W=>zbk (P:=Tryz.prog) (w:=W) 27 5 _ _ Tryz.underlying27 zaB b T.length c' k (by omega);have l:(T.take k).length=k:=by rw [List.length_take];omega
 have o:=h.mx;have H:=zhd h;obtain⟨X,m⟩:∃ X,T.take k=X:=⟨_,rfl⟩;rw [m] at l ⊢;have v:Hid (Row w w.heap.size b (X.map zaa)):=zhd (by rw [<-m,List.map_take];exact zby (Row.of_own h.ot) k);have i:Hid (X.length=k/\k<=T.length/\L.length+T.length<=4194304):=zhd ⟨l,y,o⟩;clear h m l o;go_enter Tryz.func125,Tryz.ntmps125
 go_wp2_with fail
 go_region_law (refine zrN _ (by rfl) _ _ 27 (by rfl) 0 5 s (int .u8 0) 1 Tryz.underlying27 q x r u rfl (slice A L.length c) L.length (L.map zaa) (by rfl) (show World.ownsRow _ _ _ _ _ _ _ from H.out.ol) w.heap.size b k c' (X.map zaa) (by rfl) (by rw [List.length_map];exact i.out.1) (show Row _ _ _ _ from v.out) (zaH X) (by have:=i.out;unfold maxLen;omega) (by have:=i.out;omega) (Nat.zero_le _) ?_;intro I w1 j a p;obtain⟨G,c1,rfl,_,_⟩:=zat j;have t:=zhd j;have d:=zhd (show w.grownBy w1 _ from⟨a.os,a.tape,a.output,a.size,a.block⟩);have z:=zhd p;(have d0:w1.cell? ⟨g,0,none⟩=some (slice A L.length c):=(H.out.grownBlk d.out).d0);(have d1:w1.cell? ⟨g,1,none⟩=some (slice b T.length c'):=(H.out.grownBlk d.out).d1);(have E:=(H.out.grownBlk d.out).frozen 0);(have D:=(H.out.grownBlk d.out).frozen 1);clear j a p)
 all_goals
  go_end0
  exact znK H.out i.out.1 t.out d.out z.out i.out.2.1
end
section
open Go.RowKit Mem
variable {K : DkK}
def upN(T:List UInt8)(n:Nat):Nat:=if T.length=0 then n else n+1
theorem zpo{v:Value}{F:Nat->Prop}{g n:Nat}{L T:List UInt8}{w w1 b:World}{e:Ending}(d:Touch F w w1)(m:w.heap.size<=w1.heap.size)(h:zsd K v F g L T n w1 e b):zsd K v F g L T n w e b:=by
 obtain⟨rfl,l,c,j,i⟩:=h;exact⟨rfl,l,fun k a=>by rcases c k a with h|h;exact Or.inl h;exact Or.inr (by omega),j,d.trans i (fun k a=>Or.inl a)⟩
theorem zse(F:Nat->Prop)(g n:Nat)(L T:List UInt8)(B:n<=4611686018427387904)(w:World)(h:zcV K w F g L T n) :
 Calls Tryz.prog 172 #[pointer (some ⟨g,0,none⟩)] w (zsd K (int i64 0) F g (L++T) [] (upN T n) w):=by
 obtain⟨A,c,d,c',h⟩:=h;have c1:w.cell? ⟨g,1,none⟩=some (slice d T.length c'):=h.blk.d1;have c2:w.cell? ⟨g,2,none⟩=some (int i64 (n:Int)):=h.blk.d2;have y:=h.blk.frozen 2;have u:=h.mx;have t:(T.length:Int)<=4194304:=by omega
 have z:(n:Int)<=4611686018427387904:=by omega
 have H:=zhd h;have m:Hid (T.take T.length=T):=zhd (List.take_of_length_le (Nat.le_refl _));clear h u;by_cases b:T.length=0
 ·have i:Hid (upN T n=n):=zhd (if_pos b);have a:=zel F g n T.length L T (Nat.le_refl _) w ⟨A,c,d,c',H.out⟩;rw [m.out,b] at a;have l:=zhd a;rw [b] at c1;rw [i.out];clear a t b;go_enter Tryz.func172,Tryz.ntmps172
  go_wp2_with fail
  refine l.out.mono ?_;rintro e w1 ⟨rfl,F',p,o,q⟩;have k:=zhd (And.intro p (And.intro o q));clear p o q;go_wp2;go_ret;exact⟨rfl,F',k.out⟩
 ·have i:Hid (upN T n=n+1):=zhd (if_neg b);have C:(0:Int)<(T.length:Int):=by omega
  have a:=zel F g (n+1) T.length L T (Nat.le_refl _) (w.setCell ⟨g,2,none⟩ (int i64 ((n+1:Nat):Int))) ⟨A,c,d,c',H.out.setN (n+1)⟩;have v:(w.setCell ⟨g,2,none⟩ (int i64 ((n+1:Nat):Int))).cell? ⟨g,1,none⟩=some (slice d T.length c'):=(H.out.setN (n+1)).blk.d1;have j:(w.setCell ⟨g,2,none⟩ (int i64 ((n+1:Nat):Int))).heap.size=w.heap.size:=by simp [World.setCell]
  have s:Hid (Touch F w (w.setCell ⟨g,2,none⟩ (int i64 ((n+1:Nat):Int)))):=zhd ((Touch.refl F w).set_ (Or.inl H.out.fg) _);rw [m.out,Int.natCast_add,Int.natCast_one] at a;rw [Int.natCast_add,Int.natCast_one] at v j s;have l:=zhd a;have x:=zhd j;rw [i.out];clear a t b j;go_enter Tryz.func172,Tryz.ntmps172
  go_wp2_with fail
  refine l.out.mono ?_;rintro e w1 r;have k:=zhd (zpo s.out (by rw [x.out];exact Nat.le_refl _) r);obtain⟨rfl,_⟩:=r;go_wp2;go_ret;exact⟨rfl,k.out.2⟩
theorem zpp(F:Nat->Prop)(g n:Nat)(L T:List UInt8)(k:Int)(a:k<0)(w:World) :
 Calls Tryz.prog 92 #[pointer (some ⟨g,0,none⟩),int i64 k] w fun e w'=>e=.returned (int i64 2)/\w=w':=by
 go_enter Tryz.func92,Tryz.ntmps92
 go_wp2;go_ret;exact⟨rfl,rfl⟩
theorem zpq(F:Nat->Prop)(g n k:Nat)(L T:List UInt8)(w:World)(h:zcV K w F g L T n) :
 Calls Tryz.prog 92 #[pointer (some ⟨g,0,none⟩),int i64 (k:Int)] w (zsd K (int i64 0) F g (L++T.take k) [] n w):=by
 have j:=h;obtain⟨A,c,r,c',h⟩:=h;have c1:w.cell? ⟨g,1,none⟩=some (slice r T.length c'):=h.blk.d1;have p:=h.mx;have s:(T.length:Int)<=4194304:=by omega
 have t:(0:Int)<=(k:Int):=by omega
 clear h p;by_cases o:T.length<k
 ·have q:(T.length:Int)<(k:Int):=by omega
  have a:=zel F g n T.length L T (Nat.le_refl _) w j;rw [show T.take T.length=T.take k by rw [List.take_of_length_le (Nat.le_refl _),List.take_of_length_le (by omega)]] at a;have m:=zhd a;clear a j o;go_enter Tryz.func92,Tryz.ntmps92
  go_wp2_with fail
  refine m.out.mono ?_;rintro e w1 ⟨rfl,F',b,i,d⟩;have l:=zhd (And.intro b (And.intro i d));clear b i d;go_wp2;go_ret;exact⟨rfl,F',l.out⟩
 ·have q:(k:Int)<=(T.length:Int):=by omega
  have a:=zel F g n k L T (by omega) w j;have m:=zhd a;clear a j o;go_enter Tryz.func92,Tryz.ntmps92
  go_wp2_with fail
  refine m.out.mono ?_;rintro e w1 ⟨rfl,F',b,i,d⟩;have l:=zhd (And.intro b (And.intro i d));clear b i d;go_wp2;go_ret;exact⟨rfl,F',l.out⟩
theorem zlk{w w1:World}{F:Nat->Prop}{g n m:Nat}{L T bs:List UInt8}(h:zcV K w F g L T n){d:Option Addr}{c1:Nat}(q:m=bs.length)(hl:m<=4194304)
 (i:w1.ownsRow w.heap.size 5 1 (slice d bs.length c1) bs.length (bs.map zaa)) (l:Below w.heap.size w w1) :
 zsd K (int i64 0) F g bs [] n w (.returned (int i64 0)) ((w1.setCell ⟨g,0,none⟩ (slice d bs.length c1)).setCell ⟨g,1,none⟩ (slice none 0 0)):=by
 subst q;obtain⟨A,c,s,c',h⟩:=h;have o:=h.blk.below l (h.lt g h.fg);have p:=(o.e0 (slice d bs.length c1)).e1 (slice none 0 0);have b:∀ k,k≠g->((w1.setCell ⟨g,0,none⟩ (slice d bs.length c1)).setCell ⟨g,1,none⟩ (slice none 0 0)).heap[k]?=w1.heap[k]?:=fun k b=>
  (Below.heap_setCell _ ⟨g,1,none⟩ _ k b).trans (Below.heap_setCell _ ⟨g,0,none⟩ _ k b)
 have r:((w1.setCell ⟨g,0,none⟩ (slice d bs.length c1)).setCell ⟨g,1,none⟩ (slice none 0 0)).heap.size=w1.heap.size:=by simp [World.setCell]
 refine⟨rfl,fun k=>(F k\/w.heap.size<=k)/\k<w1.heap.size,fun k b=>b.1,⟨d,c1,none,0,?_⟩,(((Touch.refl F w).thenBelow l).set_ (Or.inl h.fg) _).set_ (Or.inl h.fg) _⟩;refine⟨p,?_,World.ownsRow_nil _ _ _ _,?_,zcL _,zfE _,?_,?_,?_⟩
 ·exact zaj (zaz i (Nat.zero_le _)) fun a j=>b _ (zcU i o K.hne j)
 ·exact fun a j=>⟨Or.inr (zaJ i j).1,(zaJ i j).2.1⟩
 ·exact⟨Or.inl h.fg,Nat.lt_of_lt_of_le (h.lt g h.fg) l.size⟩
 ·intro k b;rw [r];exact b.2
 ·rw [List.length_nil];omega
theorem zgE(F:Nat->Prop)(g n m B c0:Nat)(L T bs:List UInt8)(b:Option Addr)(i:m=bs.length)(hl:m<=4194304)(w:World)(h:zcV K w F g L T n)(j:Row w B b (bs.map zaa))(o:B<=w.heap.size) :
 Calls Tryz.prog 152 #[pointer (some ⟨g,0,none⟩),slice b m c0] w (zsd K (int i64 0) F g bs [] n w):=by
 have p:=zhd (za4 B c0 b bs m i w j o (by omega));have k:=zhd h;have q:=zhd i;have u:(m:Int)<=4194304:=by omega
 clear h j i;go_enter Tryz.func152,Tryz.ntmps152
 go_wp2_with fail
 refine p.out.mono ?_;rintro e w1 ⟨C,c1,rfl,l,d⟩;have s:∃ x y z,Blk w1 g K.ty (dkC K [x,y,z])/\x.cells.size=1/\y.cells.size=1:=by
  obtain⟨A,c,t,c',h⟩:=k.out;exact⟨_,_,_,h.blk.below d (h.lt g h.fg),rfl,rfl⟩
 obtain⟨x,y,z,a,_,_⟩:=s;have d0:w1.cell? ⟨g,0,none⟩=some x:=a.d0;have d1:w1.cell? ⟨g,1,none⟩=some y:=a.d1;have z0:=a.frozen 0;have v:=a.frozen 1;have r:=zhd (zlk k.out q.out hl l d);clear l d a;go_wp2;go_ret;exact r.out
def zll(v:Value->Value)(L T:List UInt8)(n:Nat)(w:World)(e:Ending)(w':World):Prop:=
 ∃ g F,e=.returned (v (pointer (some ⟨g,0,none⟩)))/\(∀ k,F k->w.heap.size<=k)/\zcV dk0 w' F g L T n/\Below w.heap.size w w'
theorem zvF(w:World):zcV dk0 (w.alloc (.cells #[slice none 0 0,slice none 0 0,int i64 0] 100)) (fun k=>k=w.heap.size) w.heap.size [] [] 0:=
 ⟨none,0,none,0,⟨Blk.new _ _ _,World.ownsRow_nil _ _ _ _,World.ownsRow_nil _ _ _ _,zcL _,zcL _,zfE _,rfl,fun k a=>by subst a;simp,by simp⟩⟩
theorem zpr(w:World):Calls Tryz.prog 95 #[] w (zll id [] [] 0 w):=by
 have a:=zhd (zvF w);go_enter Tryz.func95,Tryz.ntmps95
 go_wp2;go_ret;exact⟨w.heap.size,_,rfl,fun k b=>by subst b;exact Nat.le_refl _,a.out,zbl⟩
end
section
open Go.RowKit Mem
variable {K : DkK}
theorem zlm(F:Nat->Prop)(g n:Nat)(L T:List UInt8)(w:World)(h:zcV K w F g L T n) :
 Calls Tryz.prog 41 #[pointer (some ⟨g,0,none⟩)] w (zex w.heap.size L w):=by
 obtain⟨A,c,k,c',h⟩:=h;have c0:w.cell? ⟨g,0,none⟩=some (slice A L.length c):=h.blk.d0;have j:=zhd (za4 w.heap.size c A L L.length rfl w (Row.of_own h.ol) (Nat.le_refl _) (by have:=h.mx;omega));clear h;go_enter Tryz.func41,Tryz.ntmps41
 go_wp2_with fail
 refine j.out.mono ?_;rintro e w1 ⟨i,c1,rfl,a,d⟩;have b:=zhd (And.intro a d);clear a d;go_wp2;go_ret;exact⟨i,c1,rfl,b.out.1,b.out.2⟩
theorem zsf(F:Nat->Prop)(g n:Nat)(L T:List UInt8)(w:World)(h:zcV K w F g L T n) :
 Calls Tryz.prog 42 #[pointer (some ⟨g,0,none⟩)] w (zex w.heap.size T w):=by
 obtain⟨A,c,b,c',h⟩:=h;have c0:w.cell? ⟨g,1,none⟩=some (slice b T.length c'):=h.blk.d1;have k:=zhd (za4 w.heap.size c' b T T.length rfl w (Row.of_own h.ot) (Nat.le_refl _) (by have:=h.mx;omega));clear h;go_enter Tryz.func42,Tryz.ntmps42
 go_wp2_with fail
 refine k.out.mono ?_;rintro e w1 ⟨j,c1,rfl,a,i⟩;have d:=zhd (And.intro a i);clear a i;go_wp2;go_ret;exact⟨j,c1,rfl,d.out.1,d.out.2⟩
theorem zps{B:Nat}{bs:List UInt8}{w b:World}{e:Ending}{w':World}(a:Below w.heap.size w b)(h:zex b.heap.size bs b e w'):zex w.heap.size bs w e w':=by
 obtain⟨c,c1,rfl,g,d⟩:=h;exact⟨c,c1,rfl,zaz g a.size,a.trans (d.mono a.size)⟩
theorem zpt(F:Nat->Prop)(g n:Nat)(L T:List UInt8)(w:World)(h:zcV K w F g L T n) :
 Calls Tryz.prog 28 #[pointer (some ⟨g,0,none⟩)] w (zex w.heap.size (L++T) w):=by
 obtain⟨A,c,a,c',h⟩:=h;have c0:w.cell? ⟨g,0,none⟩=some (slice A L.length c):=h.blk.d0;have c1:w.cell? ⟨g,1,none⟩=some (slice a T.length c'):=h.blk.d1;have d:Hid (Calls Tryz.prog 56 #[slice (some ⟨w.heap.size,0,none⟩) 2 2] (w.alloc (.cells #[slice A L.length c,slice a T.length c'] 27)).drew (zex w.heap.size (L++T) w)):=zhd (by
  have b:Below w.heap.size w (w.alloc (.cells #[slice A L.length c,slice a T.length c'] 27)).drew:=(zbl).drew;have o:Row (w.alloc (.cells #[slice A L.length c,slice a T.length c'] 27)).drew (w.heap.size+1) (some ⟨w.heap.size,0,none⟩) (List.map zbN [(A,L,c),(a,T,c')]):=(zbs rfl:Row _ _ _ _).drew;have i:zbi [(A,L,c),(a,T,c')]=L++T:=by simp [zbi]
  have:=zfw (w.heap.size+1) 2 2 (some ⟨w.heap.size,0,none⟩) [(A,L,c),(a,T,c')] rfl _ o (by simp) (fun r p=>by
   rcases(by simpa using p:r=(A,L,c)\/r=(a,T,c')) with rfl|rfl
   ·exact((Row.of_own h.ol).below b).more b.size
   ·exact((Row.of_own h.ot).below b).more b.size) (by rw [i,List.length_append];have:=h.mx;omega) (by omega)
  rw [i] at this;exact this.mono fun e w' s=>zps (B:=0) b s)
 obtain⟨X,m⟩:∃ X,L++T=X:=⟨_,rfl⟩;rw [m] at d ⊢;clear h m;go_enter Tryz.func28,Tryz.ntmps28
 go_wp2_with fail
 go_region_with (go_at_call 56;refine d.out.mono ?_;rintro e w1 ⟨q,c2,rfl,j,l⟩;have k:=zhd (And.intro j l);clear j l)
 all_goals
  go_wp2;go_ret;exact⟨q,c2,rfl,k.out.1,k.out.2⟩
theorem zpu{w w1:World}{L T:List UInt8}{n g:Nat}{x y:Value}{h d:Option Addr}{c1 c2:Nat}(m:g=w.heap.size)(q:Below w.heap.size w w1)(l:Blk w1 g dk0.ty (dkC dk0 [x,y,int i64 (n:Int)]))
 (i:w1.ownsRow w.heap.size 5 1 (slice h L.length c1) L.length (L.map zaa)) (j:w1.ownsRow w.heap.size 5 1 (slice d T.length c2) T.length (T.map zaa)) (b:znJ h d) (r:L.length+T.length<=4194304) :
 zll id L T n w (.returned (pointer (some ⟨g,0,none⟩))) ((w1.setCell ⟨g,0,none⟩ (slice h L.length c1)).setCell ⟨g,1,none⟩ (slice d T.length c2)):=by
 subst m;have o:=(l.e0 (slice h L.length c1)).e1 (slice d T.length c2);have c:∀ k,k≠w.heap.size->((w1.setCell ⟨w.heap.size,0,none⟩ (slice h L.length c1)).setCell ⟨w.heap.size,1,none⟩ (slice d T.length c2)).heap[k]?=w1.heap[k]?:=fun k c=>
  (Below.heap_setCell _ ⟨w.heap.size,1,none⟩ _ k c).trans (Below.heap_setCell _ ⟨w.heap.size,0,none⟩ _ k c)
 have s:((w1.setCell ⟨w.heap.size,0,none⟩ (slice h L.length c1)).setCell ⟨w.heap.size,1,none⟩ (slice d T.length c2)).heap.size=w1.heap.size:=by simp [World.setCell]
 refine⟨w.heap.size,fun k=>w.heap.size<=k/\k<w1.heap.size,rfl,fun k c=>c.1,⟨h,c1,d,c2,?_⟩,(q.setCell (p:=⟨w.heap.size,0,none⟩) (Nat.le_refl _) _).setCell (p:=⟨w.heap.size,1,none⟩) (Nat.le_refl _) _⟩;refine⟨o,?_,?_,?_,?_,b,⟨Nat.le_refl _,l.lt⟩,fun k c=>by rw [s];exact c.2,r⟩
 ·exact zaj (zaz i (Nat.zero_le _)) fun a b=>c _ (zcU i l dk0.hne b)
 ·exact zaj (zaz j (Nat.zero_le _)) fun a b=>c _ (zcU j l dk0.hne b)
 ·exact fun a b=>⟨(zaJ i b).1,(zaJ i b).2.1⟩
 ·exact fun a b=>⟨(zaJ j b).1,(zaJ j b).2.1⟩
theorem zmJ{w1 h:World}{B n m c c' k l:Nat}{A b:Option Addr}{j g:List Value}(d:w1.ownsRow B 5 1 (slice A n c) k j)(p:h.ownsRow w1.heap.size 5 1 (slice b m c') l g):znJ A b:=fun a q i o e=>by
 have:=(zaJ d i).2.1;have:=(zaJ p o).1;omega
theorem znL{A b:Option Addr}(h:znJ A b):znJ b A:=fun a c d g e=>h c a g d e.symm
theorem zmK(F:Nat->Prop)(g n:Nat)(L T:List UInt8)(w:World)(h:zcV K w F g L T n) :
 Calls Tryz.prog 119 #[pointer (some ⟨g,0,none⟩)] w (zll id L T n w):=by
 obtain⟨A,c,i,c',h⟩:=h;have c0:w.cell? ⟨g,0,none⟩=some (slice A L.length c):=h.blk.d0;have c1:w.cell? ⟨g,1,none⟩=some (slice i T.length c'):=h.blk.d1;have c2:w.cell? ⟨g,2,none⟩=some (int i64 (n:Int)):=h.blk.d2;have C:=h.lt g h.fg;have x:=h.mx;have B:Hid (∀ W,Below w.heap.size w W->Calls Tryz.prog 71 #[slice A L.length c] W (zex W.heap.size L W)):=zhd fun W a=>
  za4 w.heap.size c A L L.length rfl W ((Row.of_own h.ol).below a) a.size (by omega)
 have z:Hid (∀ W,Below w.heap.size w W->Calls Tryz.prog 71 #[slice i T.length c'] W (zex W.heap.size T W)):=zhd fun W a=>
  za4 w.heap.size c' i T T.length rfl W ((Row.of_own h.ot).below a) a.size (by omega)
 have H:=zhd h;have G:=zhd x;have l:Hid (Below w.heap.size w (w.alloc (.cells #[slice A L.length c,slice i T.length c',int i64 (n:Int)] 100)).drew):=zhd (zbl).drew;have r:Hid (Blk (w.alloc (.cells #[slice A L.length c,slice i T.length c',int i64 (n:Int)] 100)).drew w.heap.size dk0.ty (dkC dk0 [slice A L.length c,slice i T.length c',int i64 (n:Int)])):=zhd (Blk.new _ _ _).drew;clear h x;go_enter Tryz.func119,Tryz.ntmps119
 go_wp2_with fail
 go_region_with (first
  | (go_at_call 71;refine(B.out _ l.out).mono ?_;rintro e w1 ⟨I,k1,rfl,d,a⟩;have j:=zhd (l.out.trans (a.mono l.out.size));have m:=zhd d;have b:=zhd (r.out.below a r.out.lt);clear d a;(have d1:w1.cell? ⟨g,1,none⟩=some (slice i T.length c'):=(j.out.cell (p:=⟨g,1,none⟩) C).trans c1);(have s:w1.cell? ⟨w.heap.size,0,none⟩=some (slice A L.length c):=b.out.d0);(have t:w1.cell? ⟨w.heap.size,1,none⟩=some (slice i T.length c'):=b.out.d1);have v:=b.out.frozen 0;have u:=b.out.frozen 1)
  | (go_at_call 71;refine(z.out _ j.out).mono ?_;rintro e o ⟨E,J,rfl,d,a⟩;have y:=zhd (j.out.trans (a.mono j.out.size));have D:=zhd (zmJ m.out d);have m:=zhd (za5 m.out a);have q:=zhd d;have k:=zhd (b.out.below a b.out.lt);clear d a;(have s:o.cell? ⟨w.heap.size,0,none⟩=some (slice A L.length c):=k.out.d0);(have t:o.cell? ⟨w.heap.size,1,none⟩=some (slice i T.length c'):=k.out.d1);have v:=k.out.frozen 0;have u:=k.out.frozen 1)
  | (go_at_call 71;refine(z.out _ l.out).mono ?_;rintro e w1 ⟨E,J,rfl,d,a⟩;have j:=zhd (l.out.trans (a.mono l.out.size));have q:=zhd d;have b:=zhd (r.out.below a r.out.lt);clear d a;(have d0:w1.cell? ⟨g,0,none⟩=some (slice A L.length c):=(j.out.cell (p:=⟨g,0,none⟩) C).trans c0);(have s:w1.cell? ⟨w.heap.size,0,none⟩=some (slice A L.length c):=b.out.d0);(have t:w1.cell? ⟨w.heap.size,1,none⟩=some (slice i T.length c'):=b.out.d1);have v:=b.out.frozen 0;have u:=b.out.frozen 1)
  | (go_at_call 71;refine(B.out _ j.out).mono ?_;rintro e o ⟨I,k1,rfl,d,a⟩;have y:=zhd (j.out.trans (a.mono j.out.size));have D:=zhd (znL (zmJ q.out d));have q:=zhd (za5 q.out a);have m:=zhd d;have k:=zhd (b.out.below a b.out.lt);clear d a;(have s:o.cell? ⟨w.heap.size,0,none⟩=some (slice A L.length c):=k.out.d0);(have t:o.cell? ⟨w.heap.size,1,none⟩=some (slice i T.length c'):=k.out.d1);have v:=k.out.frozen 0;have u:=k.out.frozen 1))
 all_goals
  go_wp2;go_ret;exact zpu rfl y.out k.out (zaz m.out (by have:=j.out.size;have:=l.out.size;omega)) (zaz q.out (by have:=j.out.size;have:=l.out.size;omega)) D.out G.out
end
section
open Go.RowKit Mem
def zvG(t m:Nat):Int:=if t<=m then(t:Int) else 0
def zvH(t m:Nat):Int:=if t<=m then 0 else 3
theorem zjL(n m B c:Nat)(A:Option Addr)(rs:List zb3)(C:n=rs.length)(v:n<=maxLen)(E:∀ r∈rs,r.2.1.length<=maxLen)(O:m<=4194304)(w:World)(h:Row w B A (rs.map zbN)) :
 Calls Tryz.prog 205 #[slice A n c,int i64 (m:Int)] w fun e w'=>e=.returned (.tuple #[int i64 (zvG (zbi rs).length m),int i64 (zvH (zbi rs).length m)])/\w=w':=by
 have I:=zhd h;have M:=zhd E;have F:=zhd C;have U:(m:Int)<=4194304:=by omega
 have Q:(n:Int)<=9223372036854775807:=by unfold maxLen at v;omega
 clear h E C v O;go_enter Tryz.func205,Tryz.ntmps205
 go_wp2_with fail
 go_step3
 go_wp2_with fail
 go_step3
 go_wp2_with fail
 go_loopg [6,7,12] n (fun gk z e i wr=>∃ k:Nat,k+gk=n/\i=int i64 k/\z=int i64 ((zbi (rs.take k)).length:Nat)/\e=int i64 0/\Hid ((zbi (rs.take k)).length<=m)/\w=wr)
 case atStart=>exact⟨0,by omega,rfl,rfl,rfl,zhd (by simp [zbi]),rfl⟩
 case round=>
  obtain⟨k,Y,rfl,rfl,rfl,D,rfl⟩:=hrel;by_cases J:k<n
  ·have s:k<rs.length:=by rw [<-F.out];exact J
   obtain⟨b,o,rfl,_,hc⟩:=I.out.open_ (by simp;omega);have t:w.cell? ⟨b,o+k,none⟩=some (zbN rs[k]):=(hc k (by simpa using s)).trans (congrArg some (List.getElem_map (f:=zbN) (h:=by simpa using s)));have l:=M.out rs[k] (List.getElem_mem s);obtain⟨⟨X,j,c1⟩,q⟩:∃ y,rs[k]=y:=⟨_,rfl⟩;rw [q] at t l;unfold zbN at t;simp only at t l;have g:=zdV rs k s;rw [q] at g;have a:=zic rs (k+1);rw [g,List.length_append] at a;simp only at a;obtain⟨z,p⟩:∃ z,(zbi (rs.take k)).length=z:=⟨_,rfl⟩;have G:Hid ((zbi (rs.take (k+1))).length=z+j.length):=zhd (by rw [g,List.length_append,p]);have K:=D.out;rw [p] at a K ⊢;have R:(z:Int)<=(m:Int):=by omega
   have W:(0:Int)<=(z:Int):=by omega
   have S:(j.length:Int)<=9223372036854775807:=by unfold maxLen at l;omega
   have T:(0:Int)<=(k:Int):=by omega
   have V:(k:Int)<(n:Int):=by omega
   by_cases u:j.length+z<=m
   ·have N:(j.length:Int)<=(m:Int) - (z:Int):=by omega
    have L:=zhd u;have x:Hid (k+1+(gk - 1)=n/\gk - 1<gk):=zhd (by omega);clear hc q g p a u l;go_wp2;go_roundg (gk - 1)
    case measure=>exact x.out.2
    case rel=>exact⟨k+1,x.out.1,by go_num,by rw [G.out];go_num,rfl,zhd (by rw [G.out];have:=L.out;omega),rfl⟩
   ·have N:(m:Int) - (z:Int)<(j.length:Int):=by omega
    have d:Hid (zvG (zbi rs).length m=0/\zvH (zbi rs).length m=3):=zhd ⟨if_neg (by omega),if_neg (by omega)⟩;clear hc q g p a u l;go_wp2
    try rw [Exit.noGoto_ret]
    go_ret2
    rw [d.out.1,d.out.2];exact⟨rfl,rfl⟩
  ·obtain rfl:k=n:=by omega
   have ht:rs.take k=rs:=List.take_of_length_le (by rw [<-F.out];omega);rw [ht];have a:=D.out;rw [ht] at a;have d:Hid (zvG (zbi rs).length m=((zbi rs).length:Nat)/\zvH (zbi rs).length m=0):=zhd ⟨if_pos a,if_pos a⟩;clear a;go_wp2
   try rw [Exit.noGoto_ret]
   go_ret2
   rw [d.out.1,d.out.2];exact⟨rfl,rfl⟩
end
section
open Go.RowKit Mem
variable {K : DkK}
instance laterNonempty6(w:World):Nonempty (Later w):=⟨⟨w,Below.refl _ _⟩⟩
theorem znM{w:World}{A:Option Addr}{n c k q:Nat}{bs:List UInt8}(h:w.ownsRow 0 5 1 (slice A n c) n (bs.map zaa))(hq:n+k=c+q)(G:0<q)(K:n+k<=4194304) :
 ∃ C w1,(Builtin.append_ #[27,3] 27 #[slice A c c,int i64 ((k:Int) - ((c:Int) - (n:Int)))]).run Tryz.prog w=.ok (slice (some ⟨w.heap.size,0,none⟩) (c+q) C) w1/\n<=C/\
  w1.ownsRow w.heap.size 5 1 (slice (some ⟨w.heap.size,0,none⟩) n C) n (bs.map zaa)/\Below w.heap.size w w1:=by
 obtain⟨i,s,E,t,o⟩:=info_parts zaB;obtain⟨b,hold,m,x⟩:∃ b:List Value,(Builtin.firstCells i.size c (slice A c c)).run Tryz.prog w.drew=.ok b.toArray w.drew/\b.length=c/\b.take n=bs.map zaa:=by
  have hl:=h.1;rw [t];rcases h.2 with⟨a,y⟩|⟨g,cap,d,a,_,D,J,_,l,p⟩
  ·injection a with h1 h2 h3;subst h1;subst h2;subst h3;exact⟨[],run_firstCells_none (P:=Tryz.prog) w.drew 1 0 0 0,rfl,by simpa using (List.eq_nil_of_length_eq_zero (by simpa using hl)).symm⟩
  ·injection a with h1 h2 h3;subst h1;subst h3;rw [Nat.mul_one] at l p;refine⟨d.toList,run_firstCells_some (P:=Tryz.prog) w.drew 1 c ⟨g,0,none⟩ c c d.toList (by simpa using l) (fun j v r=>?_),by simpa using l,p⟩;have hc:=cell_of_row w.drew g j d 5 (0,0) D;have B:(⟨g,0,none⟩:Addr).add j=⟨g,j,none⟩:=by
    unfold Addr.add;split
    ·subst_vars;rfl
    ·simp
   rw [B,hc];simpa using r
 have u:Builtin.nextslicecap (c+q) c*i.bytes<=281474976710656:=growslice_fits (by omega) (by rw [o];omega);have z:=Lib.run_append_grow_zeros (P:=Tryz.prog) w 27 3 27 5 i (int .u8 0) i64 i64 Tryz.underlying27 Tryz.underlying3 s E A c c b hold q G (by omega) (by omega) (by omega) (by rw [o];omega) u;rw [show(k:Int) - ((c:Int) - (n:Int))=((q:Nat):Int) by omega];have L:=grownCap_ge w (c+q) c 5;have F:n<=c:=by
  rcases h.2 with⟨a,y⟩|⟨g,cap,d,a,_,_,J,_⟩
  ·omega
  ·injection a with _ _ h3;omega
 refine⟨_,_,z,by omega,⟨by rw [h.1],Or.inr ⟨w.heap.size,_,_,rfl,Nat.le_refl _,heap_alloc_new w.drew _,by omega,grownCap_le_maxLen w _ _ _ (by unfold maxLen;omega),?_,?_⟩⟩,((Below.refl _ _).drew).alloc (Nat.le_refl _) _⟩
 ·rw [Array.size_append,Array.size_append,size_zeroCells,size_zeroCells];have I:(Value.int IntKind.u8 0).cells.size=1:=rfl;rw [I];simp [m];omega
 ·rw [Nat.mul_one,Array.toList_append,Array.toList_append,List.append_assoc,List.take_append_of_le_length (by simpa [m] using F)];simpa using x
def Grew(A:Option Addr)(bs:List UInt8)(w:World)(e:Ending)(w':World):Prop:=
 ∃ A' C,e=.returned (slice A' bs.length C)/\w'.ownsRow 0 5 1 (slice A' bs.length C) bs.length (bs.map zaa)/\(∀ a,A'=some a->A=some a\/a.block=w.heap.size)/\Below w.heap.size w w'
theorem zln(n c k:Nat)(A:Option Addr)(bs:List UInt8)(r:n=bs.length)(w:World)(b:w.ownsRow 0 5 1 (slice A n c) n (bs.map zaa))(h:n+k<=4194304) :
 Calls Tryz.prog 84 #[slice A n c,int i64 (k:Int)] w (Grew A bs w):=by
 subst r;have g:=zbR b;have z:(bs.length:Int)+(k:Int)<=4194304:=by omega
 have G:(bs.length:Int)<=(c:Int):=by omega
 have D:(c:Int)<=9223372036854775807:=by have:=g.2;unfold maxLen at this;omega
 have y:(0:Int)<=(k:Int):=by omega
 have B:(0:Int)<=(bs.length:Int):=by omega
 have s:=zhd b;by_cases i:c<bs.length+k
 ·obtain⟨q,hq⟩:∃ q,bs.length+k=c+q:=⟨bs.length+k - c,by omega⟩;obtain⟨C,w1,o,m,j,l⟩:=znM b hq (by omega) h;have F:=fun W=>zbk (P:=Tryz.prog) (w:=W) 27 5 _ _ Tryz.underlying27 zaB A bs.length c c (Nat.le_refl _);have E:=fun W=>zbk (P:=Tryz.prog) (w:=W) 27 5 _ _ Tryz.underlying27 zaB (some ⟨w.heap.size,0,none⟩) (c+q) C bs.length m;have v:=zhd o;have p:=zhd j;have t:=zhd l;have u:(c:Int)<(bs.length:Int)+(k:Int):=by omega
  have x:(0:Int)<(k:Int) - ((c:Int) - (bs.length:Int)):=by omega
  clear b o m j l i hq h g;go_enter Tryz.func84,Tryz.ntmps84
  go_wp2_with (at_builtin;refine Lib.wpList_append_run _ rfl _ _ _ _ rfl _ _ rfl rfl _ _ v.out ?_)
  go_ret;exact⟨_,C,rfl,zaz p.out (Nat.zero_le _),fun a d=>Or.inr (by injection d with d;subst d;rfl),t.out⟩
 ·have u:(bs.length:Int)+(k:Int)<=(c:Int):=by omega
  clear b i h g;go_enter Tryz.func84,Tryz.ntmps84
  go_wp2;go_ret;exact⟨A,c,rfl,s.out,fun a d=>Or.inl d,Below.refl _ _⟩
def zaK(F:Nat->Prop)(w:World)(A:Option Addr)(xs:List Value):Prop:=xs=[]\/∃ b o,A=some ⟨b,o,none⟩/\¬ F b/\b<w.heap.size/\∀ j (h:j<xs.length),w.cell? ⟨b,o+j,none⟩=some xs[j]
theorem zaK.touch{F:Nat->Prop}{w w':World}{A:Option Addr}{xs:List Value}(h:zaK F w A xs)(ht:Touch F w w'):zaK F w' A xs:=by
 rcases h with h|⟨b,o,e,hf,hb,hc⟩
 ·exact Or.inl h
 ·exact Or.inr ⟨b,o,e,hf,Nat.lt_of_lt_of_le hb ht.size,fun j hj=>(World.cell?_of_block (ht.block b hb hf)).trans (hc j hj)⟩
theorem zaK.row{F:Nat->Prop}{w:World}{A:Option Addr}{xs:List Value}(h:zaK F w A xs):Row w w.heap.size A xs:=by
 rcases h with h|⟨b,o,e,hf,hb,hc⟩
 ·exact Or.inl h
 ·exact Or.inr ⟨b,o,e,hb,hc⟩
theorem zaK.of_low{F:Nat->Prop}{w:World}{A:Option Addr}{xs:List Value}{B:Nat}(h:Row w B A xs)(hB:B<=w.heap.size)(hF:∀ k,F k->B<=k):zaK F w A xs:=by
 rcases h with h|⟨b,o,e,hb,hc⟩
 ·exact Or.inl h
 ·exact Or.inr ⟨b,o,e,fun hf=>by have:=hF b hf;omega,by omega,hc⟩
theorem zpv{w w1:World}{F:Nat->Prop}{g n m d:Nat}{L T T':List UInt8}{A o l:Option Addr}{c c' C1:Nat}(h:DkB K w F g L T n A c o c')(r:w.grownBy w1 (Value.slice o m d).ownBlock)
 (s:w1.ownsRow 0 5 1 (slice l T'.length C1) T'.length (T'.map zaa)) (t:∀ a,l=some a->(∃ i,o=some i/\i.block=a.block)\/w.heap.size<=a.block) (y:L.length+T'.length<=4194304) :
 DkB K (w1.setCell ⟨g,1,none⟩ (slice l T'.length C1)) (fun k=>(F k\/w.heap.size<=k)/\k<w1.heap.size) g L T' n A c l C1/\Touch F w (w1.setCell ⟨g,1,none⟩ (slice l T'.length C1)):=by
 have u:∀ k,(Value.slice o m d).ownBlock=some k->∃ i,o=some i/\i.block=k:=fun k j=>by
  cases o with
  | none=>cases j
  | some a=>exact⟨a,rfl,by simpa [Value.ownBlock] using j⟩
 have hne:∀ k,(Value.slice o m d).ownBlock=some k->F k/\k≠g:=fun k j=>by
  obtain⟨i,b,rfl⟩:=u k j;exact⟨h.ft i b,zcU h.ot h.blk K.hne b⟩
 have v:Blk w1 g K.ty (dkC K [slice A L.length c,slice o T.length c',int i64 (n:Int)]):=h.blk.grown r (fun e=>(hne g e.symm).2 rfl);have E:=v.e1 (slice l T'.length C1);have j:∀ k,k≠g->(w1.setCell ⟨g,1,none⟩ (slice l T'.length C1)).heap[k]?=w1.heap[k]?:=fun k j=>Below.heap_setCell _ ⟨g,1,none⟩ _ k j;have C:(w1.setCell ⟨g,1,none⟩ (slice l T'.length C1)).heap.size=w1.heap.size:=by simp [World.setCell]
 have z:∀ a,l=some a->F a.block\/w.heap.size<=a.block:=fun a b=>by
  rcases t a b with⟨i,p,q⟩|p
  ·exact Or.inl (q▸h.ft i p)
  ·exact Or.inr p
 refine⟨⟨E,?_,?_,?_,?_,?_,?_,?_,y⟩,((Touch.refl F w).grown r (fun k j=>Or.inl (hne k j).1)).set_ (Or.inl h.fg) _⟩
 ·refine zaj h.ol fun a b=>(j _ (zcU h.ol h.blk K.hne b)).trans (r.block _ (zaJ h.ol b).2.1 fun e=>?_);obtain⟨i,p,q⟩:=u _ e.symm;exact h.ap a i b p q.symm
 ·exact zaj s fun a b=>j _ (zcU s v K.hne b)
 ·exact fun a b=>⟨Or.inl (h.fl a b),Nat.lt_of_lt_of_le (h.lt _ (h.fl a b)) r.size⟩
 ·exact fun a b=>⟨z a b,(zaJ s b).2.1⟩
 ·intro a B b p e;rcases t B p with⟨i,q,D⟩|q
  ·exact h.ap a i b q (e.trans D.symm)
  ·have:=h.lt _ (h.fl a b);omega
 ·exact⟨Or.inl h.fg,Nat.lt_of_lt_of_le (h.lt g h.fg) r.size⟩
 ·intro k x;rw [C];exact x.2
theorem zlo(F:Nat->Prop)(g n m c:Nat)(L T:List UInt8)(a:Option Addr)(rs:List zb3)(k:m=rs.length)(d:m<=maxLen)(j:∀ r∈rs,r.2.1.length<=maxLen)(w:World)(h:zcV K w F g L T n)
 (i:Row w w.heap.size a (rs.map zbN)) (o:4194304<L.length+T.length+(zbi rs).length) :
 Calls Tryz.prog 183 #[pointer (some ⟨g,0,none⟩),slice a m c] w fun e w'=>e=.returned (int i64 3)/\Below w.heap.size w w':=by
 obtain⟨A,u,s,v,h⟩:=h;have y:=zab (show w.cell? ⟨g,0,none⟩=some (slice A L.length u) from h.blk.d0);have z:=zab (show w.cell? ⟨g,1,none⟩=some (slice s T.length v) from h.blk.d1);have l:=h.mx;obtain⟨q,hq⟩:∃ q,q+L.length+T.length=4194304:=⟨4194304 - L.length - T.length,by omega⟩;have C:(L.length:Int)+(T.length:Int)<=4194304:=by omega
 have B:(0:Int)<=(L.length:Int):=by omega
 have x:(0:Int)<=(T.length:Int):=by omega
 have b:=fun p:Later w=>zjL m q w.heap.size c a rs k d j (by omega) p.world (i.below p.bel);rw [show zvG (zbi rs).length q=0 from if_neg (by omega),show zvH (zbi rs).length q=3 from if_neg (by omega),show((q:Nat):Int)=4194304 - (L.length:Int) - (T.length:Int) by omega] at b;have t:=zhd b;clear h b hq l o i j d k;go_enter Tryz.func183,Tryz.ntmps183
 go_wp2_with fail
 refine zas (by kernel_rfl) (by kernel_rfl) ?_
 repeat (go_big_quiet_step (first
  | (go_at_call 205;exact zef (t.out _))))
 refine wpQuiet_nil ?_;intro w' hw';obtain⟨p,rfl⟩:=hw';go_wp2;go_ret;exact⟨rfl,p.bel⟩
end
section
open Go.RowKit Mem
variable {K : DkK}
theorem zho(w w1:World)(a:Below w.heap.size w w1)(r:Option Nat):w.grownBy w1 r:=⟨a.os,a.tape,a.output,a.size,fun k b _=>a.block k b⟩
theorem znN(F:Nat->Prop)(g n m c:Nat)(L T:List UInt8)(A0:Option Addr)(rs:List zb3)(hm:m=rs.length)(aa:m<=maxLen)(w:World)(h:zcV K w F g L T n)
 (B:zaK F w A0 (rs.map zbN)) (af:∀ r∈rs,zaK F w r.1 (r.2.1.map zaa)) (aj:L.length+T.length+(zbi rs).length<=4194304) :
 Calls Tryz.prog 183 #[pointer (some ⟨g,0,none⟩),slice A0 m c] w (zsd K (int i64 0) F g L (T++zbi rs) n w):=by
 obtain⟨i0,aq,ao,an,ay⟩:=info_parts zaB;obtain⟨A,cL,z,v,h⟩:=h;have l0:=zab (show w.cell? ⟨g,0,none⟩=some (slice A L.length cL) from h.blk.d0);have l1:=zab (show w.cell? ⟨g,1,none⟩=some (slice z T.length v) from h.blk.d1);have am:=h.mx;have hx:∀ r∈rs,r.2.1.length<=maxLen:=fun r B=>by
  have:r.2.1.length<=(zbi rs).length:=by
   obtain⟨a,b,rfl⟩:=List.append_of_mem B;unfold zbi;rw [List.flatMap_append,List.flatMap_cons,List.length_append,List.length_append];omega
  unfold maxLen;omega
 obtain⟨q,hq⟩:∃ q,q+L.length+T.length=4194304:=⟨4194304 - L.length - T.length,by omega⟩;have aJ:(L.length:Int)+(T.length:Int)<=4194304:=by omega
 have aK:(0:Int)<=(L.length:Int):=by omega
 have aE:(0:Int)<=(T.length:Int):=by omega
 have aH:(m:Int)<=9223372036854775807:=by unfold maxLen at aa;omega
 have hC:=fun p:Later w=>zjL m q w.heap.size c A0 rs hm aa hx (by omega) p.world (B.row.below p.bel);rw [show zvG (zbi rs).length q=((zbi rs).length:Nat) from if_pos (by omega),show zvH (zbi rs).length q=0 from if_pos (by omega),show((q:Nat):Int)=4194304 - (L.length:Int) - (T.length:Int) by omega] at hC;have HC:=zhd hC;have H:=zhd h;have HR:=zhd B;have aw:=zhd af;have HM:=zhd hm;have HF:=zhd aj;obtain⟨S,Q⟩:∃ S,(zbi rs).length=S:=⟨_,rfl⟩;rw [Q] at HC;have au:=zhd Q;have aD:(S:Int)<=4194304:=by omega
 clear h hC hq am B af hx aa hm aj Q;go_enter Tryz.func183,Tryz.ntmps183
 go_wp2_with fail
 refine zas (by kernel_rfl) (by kernel_rfl) ?_
 repeat (go_big_quiet_step (first
  | (go_at_call 205;exact zef (HC.out _))))
 refine wpQuiet_nil ?_;intro w' hw';obtain⟨p,rfl⟩:=hw';have l:Hid (DkB K p.world F g L T n A cL z v):=zhd (H.out.keep p.bel.size fun k j=>p.bel.block k (H.out.lt k j));have ag:Hid (Touch F w p.world):=zhd (Touch.ofBelow p.bel);have c1:p.world.cell? ⟨g,1,none⟩=some (slice z T.length v):=l.out.blk.d1;clear HC l0 l1;go_wp2_with fail
 refine(zln T.length v S z T rfl p.world l.out.ot (by have:=HF.out;rw [au.out] at this;omega)).mono ?_;rintro e w1 ⟨A1,C1,rfl,ho,ha,Z⟩;have s:=zpv (m:=T.length) (d:=v) l.out (zho _ _ Z _) ho (fun a V=>by
  rcases ha a V with t|t
  ·exact Or.inl ⟨a,t,rfl⟩
  ·exact Or.inr (by omega)) l.out.mx
 have u:Blk w1 g K.ty _:=l.out.blk.below Z (l.out.lt g l.out.fg);have d1:w1.cell? ⟨g,1,none⟩=some (slice z T.length v):=u.d1;have z1:=u.frozen 1;have aB:Hid (∃ F',(∀ k,F' k->F k\/w.heap.size<=k)/\zcV K (w1.setCell ⟨g,1,none⟩ (slice A1 T.length C1)) F' g L T n/\Touch F w (w1.setCell ⟨g,1,none⟩ (slice A1 T.length C1))):=zhd ⟨_,fun k j=>by
  rcases j.1 with h|h
  ·exact Or.inl h
  ·exact Or.inr (Nat.le_trans p.bel.size h),⟨_,_,_,_,s.1⟩,ag.out.trans s.2 (fun k j=>Or.inl j)⟩
 clear ho ha Z s u l ag c1;go_wp2_with fail
 go_loopw [42] (fun i wr=>∃ k:Nat,k<=m/\i=int i64 k/\Hid (∃ F',(∀ k,F' k->F k\/w.heap.size<=k)/\zcV K wr F' g L (T++zbi (rs.take k)) n/\Touch F w wr)) (fun i _=>m - (intOf i).toNat)
 case atStart=>exact⟨0,by omega,rfl,zhd (by simpa [zbi] using aB.out)⟩
 case round=>
  obtain⟨k,j,rfl,J⟩:=hrel;by_cases ax:k<m
  ·have M:k<rs.length:=by rw [<-HM.out];exact ax
   obtain⟨F',al,x,O⟩:=J.out;obtain⟨A2,c2,D,c3,x⟩:=x;obtain⟨b,o,rfl,_,hc⟩:=(HR.out.touch O).row.open_ (by simp;omega);have ae:wr.cell? ⟨b,o+k,none⟩=some (zbN rs[k]):=(hc k (by simpa using M)).trans (congrArg some (List.getElem_map (f:=zbN) (h:=by simpa using M)));have G:=((aw.out rs[k] (List.getElem_mem M)).touch O).row;obtain⟨⟨A4,y,c4⟩,ab⟩:∃ y,rs[k]=y:=⟨_,rfl⟩;rw [ab] at ae G;unfold zbN at ae;simp only at ae G;have E:=zdV rs k M;rw [ab] at E;have U:=zic rs (k+1);rw [E,List.length_append] at U;simp only at U;obtain⟨Y,N⟩:∃ Y,T++zbi (rs.take k)=Y:=⟨_,rfl⟩;have HY:Hid (T++zbi (rs.take (k+1))=Y++y):=zhd (by rw [E,<-N,List.append_assoc]);have W:Hid (L.length+Y.length+y.length<=4194304):=zhd (by have:=HF.out;rw [<-N,List.length_append];omega);rw [N] at x;have C:=zhd x;have d1:wr.cell? ⟨g,1,none⟩=some (slice D Y.length c3):=x.blk.d1;have ah:=zhd O;have az:=zhd G;have ai:=zhd al;have aG:(0:Int)<=(k:Int):=by omega
   have aI:(k:Int)<(m:Int):=by omega
   clear hc ab E U G N x O al J;go_wp2_with (at_builtin;refine zan _ rfl _ _ 27 rfl 0 5 i0 (int .u8 0) 1 Tryz.underlying27 aq ao an ay rfl _ _ _ rfl C.out.ot wr.heap.size _ y.length c4 (y.map zaa) rfl (by simp) az.out (zaH y) (by have:=W.out;unfold maxLen;omega) (by have:=W.out;omega) (Nat.zero_le _) ?_)
   intro v' I R X ak;obtain⟨A5,c5,rfl,_,_⟩:=zat R;have s:=zpv (T':=Y++y) (C1:=c5) C.out X (by rw [List.map_append,List.length_append];exact R) (fun a V=>by
    subst V;rcases ak with t|t
    ·cases D with
     | none=>cases t
     | some a3=>exact Or.inl ⟨a3,rfl,by simpa [Value.ownBlock] using t.symm⟩
    ·exact Or.inr (by simp [Value.ownBlock] at t;omega)) (by rw [List.length_append];have:=W.out;omega)
   have u:Blk I g K.ty _:=C.out.blk.grown X (fun e=>by
    cases D with
    | none=>cases e
    | some a3=>
     have:a3.block=g:=by simpa [Value.ownBlock] using e.symm
     exact zcU C.out.ot C.out.blk K.hne rfl this)
   have f1:I.cell? ⟨g,1,none⟩=some (slice D Y.length c3):=u.d1;have y1:=u.frozen 1;rw [List.length_append] at s;have aA:Hid (∃ F',(∀ k,F' k->F k\/w.heap.size<=k)/\zcV K (I.setCell ⟨g,1,none⟩ (slice A5 (Y.length+y.length) c5)) F' g L (T++zbi (rs.take (k+1))) n/\Touch F w (I.setCell ⟨g,1,none⟩ (slice A5 (Y.length+y.length) c5))):=zhd (by
    rw [HY.out];exact⟨_,fun k j=>by
     rcases j.1 with h|h
     ·exact ai.out k h
     ·exact Or.inr (Nat.le_trans ah.out.size h),⟨_,_,_,_,s.1⟩,ah.out.trans s.2 (fun k j=>ai.out k j)⟩)
   clear R X ak s u;go_wp2;go_roundw
   case rel=>exact⟨k+1,by omega,by go_num,aA⟩
   case measure=>simp [intOf];omega
  ·obtain rfl:k=m:=by omega
   have ht:rs.take k=rs:=List.take_of_length_le (by rw [<-HM.out];omega);rw [ht] at J;go_wp2;go_ret;exact⟨rfl,J.out⟩
end
end Go.Proofs.YtahnjkkgojfdmaaGreatDoor
