import Derived.Test.YtahnjkkgojfdmaaGreatDoorMsZ
import Derived.Laws.EntriesVeiled
import Derived.Deep.MidRow
import Derived.Laws.Tables
import Derived.WideShapes
import Derived.Deep.Slices
import Derived.Deep.Fields
import Derived.BigFrame
import Derived.LaidMore
import Derived.MakeChecks
import Derived.FnData
set_option maxRecDepth 100000
set_option maxHeartbeats 16000000
set_option linter.unusedVariables false
namespace Go.Proofs.YtahnjkkgojfdmaaGreatDoor
open Go.Obj(cells)
open Go.IntKind(i64)
open Go.Value(int slice)
section
open Go.RowKit Mem Be Rg
theorem zvd{w:World}{g:Nat}{t:TypeId}{c0 c1 c2 c3 c4 c5 c6 c7 c8 c9 c10 c11 c12 c13 c14 c15 c16:Value}(h:Blk w g t #[c0,c1,c2,c3,c4,c5,c6,c7,c8,c9,c10,c11,c12,c13,c14,c15,c16])(v0 v1 v2 v3 v4 v5 a b c v9 d v11 i j k l m:Value) :
 Blk (((((((((((((((((w.setCell ⟨g,0,none⟩ v0).setCell ⟨g,1,none⟩ v1).setCell ⟨g,2,none⟩ v2).setCell ⟨g,3,none⟩ v3).setCell ⟨g,4,none⟩ v4).setCell ⟨g,5,none⟩ v5).setCell ⟨g,6,none⟩ a).setCell ⟨g,7,none⟩ b).setCell ⟨g,8,none⟩ c).setCell ⟨g,9,none⟩ v9).setCell ⟨g,10,none⟩ d).setCell ⟨g,11,none⟩ v11).setCell ⟨g,12,none⟩ i).setCell ⟨g,13,none⟩ j).setCell ⟨g,14,none⟩ k).setCell ⟨g,15,none⟩ l).setCell ⟨g,16,none⟩ m) g t #[v0,v1,v2,v3,v4,v5,a,b,c,v9,d,v11,i,j,k,l,m]:=by
 replace h:Blk (w.setCell ⟨g,0,none⟩ v0) g t #[v0,c1,c2,c3,c4,c5,c6,c7,c8,c9,c10,c11,c12,c13,c14,c15,c16]:=by have:=h.set_ 0 v0;simpa only [List.setIfInBounds_toArray,List.set_cons_succ,List.set_cons_zero] using this
 generalize (w.setCell ⟨g,0,none⟩ v0)=w0 at h ⊢
 replace h:Blk (w0.setCell ⟨g,1,none⟩ v1) g t #[v0,v1,c2,c3,c4,c5,c6,c7,c8,c9,c10,c11,c12,c13,c14,c15,c16]:=by have:=h.set_ 1 v1;simpa only [List.setIfInBounds_toArray,List.set_cons_succ,List.set_cons_zero] using this
 generalize (w0.setCell ⟨g,1,none⟩ v1)=w1 at h ⊢
 replace h:Blk (w1.setCell ⟨g,2,none⟩ v2) g t #[v0,v1,v2,c3,c4,c5,c6,c7,c8,c9,c10,c11,c12,c13,c14,c15,c16]:=by have:=h.set_ 2 v2;simpa only [List.setIfInBounds_toArray,List.set_cons_succ,List.set_cons_zero] using this
 generalize (w1.setCell ⟨g,2,none⟩ v2)=w2 at h ⊢
 replace h:Blk (w2.setCell ⟨g,3,none⟩ v3) g t #[v0,v1,v2,v3,c4,c5,c6,c7,c8,c9,c10,c11,c12,c13,c14,c15,c16]:=by have:=h.set_ 3 v3;simpa only [List.setIfInBounds_toArray,List.set_cons_succ,List.set_cons_zero] using this
 generalize (w2.setCell ⟨g,3,none⟩ v3)=w3 at h ⊢
 replace h:Blk (w3.setCell ⟨g,4,none⟩ v4) g t #[v0,v1,v2,v3,v4,c5,c6,c7,c8,c9,c10,c11,c12,c13,c14,c15,c16]:=by have:=h.set_ 4 v4;simpa only [List.setIfInBounds_toArray,List.set_cons_succ,List.set_cons_zero] using this
 generalize (w3.setCell ⟨g,4,none⟩ v4)=w4 at h ⊢
 replace h:Blk (w4.setCell ⟨g,5,none⟩ v5) g t #[v0,v1,v2,v3,v4,v5,c6,c7,c8,c9,c10,c11,c12,c13,c14,c15,c16]:=by have:=h.set_ 5 v5;simpa only [List.setIfInBounds_toArray,List.set_cons_succ,List.set_cons_zero] using this
 generalize (w4.setCell ⟨g,5,none⟩ v5)=w5 at h ⊢
 replace h:Blk (w5.setCell ⟨g,6,none⟩ a) g t #[v0,v1,v2,v3,v4,v5,a,c7,c8,c9,c10,c11,c12,c13,c14,c15,c16]:=by have:=h.set_ 6 a;simpa only [List.setIfInBounds_toArray,List.set_cons_succ,List.set_cons_zero] using this
 generalize (w5.setCell ⟨g,6,none⟩ a)=w6 at h ⊢
 replace h:Blk (w6.setCell ⟨g,7,none⟩ b) g t #[v0,v1,v2,v3,v4,v5,a,b,c8,c9,c10,c11,c12,c13,c14,c15,c16]:=by have:=h.set_ 7 b;simpa only [List.setIfInBounds_toArray,List.set_cons_succ,List.set_cons_zero] using this
 generalize (w6.setCell ⟨g,7,none⟩ b)=w7 at h ⊢
 replace h:Blk (w7.setCell ⟨g,8,none⟩ c) g t #[v0,v1,v2,v3,v4,v5,a,b,c,c9,c10,c11,c12,c13,c14,c15,c16]:=by have:=h.set_ 8 c;simpa only [List.setIfInBounds_toArray,List.set_cons_succ,List.set_cons_zero] using this
 generalize (w7.setCell ⟨g,8,none⟩ c)=w8 at h ⊢
 replace h:Blk (w8.setCell ⟨g,9,none⟩ v9) g t #[v0,v1,v2,v3,v4,v5,a,b,c,v9,c10,c11,c12,c13,c14,c15,c16]:=by have:=h.set_ 9 v9;simpa only [List.setIfInBounds_toArray,List.set_cons_succ,List.set_cons_zero] using this
 generalize (w8.setCell ⟨g,9,none⟩ v9)=w9 at h ⊢
 replace h:Blk (w9.setCell ⟨g,10,none⟩ d) g t #[v0,v1,v2,v3,v4,v5,a,b,c,v9,d,c11,c12,c13,c14,c15,c16]:=by have:=h.set_ 10 d;simpa only [List.setIfInBounds_toArray,List.set_cons_succ,List.set_cons_zero] using this
 generalize (w9.setCell ⟨g,10,none⟩ d)=w10 at h ⊢
 replace h:Blk (w10.setCell ⟨g,11,none⟩ v11) g t #[v0,v1,v2,v3,v4,v5,a,b,c,v9,d,v11,c12,c13,c14,c15,c16]:=by have:=h.set_ 11 v11;simpa only [List.setIfInBounds_toArray,List.set_cons_succ,List.set_cons_zero] using this
 generalize (w10.setCell ⟨g,11,none⟩ v11)=w11 at h ⊢
 replace h:Blk (w11.setCell ⟨g,12,none⟩ i) g t #[v0,v1,v2,v3,v4,v5,a,b,c,v9,d,v11,i,c13,c14,c15,c16]:=by have:=h.set_ 12 i;simpa only [List.setIfInBounds_toArray,List.set_cons_succ,List.set_cons_zero] using this
 generalize (w11.setCell ⟨g,12,none⟩ i)=w12 at h ⊢
 replace h:Blk (w12.setCell ⟨g,13,none⟩ j) g t #[v0,v1,v2,v3,v4,v5,a,b,c,v9,d,v11,i,j,c14,c15,c16]:=by have:=h.set_ 13 j;simpa only [List.setIfInBounds_toArray,List.set_cons_succ,List.set_cons_zero] using this
 generalize (w12.setCell ⟨g,13,none⟩ j)=w13 at h ⊢
 replace h:Blk (w13.setCell ⟨g,14,none⟩ k) g t #[v0,v1,v2,v3,v4,v5,a,b,c,v9,d,v11,i,j,k,c15,c16]:=by have:=h.set_ 14 k;simpa only [List.setIfInBounds_toArray,List.set_cons_succ,List.set_cons_zero] using this
 generalize (w13.setCell ⟨g,14,none⟩ k)=w14 at h ⊢
 replace h:Blk (w14.setCell ⟨g,15,none⟩ l) g t #[v0,v1,v2,v3,v4,v5,a,b,c,v9,d,v11,i,j,k,l,c16]:=by have:=h.set_ 15 l;simpa only [List.setIfInBounds_toArray,List.set_cons_succ,List.set_cons_zero] using this
 generalize (w14.setCell ⟨g,15,none⟩ l)=w15 at h ⊢
 replace h:Blk (w15.setCell ⟨g,16,none⟩ m) g t #[v0,v1,v2,v3,v4,v5,a,b,c,v9,d,v11,i,j,k,l,m]:=by have:=h.set_ 16 m;simpa only [List.setIfInBounds_toArray,List.set_cons_succ,List.set_cons_zero] using this
 generalize (w15.setCell ⟨g,16,none⟩ m)=w16 at h ⊢
 exact h
theorem zru{j w:World}{B g:Nat}(h:Below B j w)(a:B<=g)(v0 v1 v2 v3 v4 v5 l k b v9 p v11 c i m d o:Value):Below B j ((((((((((((((((((w.setCell ⟨g,0,none⟩ v0).setCell ⟨g,1,none⟩ v1).setCell ⟨g,2,none⟩ v2).setCell ⟨g,3,none⟩ v3).setCell ⟨g,4,none⟩ v4).setCell ⟨g,5,none⟩ v5).setCell ⟨g,6,none⟩ l).setCell ⟨g,7,none⟩ k).setCell ⟨g,8,none⟩ b).setCell ⟨g,9,none⟩ v9).setCell ⟨g,10,none⟩ p).setCell ⟨g,11,none⟩ v11).setCell ⟨g,12,none⟩ c).setCell ⟨g,13,none⟩ i).setCell ⟨g,14,none⟩ m).setCell ⟨g,15,none⟩ d).setCell ⟨g,16,none⟩ o)):=
 zad (zad (zad (zad (zad (zad (zad (zad (zad (zad (zad (zad (zad (zad (zad (zad (zad h a 0 v0) a 1 v1) a 2 v2) a 3 v3) a 4 v4) a 5 v5) a 6 l) a 7 k) a 8 b) a 9 v9) a 10 p) a 11 v11) a 12 c) a 13 i) a 14 m) a 15 d) a 16 o
def zeW(k:Int)(key:ByteArray):ByteArray:=if zh5 k=true then key else⟨#[]⟩
def zou(k fr dst ep op:Int)(key:ByteArray)(w:World)(e:Ending)(w':World):Prop:=e=.returned (.agg #[int i64 k,int i64 dst,int i64 fr,int i64 ep,int i64 op,int i64 0,.bool false,.string (zeW k key),int i64 0,int i64 0,int i64 0,.bool false,slice none 0 0,slice none 0 0,slice none 0 0,int i64 0,int i64 0])/\Below w.heap.size w w'
end
section
open Go.RowKit Mem Be Rg
def zwu(w:World)(g:Nat)(bs:List UInt8):Prop:=∃ A c,Blk w g 27 #[slice A bs.length c]/\w.ownsRow (g+1) 5 1 (slice A bs.length c) bs.length (bs.map zaa)
structure OutTo (g:Nat) (w w':World):Prop where
 low:Below g w w'
 typ:∀ k t cs,g<k->t≠5->Blk w k t cs->Blk w' k t cs
theorem OutTo.refl(g:Nat)(w:World):OutTo g w w:=⟨Below.refl _ _,fun _ _ _ _ _ h=>h⟩
theorem OutTo.trans{g:Nat}{w w1 w2:World}(h:OutTo g w w1)(h':OutTo g w1 w2):OutTo g w w2:=⟨h.low.trans h'.low,fun k t cs hk ht hb=>h'.typ k t cs hk ht (h.typ k t cs hk ht hb)⟩
theorem zwu.below{w w1:World}{g:Nat}{bs:List UInt8}(h:zwu w g bs)(hb:Below w.heap.size w w1):zwu w1 g bs:=by
 obtain⟨A,c,h1,h2⟩:=h;exact⟨A,c,h1.below hb h1.lt,za5 h2 hb⟩
theorem zwu.lt{w:World}{g:Nat}{bs:List UInt8}(h:zwu w g bs):g<w.heap.size:=by
 obtain⟨A,c,h1,h2⟩:=h;exact h1.lt
end
section
open Go.RowKit Mem Be Rg
structure AppTo (g:Nat) (w w':World):Prop where
 outs:OutTo g w w'
 sub:Below (g+1) w w'
theorem AppTo.refl(g:Nat)(w:World):AppTo g w w:=⟨OutTo.refl _ _,Below.refl _ _⟩
theorem AppTo.trans{g:Nat}{w w1 w2:World}(h:AppTo g w w1)(h':AppTo g w1 w2):AppTo g w w2:=⟨h.outs.trans h'.outs,h.sub.trans h'.sub⟩
end
section
open Go.RowKit Mem Be Rg
end
section
open Go.RowKit Mem Be Rg
end
section
open Go.RowKit Mem Be Rg
theorem gr17(w:World)(p:Nat)(v0 v1 v2 v3 v4 v5 h g a v9 k v11 b d i c j:Value):w.grownBy (((((((((((((((((w.setCell ⟨p,0,none⟩ (v0)).setCell ⟨p,1,none⟩ (v1)).setCell ⟨p,2,none⟩ (v2)).setCell ⟨p,3,none⟩ (v3)).setCell ⟨p,4,none⟩ (v4)).setCell ⟨p,5,none⟩ (v5)).setCell ⟨p,6,none⟩ (h)).setCell ⟨p,7,none⟩ (g)).setCell ⟨p,8,none⟩ (a)).setCell ⟨p,9,none⟩ (v9)).setCell ⟨p,10,none⟩ (k)).setCell ⟨p,11,none⟩ (v11)).setCell ⟨p,12,none⟩ (b)).setCell ⟨p,13,none⟩ (d)).setCell ⟨p,14,none⟩ (i)).setCell ⟨p,15,none⟩ (c)).setCell ⟨p,16,none⟩ (j)) (some p):=
 zaf (zaf (zaf (zaf (zaf (zaf (zaf (zaf (zaf (zaf (zaf (zaf (zaf (zaf (zaf (zaf (zap w p 0 v0) (zap _ p 1 v1)) (zap _ p 2 v2)) (zap _ p 3 v3)) (zap _ p 4 v4)) (zap _ p 5 v5)) (zap _ p 6 h)) (zap _ p 7 g)) (zap _ p 8 a)) (zap _ p 9 v9)) (zap _ p 10 k)) (zap _ p 11 v11)) (zap _ p 12 b)) (zap _ p 13 d)) (zap _ p 14 i)) (zap _ p 15 c)) (zap _ p 16 j)
def SpR(g:Nat)(va:Nat->Int):Nat->Value->Prop
 | 0,v=>v=.pointer (some ⟨g,0,none⟩)
 | 2,v=>v=.pointer (some ⟨g,0,none⟩)
 | 4,v=>v=.pointer (some ⟨g,0,none⟩)
 | 6,v=>v=.pointer (some ⟨g,0,none⟩)
 | 8,v=>v=.pointer (some ⟨g,0,none⟩)
 | 1,v=>v=int i64 (va 0)
 | 3,v=>v=int i64 (va 1)
 | 5,v=>v=int i64 (va 2)
 | 7,v=>v=int i64 (va 3)
 | 9,v=>v=int i64 (va 4)
 | 10,v=>v=.agg #[int i64 (va 0),int i64 (va 1),int i64 (va 2),int i64 (va 3),int i64 (va 4),int i64 0,.bool false,.string ⟨#[]⟩,int i64 0,int i64 0,int i64 0,.bool false,slice none 0 0,slice none 0 0,slice none 0 0,int i64 0,int i64 0]
 | _,_=>True
def zwv(S:Nat->Bool)(n:Nat):Prop:=n<=5/\S 1=decide (0<n)/\S 3=decide (1<n)/\S 5=decide (2<n)/\S 7=decide (3<n)/\S 9=decide (4<n)
structure JR (W0:World) (g q:Nat) (ss:Nat->List UInt8×Int) (va:Nat->Int) (S:Nat->Bool) (vs:Nat->Value) (w:World):Prop where
 lg:g<W0.heap.size
 lq:q<W0.heap.size
 nq:g<q
 bel:Below g W0 w
 ptr:Blk w q 268 #[.pointer (some ⟨g,0,none⟩)]
 cnt:∃ n,zwv S n/\Rd w g (ss n).1 (ss n).2
 sp:∀ i,S i=true->SpR g va i (vs i)
 v11:S 11=true->∃ p,vs 11=.pointer (some ⟨p,0,none⟩)/\W0.heap.size<=p/\(S 12=false->Blk w p 51 #[int i64 0,int i64 0,int i64 0,int i64 0,int i64 0,int i64 0,.bool false,.string ⟨#[]⟩,int i64 0,int i64 0,int i64 0,.bool false,slice none 0 0,slice none 0 0,slice none 0 0,int i64 0,int i64 0])/\(S 12=true->Blk w p 51 #[int i64 (va 0),int i64 (va 1),int i64 (va 2),int i64 (va 3),int i64 (va 4),int i64 0,.bool false,.string ⟨#[]⟩,int i64 0,int i64 0,int i64 0,.bool false,slice none 0 0,slice none 0 0,slice none 0 0,int i64 0,int i64 0])
 c12:S 12=true->S 11=true
section
open RelyJ
variable {W0 w w' : World} {g q : Nat} {ss : Nat → List UInt8 × Int} {va : Nat → Int} {S : Nat → Bool} {vs : Nat → Value}
theorem ztp(h:∀ i,S i=true->SpR g va i (vs i))(i:Nat)(v:Value)(b:SpR g va i v):∀ k,up S i true k=true->SpR g va k (up vs i v k):=fun k a=>by
 by_cases e:k=i
 ·subst e;rw [up_same];exact b
 ·rw [zbh _ _ e] at a ⊢;exact h k a
theorem JR.load(h:JR W0 g q ss va S vs w)(i:Nat)(v:Value)(hi:i≠1/\i≠3/\i≠5/\i≠7/\i≠9/\i≠11/\i≠12)(hv:SpR g va i v):JR W0 g q ss va (up S i true) (up vs i v) w:=by
 obtain⟨i1,i3,i5,i7,i9,i11,i12⟩:=hi;obtain⟨n,hn,hr⟩:=h.cnt;refine⟨h.lg,h.lq,h.nq,h.bel,h.ptr,⟨n,?_,hr⟩,ztp h.sp i v hv,?_,?_⟩
 ·unfold zwv at hn ⊢;rw [zbh _ _ (Ne.symm i1),zbh _ _ (Ne.symm i3),zbh _ _ (Ne.symm i5),zbh _ _ (Ne.symm i7),zbh _ _ (Ne.symm i9)];exact hn
 ·rw [zbh _ _ (Ne.symm i11),zbh _ _ (Ne.symm i11),zbh _ _ (Ne.symm i12)];exact h.v11
 ·rw [zbh _ _ (Ne.symm i11),zbh _ _ (Ne.symm i12)];exact h.c12
theorem JR.call(h:JR W0 g q ss va S vs w)(i n:Nat)(v:Value)(hi:i≠11/\i≠12)(hv:SpR g va i v)(hc:zwv (up S i true) n)(hr:Rd w' g (ss n).1 (ss n).2)(hg:w.grownBy w' (some g)):JR W0 g q ss va (up S i true) (up vs i v) w':=by
 obtain⟨i11,i12⟩:=hi;obtain⟨_,_,hr0⟩:=h.cnt;have hlt:=rd_lt hr0;refine⟨h.lg,h.lq,h.nq,zcT h.bel hg (Nat.le_of_lt hlt) (Nat.le_refl _),h.ptr.grown hg (fun e=>by injection e with e;have:=h.nq;omega),⟨n,hc,hr⟩,ztp h.sp i v hv,?_,?_⟩
 ·rw [zbh _ _ (Ne.symm i11),zbh _ _ (Ne.symm i11),zbh _ _ (Ne.symm i12)];intro h11;obtain⟨p,h1,h2,h3,h4⟩:=h.v11 h11;have hne:some p≠some g:=fun e=>by injection e with e;have:=h.lg;omega
  exact⟨p,h1,h2,fun k=>(h3 k).grown hg (fun e=>hne (by first|exact e|exact e.symm)),fun k=>(h4 k).grown hg (fun e=>hne (by first|exact e|exact e.symm))⟩
 ·rw [zbh _ _ (Ne.symm i11),zbh _ _ (Ne.symm i12)];exact h.c12
theorem JR.alloc(h:JR W0 g q ss va S vs w)(h12:S 12=false):JR W0 g q ss va (up S 11 true) (up vs 11 (.pointer (some ⟨w.heap.size,0,none⟩))) (w.alloc (cells #[int i64 0,int i64 0,int i64 0,int i64 0,int i64 0,int i64 0,.bool false,.string ⟨#[]⟩,int i64 0,int i64 0,int i64 0,.bool false,slice none 0 0,slice none 0 0,slice none 0 0,int i64 0,int i64 0] 51)):=by
 obtain⟨n,hn,hr⟩:=h.cnt;have hsz:W0.heap.size<=w.heap.size:=h.bel.size;refine⟨h.lg,h.lq,h.nq,h.bel.alloc (by have:=h.lg;omega) _,h.ptr.alloc _,⟨n,?_,zbO hr _⟩,ztp h.sp 11 _ trivial,?_,?_⟩
 ·unfold zwv at hn ⊢;rw [zbh _ _ (by omega),zbh _ _ (by omega),zbh _ _ (by omega),zbh _ _ (by omega),zbh _ _ (by omega)];exact hn
 ·intro _;rw [up_same,zbh _ _ (by omega)];exact⟨_,rfl,hsz,fun _=>Blk.new _ _ _,fun e=>(by rw [h12] at e;cases e)⟩
 ·intro _;exact up_same _ _ _
theorem JR.store{p:Nat}(h:JR W0 g q ss va S vs w)(h11:S 11=true)(hp:vs 11=.pointer (some ⟨p,0,none⟩))(h0:W0.heap.size<=p)(hz:Blk w p 51 #[int i64 0,int i64 0,int i64 0,int i64 0,int i64 0,int i64 0,.bool false,.string ⟨#[]⟩,int i64 0,int i64 0,int i64 0,.bool false,slice none 0 0,slice none 0 0,slice none 0 0,int i64 0,int i64 0]) :
 JR W0 g q ss va (up S 12 true) (up vs 12 undef) (((((((((((((((((w.setCell ⟨p,0,none⟩ (int i64 (va 0))).setCell ⟨p,1,none⟩ (int i64 (va 1))).setCell ⟨p,2,none⟩ (int i64 (va 2))).setCell ⟨p,3,none⟩ (int i64 (va 3))).setCell ⟨p,4,none⟩ (int i64 (va 4))).setCell ⟨p,5,none⟩ (int i64 0)).setCell ⟨p,6,none⟩ (.bool false)).setCell ⟨p,7,none⟩ (.string ⟨#[]⟩)).setCell ⟨p,8,none⟩ (int i64 0)).setCell ⟨p,9,none⟩ (int i64 0)).setCell ⟨p,10,none⟩ (int i64 0)).setCell ⟨p,11,none⟩ (.bool false)).setCell ⟨p,12,none⟩ (slice none 0 0)).setCell ⟨p,13,none⟩ (slice none 0 0)).setCell ⟨p,14,none⟩ (slice none 0 0)).setCell ⟨p,15,none⟩ (int i64 0)).setCell ⟨p,16,none⟩ (int i64 0)):=by
 obtain⟨n,hn,hr⟩:=h.cnt;have hg:=gr17 w p (int i64 (va 0)) (int i64 (va 1)) (int i64 (va 2)) (int i64 (va 3)) (int i64 (va 4)) (int i64 0) (.bool false) (.string ⟨#[]⟩) (int i64 0) (int i64 0) (int i64 0) (.bool false) (slice none 0 0) (slice none 0 0) (slice none 0 0) (int i64 0) (int i64 0);have hk:=zvd hz (int i64 (va 0)) (int i64 (va 1)) (int i64 (va 2)) (int i64 (va 3)) (int i64 (va 4)) (int i64 0) (.bool false) (.string ⟨#[]⟩) (int i64 0) (int i64 0) (int i64 0) (.bool false) (slice none 0 0) (slice none 0 0) (slice none 0 0) (int i64 0) (int i64 0);have hlg:=h.lg;have hlq:=h.lq;have hlt:=rd_lt hr;refine⟨hlg,hlq,h.nq,zcT h.bel hg (Nat.le_of_lt hlt) (by omega),h.ptr.grown hg (fun e=>by injection e with e;omega),⟨n,?_,zrX hr hg (by omega)⟩,ztp h.sp 12 _ trivial,?_,?_⟩
 ·unfold zwv at hn ⊢;rw [zbh _ _ (by omega),zbh _ _ (by omega),zbh _ _ (by omega),zbh _ _ (by omega),zbh _ _ (by omega)];exact hn
 ·intro _;rw [zbh _ _ (by omega),up_same];exact⟨p,hp,h0,fun e=>(by cases e),fun _=>hk⟩
 ·intro _;rw [zbh _ _ (by omega)];exact h11
end
end
section
open Go.RowKit Mem Be Rg
theorem zkH{w:World}{g:Nat}{t:TypeId}{a:Array Value}(h:Blk w g t a):w.there g 0 a.size:=fun j b=>by
 rw [Nat.zero_add];exact⟨by rw [h.cell j,Array.getElem?_eq_getElem b];rfl,h.frozen j⟩
end
section
open Go.RowKit Mem Be Rg
theorem zkI(k:Int)(b:zh5 k=true)(kind fr dst ep op n:Int)(flag:Bool)(key:ByteArray)(s u o:Int)(has:Bool)(A:Option Addr)(m c:Nat)(lA:Option Addr)(ln lc:Nat)(rA:Option Addr)(rn rc:Nat)(each keep:Int)(w:World)(h:KT w) :
 Calls Tryz.prog 51 #[.agg (zwH kind fr dst ep op n flag key s u o has A m c lA ln lc rA rn rc each keep),int i64 k] w (zou k fr dst ep op key w):=by
 have q:Below w.heap.size w ((((w.alloc (cells #[int i64 kind,int i64 fr,int i64 dst,int i64 ep,int i64 op,int i64 n,.bool flag,.string key,int i64 s,int i64 u,int i64 o,.bool has,slice A m c,slice lA ln lc,slice rA rn rc,int i64 each,int i64 keep] 51))).alloc (cells #[int i64 0,int i64 0,int i64 0,int i64 0,int i64 0,int i64 0,.bool false,.string ⟨#[]⟩,int i64 0,int i64 0,int i64 0,.bool false,slice none 0 0,slice none 0 0,slice none 0 0,int i64 0,int i64 0] 51)).alloc (cells #[int i64 k,int i64 dst,int i64 fr,int i64 ep,int i64 op,int i64 0,.bool false,.string ⟨#[]⟩,int i64 0,int i64 0,int i64 0,.bool false,slice none 0 0,slice none 0 0,slice none 0 0,int i64 0,int i64 0] 51)):=((zbl).alloc (by simp) _).alloc (by simp;omega) _;have x:=Blk.new w 51 #[int i64 kind,int i64 fr,int i64 dst,int i64 ep,int i64 op,int i64 n,.bool flag,.string key,int i64 s,int i64 u,int i64 o,.bool has,slice A m c,slice lA ln lc,slice rA rn rc,int i64 each,int i64 keep];have g:=Blk.new (w.alloc (cells #[int i64 kind,int i64 fr,int i64 dst,int i64 ep,int i64 op,int i64 n,.bool flag,.string key,int i64 s,int i64 u,int i64 o,.bool has,slice A m c,slice lA ln lc,slice rA rn rc,int i64 each,int i64 keep] 51)) 51 #[int i64 0,int i64 0,int i64 0,int i64 0,int i64 0,int i64 0,.bool false,.string ⟨#[]⟩,int i64 0,int i64 0,int i64 0,.bool false,slice none 0 0,slice none 0 0,slice none 0 0,int i64 0,int i64 0];have j:=Blk.new ((w.alloc (cells #[int i64 kind,int i64 fr,int i64 dst,int i64 ep,int i64 op,int i64 n,.bool flag,.string key,int i64 s,int i64 u,int i64 o,.bool has,slice A m c,slice lA ln lc,slice rA rn rc,int i64 each,int i64 keep] 51)).alloc (cells #[int i64 0,int i64 0,int i64 0,int i64 0,int i64 0,int i64 0,.bool false,.string ⟨#[]⟩,int i64 0,int i64 0,int i64 0,.bool false,slice none 0 0,slice none 0 0,slice none 0 0,int i64 0,int i64 0] 51)) 51 #[int i64 k,int i64 dst,int i64 fr,int i64 ep,int i64 op,int i64 0,.bool false,.string ⟨#[]⟩,int i64 0,int i64 0,int i64 0,.bool false,slice none 0 0,slice none 0 0,slice none 0 0,int i64 0,int i64 0];rw [World.size_alloc] at g;rw [World.size_alloc,World.size_alloc] at j;have r:=zhd ((x.alloc (cells #[int i64 0,int i64 0,int i64 0,int i64 0,int i64 0,int i64 0,.bool false,.string ⟨#[]⟩,int i64 0,int i64 0,int i64 0,.bool false,slice none 0 0,slice none 0 0,slice none 0 0,int i64 0,int i64 0] 51)).alloc (cells #[int i64 k,int i64 dst,int i64 fr,int i64 ep,int i64 op,int i64 0,.bool false,.string ⟨#[]⟩,int i64 0,int i64 0,int i64 0,.bool false,slice none 0 0,slice none 0 0,slice none 0 0,int i64 0,int i64 0] 51));have t:=zhd (g.alloc (cells #[int i64 k,int i64 dst,int i64 fr,int i64 ep,int i64 op,int i64 0,.bool false,.string ⟨#[]⟩,int i64 0,int i64 0,int i64 0,.bool false,slice none 0 0,slice none 0 0,slice none 0 0,int i64 0,int i64 0] 51));have y:=zhd j;have d:=zhd q;have E:=zhd b;have i:=zhd (zfP k _ (h.below d.out));unfold zhv zvn b5 at i;clear h;rw [b] at i;clear b;clear x g j q;go_enter Tryz.func51,Tryz.ntmps51
 go_wp2_with fail
 refine i.out.mono ?_;rintro e w1 ⟨rfl,a⟩;have J:=zhd (d.out.trans (a.mono d.out.size));have q1:=r.out.below a r.out.lt;have l:=t.out.below a t.out.lt;have q3:=y.out.below a y.out.lt;have M:=q1.cell 7;have Q:w.heap.size+1+1<w1.heap.size:=q3.lt;have C:=zhd l;have L:=q3.cell 7;have O:=q3.frozen 7;have z:Hid (Blk (w1.setCell ⟨w.heap.size+1+1,7,none⟩ (.string key)) (w.heap.size+1+1) 51 #[int i64 k,int i64 dst,int i64 fr,int i64 ep,int i64 op,int i64 0,.bool false,.string key,int i64 0,int i64 0,int i64 0,.bool false,slice none 0 0,slice none 0 0,slice none 0 0,int i64 0,int i64 0]):=zhd (by have:=q3.set_ 7 (.string key);simpa only [List.setIfInBounds_toArray,List.set_cons_succ,List.set_cons_zero] using this);have G:=zhd (zkH (l.far (p:=⟨w.heap.size+1+1,7,none⟩) (by show w.heap.size+1≠w.heap.size+1+1;omega) (.string key)));clear a q1 l q3;have D:Hid (zeW k key=key):=zhd (if_pos E.out);have N:=fun W=>zrb (zfO k) (zf2 k) true (zf3 k) (zkT k) W;have I:=zhd (zvd (C.out.far (p:=⟨w.heap.size+1+1,7,none⟩) (by show w.heap.size+1≠w.heap.size+1+1;omega) (.string key)) (int i64 k) (int i64 dst) (int i64 fr) (int i64 ep) (int i64 op) (int i64 0) (.bool false) (.string key) (int i64 0) (int i64 0) (int i64 0) (.bool false) (slice none 0 0) (slice none 0 0) (slice none 0 0) (int i64 0) (int i64 0));have F:=zhd (zru (zad J.out (show w.heap.size<=w.heap.size+1+1 by omega) 7 (.string key)) (show w.heap.size<=w.heap.size+1 by omega) (int i64 k) (int i64 dst) (int i64 fr) (int i64 ep) (int i64 op) (int i64 0) (.bool false) (.string key) (int i64 0) (int i64 0) (int i64 0) (.bool false) (slice none 0 0) (slice none 0 0) (slice none 0 0) (int i64 0) (int i64 0));go_wp2_with (first|(refine wpList_load_row rfl 51 _ rfl _ rfl _ _ _ _ (show _=_ from z.out) Tryz.underlying51 rfl (by kernel_rfl) ?_)|(refine wpList_store_mid rfl 51 _ _ rfl (w.heap.size+1) 0 #[int i64 k,int i64 dst,int i64 fr,int i64 ep,int i64 op,int i64 0,.bool false,.string key,int i64 0,int i64 0,int i64 0,.bool false,slice none 0 0,slice none 0 0,slice none 0 0,int i64 0,int i64 0] rfl rfl G.out (by kernel_rfl) (by kernel_rfl) ?_;generalize hW:World.setCells _ _ _ _=W))
 have B:Hid (Blk W (w.heap.size+1) 51 #[int i64 k,int i64 dst,int i64 fr,int i64 ep,int i64 op,int i64 0,.bool false,.string key,int i64 0,int i64 0,int i64 0,.bool false,slice none 0 0,slice none 0 0,slice none 0 0,int i64 0,int i64 0]):=zhd (by rw [<-hW];exact I.out);have K:Hid (Below w.heap.size w W):=zhd (by rw [<-hW];exact F.out);exact bodyPost_ret (v:=.agg #[int i64 k,int i64 dst,int i64 fr,int i64 ep,int i64 op,int i64 0,.bool false,.string key,int i64 0,int i64 0,int i64 0,.bool false,slice none 0 0,slice none 0 0,slice none 0 0,int i64 0,int i64 0]) (results_cell_row (p:=4) (ty:=51) Tryz.results51 _ _ (w.heap.size+1) 51 #[int i64 k,int i64 dst,int i64 fr,int i64 ep,int i64 op,int i64 0,.bool false,.string key,int i64 0,int i64 0,int i64 0,.bool false,slice none 0 0,slice none 0 0,slice none 0 0,int i64 0,int i64 0] (0,0) _ rfl B.out Tryz.underlying51 rfl (by kernel_rfl)) rfl ⟨by rw [D.out],K.out⟩
theorem zl9(k:Int)(b:zh5 k=false)(kind fr dst ep op n:Int)(flag:Bool)(key:ByteArray)(s u o:Int)(has:Bool)(A:Option Addr)(m c:Nat)(lA:Option Addr)(ln lc:Nat)(rA:Option Addr)(rn rc:Nat)(each keep:Int)(w:World)(h:KT w) :
 Calls Tryz.prog 51 #[.agg (zwH kind fr dst ep op n flag key s u o has A m c lA ln lc rA rn rc each keep),int i64 k] w (zou k fr dst ep op key w):=by
 have q:Below w.heap.size w ((((w.alloc (cells #[int i64 kind,int i64 fr,int i64 dst,int i64 ep,int i64 op,int i64 n,.bool flag,.string key,int i64 s,int i64 u,int i64 o,.bool has,slice A m c,slice lA ln lc,slice rA rn rc,int i64 each,int i64 keep] 51))).alloc (cells #[int i64 0,int i64 0,int i64 0,int i64 0,int i64 0,int i64 0,.bool false,.string ⟨#[]⟩,int i64 0,int i64 0,int i64 0,.bool false,slice none 0 0,slice none 0 0,slice none 0 0,int i64 0,int i64 0] 51)).alloc (cells #[int i64 k,int i64 dst,int i64 fr,int i64 ep,int i64 op,int i64 0,.bool false,.string ⟨#[]⟩,int i64 0,int i64 0,int i64 0,.bool false,slice none 0 0,slice none 0 0,slice none 0 0,int i64 0,int i64 0] 51)):=((zbl).alloc (by simp) _).alloc (by simp;omega) _;have x:=Blk.new w 51 #[int i64 kind,int i64 fr,int i64 dst,int i64 ep,int i64 op,int i64 n,.bool flag,.string key,int i64 s,int i64 u,int i64 o,.bool has,slice A m c,slice lA ln lc,slice rA rn rc,int i64 each,int i64 keep];have g:=Blk.new (w.alloc (cells #[int i64 kind,int i64 fr,int i64 dst,int i64 ep,int i64 op,int i64 n,.bool flag,.string key,int i64 s,int i64 u,int i64 o,.bool has,slice A m c,slice lA ln lc,slice rA rn rc,int i64 each,int i64 keep] 51)) 51 #[int i64 0,int i64 0,int i64 0,int i64 0,int i64 0,int i64 0,.bool false,.string ⟨#[]⟩,int i64 0,int i64 0,int i64 0,.bool false,slice none 0 0,slice none 0 0,slice none 0 0,int i64 0,int i64 0];have j:=Blk.new ((w.alloc (cells #[int i64 kind,int i64 fr,int i64 dst,int i64 ep,int i64 op,int i64 n,.bool flag,.string key,int i64 s,int i64 u,int i64 o,.bool has,slice A m c,slice lA ln lc,slice rA rn rc,int i64 each,int i64 keep] 51)).alloc (cells #[int i64 0,int i64 0,int i64 0,int i64 0,int i64 0,int i64 0,.bool false,.string ⟨#[]⟩,int i64 0,int i64 0,int i64 0,.bool false,slice none 0 0,slice none 0 0,slice none 0 0,int i64 0,int i64 0] 51)) 51 #[int i64 k,int i64 dst,int i64 fr,int i64 ep,int i64 op,int i64 0,.bool false,.string ⟨#[]⟩,int i64 0,int i64 0,int i64 0,.bool false,slice none 0 0,slice none 0 0,slice none 0 0,int i64 0,int i64 0];rw [World.size_alloc] at g;rw [World.size_alloc,World.size_alloc] at j;have r:=zhd ((x.alloc (cells #[int i64 0,int i64 0,int i64 0,int i64 0,int i64 0,int i64 0,.bool false,.string ⟨#[]⟩,int i64 0,int i64 0,int i64 0,.bool false,slice none 0 0,slice none 0 0,slice none 0 0,int i64 0,int i64 0] 51)).alloc (cells #[int i64 k,int i64 dst,int i64 fr,int i64 ep,int i64 op,int i64 0,.bool false,.string ⟨#[]⟩,int i64 0,int i64 0,int i64 0,.bool false,slice none 0 0,slice none 0 0,slice none 0 0,int i64 0,int i64 0] 51));have t:=zhd (g.alloc (cells #[int i64 k,int i64 dst,int i64 fr,int i64 ep,int i64 op,int i64 0,.bool false,.string ⟨#[]⟩,int i64 0,int i64 0,int i64 0,.bool false,slice none 0 0,slice none 0 0,slice none 0 0,int i64 0,int i64 0] 51));have y:=zhd j;have d:=zhd q;have E:=zhd b;have i:=zhd (zfP k _ (h.below d.out));unfold zhv zvn b5 at i;clear h;rw [b] at i;clear b;clear x g j q;go_enter Tryz.func51,Tryz.ntmps51
 go_wp2_with fail
 refine i.out.mono ?_;rintro e w1 ⟨rfl,a⟩;have J:=zhd (d.out.trans (a.mono d.out.size));have q1:=r.out.below a r.out.lt;have l:=t.out.below a t.out.lt;have q3:=y.out.below a y.out.lt;have L:=q1.cell 7;have N:w.heap.size+1+1<w1.heap.size:=q3.lt;have C:=zhd l;have z:=zhd q3;have G:=zhd (zkH l);clear a q1 l q3;have D:Hid (zeW k key=⟨#[]⟩):=zhd (if_neg (by rw [E.out];simp));have M:=fun W=>zrb (zfO k) (zf2 k) false (zf3 k) (zkT k) W;have I:=zhd (zvd (C.out) (int i64 k) (int i64 dst) (int i64 fr) (int i64 ep) (int i64 op) (int i64 0) (.bool false) (.string ⟨#[]⟩) (int i64 0) (int i64 0) (int i64 0) (.bool false) (slice none 0 0) (slice none 0 0) (slice none 0 0) (int i64 0) (int i64 0));have F:=zhd (zru (J.out) (show w.heap.size<=w.heap.size+1 by omega) (int i64 k) (int i64 dst) (int i64 fr) (int i64 ep) (int i64 op) (int i64 0) (.bool false) (.string ⟨#[]⟩) (int i64 0) (int i64 0) (int i64 0) (.bool false) (slice none 0 0) (slice none 0 0) (slice none 0 0) (int i64 0) (int i64 0));go_wp2_with (first|(refine wpList_load_row rfl 51 _ rfl _ rfl _ _ _ _ (show _=_ from z.out) Tryz.underlying51 rfl (by kernel_rfl) ?_)|(refine wpList_store_mid rfl 51 _ _ rfl (w.heap.size+1) 0 #[int i64 k,int i64 dst,int i64 fr,int i64 ep,int i64 op,int i64 0,.bool false,.string ⟨#[]⟩,int i64 0,int i64 0,int i64 0,.bool false,slice none 0 0,slice none 0 0,slice none 0 0,int i64 0,int i64 0] rfl rfl G.out (by kernel_rfl) (by kernel_rfl) ?_;generalize hW:World.setCells _ _ _ _=W))
 have B:Hid (Blk W (w.heap.size+1) 51 #[int i64 k,int i64 dst,int i64 fr,int i64 ep,int i64 op,int i64 0,.bool false,.string ⟨#[]⟩,int i64 0,int i64 0,int i64 0,.bool false,slice none 0 0,slice none 0 0,slice none 0 0,int i64 0,int i64 0]):=zhd (by rw [<-hW];exact I.out);have K:Hid (Below w.heap.size w W):=zhd (by rw [<-hW];exact F.out);exact bodyPost_ret (v:=.agg #[int i64 k,int i64 dst,int i64 fr,int i64 ep,int i64 op,int i64 0,.bool false,.string ⟨#[]⟩,int i64 0,int i64 0,int i64 0,.bool false,slice none 0 0,slice none 0 0,slice none 0 0,int i64 0,int i64 0]) (results_cell_row (p:=4) (ty:=51) Tryz.results51 _ _ (w.heap.size+1) 51 #[int i64 k,int i64 dst,int i64 fr,int i64 ep,int i64 op,int i64 0,.bool false,.string ⟨#[]⟩,int i64 0,int i64 0,int i64 0,.bool false,slice none 0 0,slice none 0 0,slice none 0 0,int i64 0,int i64 0] (0,0) _ rfl B.out Tryz.underlying51 rfl (by kernel_rfl)) rfl ⟨by rw [D.out],K.out⟩
theorem ztq(k:Int)(kind fr dst ep op n:Int)(flag:Bool)(key:ByteArray)(s u o:Int)(has:Bool)(A:Option Addr)(m c:Nat)(lA:Option Addr)(ln lc:Nat)(rA:Option Addr)(rn rc:Nat)(each keep:Int)(w:World)(h:KT w) :
 Calls Tryz.prog 51 #[.agg (zwH kind fr dst ep op n flag key s u o has A m c lA ln lc rA rn rc each keep),int i64 k] w (zou k fr dst ep op key w):=by
 cases he:zh5 k
 ·exact zl9 k he kind fr dst ep op n flag key s u o has A m c lA ln lc rA rn rc each keep w h
 ·exact zkI k he kind fr dst ep op n flag key s u o has A m c lA ln lc rA rn rc each keep w h
end
section
open Go.RowKit Mem Be Rg
end
section
open Go.RowKit Mem Be Rg
def zrv(w:World)(e:Ending)(w':World):Prop:=∃ n:Int,e=.returned (int i64 n)/\Below w.heap.size w w'
theorem zrw(x:MV)(w:World)(h:MsgM w x):Calls Tryz.prog 26 #[.agg #[int i64 x.kind,int i64 x.fr,int i64 x.dst,int i64 x.ep,int i64 x.op,int i64 x.n,.bool x.flag,.string ⟨x.e.1.k.toArray⟩,int i64 x.e.1.s,int i64 x.e.1.u,int i64 x.e.1.o,.bool x.e.1.has,slice x.e.2.1 x.e.1.v.length x.e.2.2,slice x.lA x.l.length x.lc,slice x.rA x.ns.length x.rc,int i64 x.each,int i64 x.keep]] w (zrv w):=by
 have c:Below w.heap.size w (w.alloc (cells #[int i64 x.kind,int i64 x.fr,int i64 x.dst,int i64 x.ep,int i64 x.op,int i64 x.n,.bool x.flag,.string ⟨x.e.1.k.toArray⟩,int i64 x.e.1.s,int i64 x.e.1.u,int i64 x.e.1.o,.bool x.e.1.has,slice x.e.2.1 x.e.1.v.length x.e.2.2,slice x.lA x.l.length x.lc,slice x.rA x.ns.length x.rc,int i64 x.each,int i64 x.keep] 51)):=zbl;have a:=zhd (Blk.new w 51 #[int i64 x.kind,int i64 x.fr,int i64 x.dst,int i64 x.ep,int i64 x.op,int i64 x.n,.bool x.flag,.string ⟨x.e.1.k.toArray⟩,int i64 x.e.1.s,int i64 x.e.1.u,int i64 x.e.1.o,.bool x.e.1.has,slice x.e.2.1 x.e.1.v.length x.e.2.2,slice x.lA x.l.length x.lc,slice x.rA x.ns.length x.rc,int i64 x.each,int i64 x.keep]);have r:=zhd c;have j:=zhd (h.below c);have D:=a.out.cell 7;have B:=a.out.cell 12;have k13:=a.out.cell 13;have C:=a.out.cell 14;obtain⟨W1,F⟩:∃ W1,w.alloc (cells #[int i64 x.kind,int i64 x.fr,int i64 x.dst,int i64 x.ep,int i64 x.op,int i64 x.n,.bool x.flag,.string ⟨x.e.1.k.toArray⟩,int i64 x.e.1.s,int i64 x.e.1.u,int i64 x.e.1.o,.bool x.e.1.has,slice x.e.2.1 x.e.1.v.length x.e.2.2,slice x.lA x.l.length x.lc,slice x.rA x.ns.length x.rc,int i64 x.each,int i64 x.keep] 51)=W1:=⟨_,rfl⟩;rw [F] at r j D B k13 C a;have t:=j.out.ln;have L:(x.l.length:Int)<=9223372036854775807:=by unfold maxLen at t;omega
 have N:(0:Int)<=(x.l.length:Int):=by omega
 obtain⟨n,g⟩:∃ n,x.l.length=n:=⟨_,rfl⟩;have O:=zhd g;have A:Hid (∀ W,Below W1.heap.size W1 W->W.cell? ⟨w.heap.size,13,none⟩=some (slice x.lA n x.lc)):=zhd fun W c=>by
  rw [<-g];exact(a.out.below c a.out.lt).cell 13
 rw [g] at k13 L N;clear c h g t;go_enter Tryz.func26,Tryz.ntmps26
 go_wp2;clear D B k13 C F;go_loopw [3,4] (fun z i wr=>∃ k:Nat,k<=n/\i=int i64 k/\(∃ q:Int,z=int i64 q)/\Hid (Below W1.heap.size W1 wr)) (fun _ i _=>n - (intOf i).toNat)
 case atStart=>exact⟨0,by omega,rfl,⟨_,rfl⟩,zhd (Below.refl _ _)⟩
 case round=>
  obtain⟨k,Z,rfl,⟨q,rfl⟩,d⟩:=hrel;by_cases M:k<n
  ·have E:k<x.l.length:=by rw [O.out];exact M
   obtain⟨b,o,J,c,hc⟩:=zbc (j.out.en.below d.out).row (by omega);obtain⟨a0,_,_,_,_,a5⟩:=hc k E;have m:=j.out.en.val _ (List.getElem_mem E);have I:wr.cell? ⟨w.heap.size,13,none⟩=some (slice (some ⟨b,o,none⟩) n x.lc):=by rw [<-J];exact A.out wr d.out
   have Q:=zab I;have X:=zab a0;have T:=zab a5;have S:=m.leni;have aa:((⟨x.l[k].1.k.toArray⟩:ByteArray).size:Int)<=9223372036854775807:=by
    show((x.l[k].1.k.toArray.size:Nat):Int)<=_
    rw [List.size_toArray];exact m.kleni
   have U:(0:Int)<=(k:Int):=by omega
   have Y:(k:Int)<(n:Int):=by omega
   clear hc a0 a5 m;go_wp2_with fail
   refine zas (by kernel_rfl) (by kernel_rfl) ?_
   repeat (go_big_quiet_step (fail))
   refine wpQuiet_nil ?_;intro w' hw';obtain⟨p,rfl⟩:=hw';go_wp2;go_roundw
   case rel=>exact⟨k+1,by omega,by go_num,⟨_,rfl⟩,zhd (d.out.trans (p.bel.mono d.out.size))⟩
   case measure=>simp [intOf];omega
  ·obtain rfl:k=n:=by omega
   have I:wr.cell? ⟨w.heap.size,13,none⟩=some (slice x.lA k x.lc):=A.out wr d.out;have y:=zhd (r.out.trans (d.out.mono r.out.size));go_wp2_with fail
   refine(ze2 wr.heap.size 0 0 none [] rfl wr (Row.nil _ _ _) (Nat.le_refl _) (by decide)).mono ?_;rintro e V ⟨R,c2,rfl,_,G⟩;have K:=zhd (y.out.trans (G.mono y.out.size));clear G;go_wp2;go_ret;exact⟨_,rfl,K.out⟩
end
section
open Go.RowKit Go.ChangeShapes Go.WideShapes Mem Rg
section
variable {H : Type} {enc : TypeId × Value → H} {w : World} {base : Nat} {held : Bool}
theorem zma{fuel:Nat}{c0 c1 c2:Value}{x:DataW H×List MemPlace}(h:DataW.trod enc Tryz.prog w base (fun _=>true) held fuel 42 [c0,c1,c2]=some x) :
 ∃ s u o:Int,c0=int i64 s/\c1=int i64 u/\c2=int i64 o:=by
 obtain⟨i,n,_,_,_,d,a⟩:=DataW.trod_struct Tryz.underlying42 h;have b:Tryz.prog.cellsOf 3=1:=by kernel_rfl
 match i,d with
 | [y0,y1,y2],_=>
  have l:=a 0 _ rfl;have g:=a 1 _ rfl;have m:=a 2 _ rfl;obtain⟨s,k,_,q⟩:=DataW.trod_int Tryz.underlying3 (x:=y0) (by simpa [b] using l);obtain⟨u,j,_,p⟩:=DataW.trod_int Tryz.underlying3 (x:=y1) (by simpa [b] using g);obtain⟨o,c,_,r⟩:=DataW.trod_int Tryz.underlying3 (x:=y2) (by simpa [b] using m);exact⟨s,u,o,by simpa using k,by simpa using j,by simpa using c⟩
theorem zmb{fuel:Nat}{c0 c1:Value}{x:DataW H×List MemPlace}(h:DataW.trod enc Tryz.prog w base (fun _=>true) held fuel 44 [c0,c1]=some x) :
 ∃ (has:Bool) (A:Option Addr) (a:List UInt8) (c:Nat),c0=.bool has/\c1=slice A a.length c/\Row w w.heap.size A (a.map zaa)/\a.length<=c/\c<=maxLen:=by
 obtain⟨a,n,_,_,_,j,g⟩:=DataW.trod_struct Tryz.underlying44 h;have i:Tryz.prog.cellsOf 4=1:=by kernel_rfl
 have e2:Tryz.prog.cellsOf 27=1:=by kernel_rfl
 match a,j with
 | [y0,y1],_=>
  have o:=g 0 _ rfl;have k:=g 1 _ rfl;obtain⟨b,m,_⟩:=DataW.trod_bool Tryz.underlying4 (x:=y0) (by simpa [i,e2] using o);obtain⟨⟨A,l,c⟩,p,d⟩:=zkW (x:=y1) Tryz.underlying27 Tryz.underlying5 (by kernel_rfl) (by simpa [i,e2] using k);exact⟨b,A,l,c,by simpa using m,p,d.1,d.2.1,d.2.2⟩
theorem zg8{fuel:Nat}{c0 c1 c2 c3 c4 c5:Value}{x:DataW H×List MemPlace}(h:DataW.trod enc Tryz.prog w base (fun _=>true) held fuel 46 [c0,c1,c2,c3,c4,c5]=some x) :
 ∃ y:EV,[c0,c1,c2,c3,c4,c5]=zbf y/\Row w w.heap.size y.2.1 (y.1.v.map zaa)/\y.1.v.length<=y.2.2/\y.2.2<=maxLen/\y.1.k.length<=maxLen:=by
 obtain⟨m,n,_,_,_,i,b⟩:=DataW.trod_struct Tryz.underlying46 h;have a:Tryz.prog.cellsOf 9=1:=by kernel_rfl
 have d:Tryz.prog.cellsOf 42=3:=by kernel_rfl
 have e2:Tryz.prog.cellsOf 44=2:=by kernel_rfl
 match m,i with
 | [y0,y1,y2],_=>
  have q:=b 0 _ rfl;have j:=b 1 _ rfl;have r:=b 2 _ rfl;obtain⟨key,p,_,B⟩:=DataW.trod_string Tryz.underlying9 (x:=y0) (by simpa [a,d,e2] using q);obtain⟨s,u,o,rfl,rfl,rfl⟩:=zma (x:=y1) (by simpa [a,d,e2] using j);obtain⟨has,A,l,c,rfl,rfl,z,hc,t⟩:=zmb (x:=y2) (by simpa [a,d,e2] using r);have g:c0=.string key:=by simpa using p
  subst g;refine⟨(⟨key.data.toList,s,u,o,has,l⟩,A,c),?_,z,hc,t,?_⟩
  ·unfold zbf;simp
  ·show key.data.toList.length<=maxLen
   have:key.data.toList.length=key.size:=by rw [Array.length_toList];rfl
   omega
theorem zmc{fuel:Nat}{a:Option Addr}{len cap:Nat}{J:DataW H×List MemPlace}(N:DataW.trod enc Tryz.prog w base (fun _=>true) held fuel 33 [slice a len cap]=some J) :
 ∃ rs:List EV,len=rs.length/\len<=cap/\cap<=maxLen/\Row w w.heap.size a (zaG rs)/\(∀ r∈rs,EvB w r):=by
 rcases Go.Deep.open_slice Tryz.underlying33 N with⟨q,_⟩|⟨x,l,c,m,n,D,T,q,_,hl,R,A,U,C⟩
 ·simp only [List.cons.injEq,and_true] at q;injection q with h g h3;subst h;subst g;subst h3;exact⟨[],rfl,Nat.le_refl _,by unfold maxLen;omega,Row.nil _ _ _,by simp⟩
 ·simp only [List.cons.injEq,and_true] at q;injection q with h g h3;subst h;subst g;subst h3;simp only [if_true] at A;subst A;have I:Tryz.prog.cellsOf 46=6:=by kernel_rfl
  rw [I] at C;obtain⟨V,t⟩:=Go.Deep.choose_lt (n:=len) (α:=EV) (p:=fun i r=>(∀ j,j<6->w.cell? (x.add (i*6+j))=(zbf r)[j]?)/\EvB w r) (fun i s=>by
   obtain⟨L,h,g⟩:=C i (by omega);obtain⟨_,K,G⟩:=World.cells?_some h
   match L,K with
   | [c0,c1,c2,c3,c4,c5],_=>
    obtain⟨r,u,F,O,W,X⟩:=zg8 g;refine⟨r,fun j d=>?_,F,by omega,by omega,O⟩;rw [<-Go.Deep.add_add,G j d,u])
  refine⟨(List.range len).map V,by simp,hl,R,?_,?_⟩
  ·rcases Nat.eq_zero_or_pos len with y|y
   ·subst y;exact Or.inl rfl
   ·have z:=(t 0 y).1 0 (by omega);have B:w.cell? x=some (.string ⟨(V 0).1.k.toArray⟩):=by
     have e:x.add (0*6+0)=x:=by simp [Addr.add]
     rw [e] at z;exact z
    obtain⟨b,o,M⟩:=x;have Q:M=none:=World.cell?_spot B;subst Q;refine Or.inr ⟨b,o,rfl,zaq B,fun j d=>?_⟩;have S:j<len*6:=by rw [zcA] at d;simpa using d
    have s:j / 6<len:=by omega
    have E:j=j / 6*6+j % 6:=by omega
    have v:=(t (j / 6) s).1 (j % 6) (by omega);rw [<-E] at v;have e:(⟨b,o,none⟩:Addr).add j=⟨b,o+j,none⟩:=by
     unfold Addr.add;split
     ·subst_vars;rfl
     ·rfl
    rw [e] at v;have ht:=zmL ((List.range len).map V) (j / 6) (by simpa using s) (j % 6) (by omega);rw [<-E,List.getElem?_eq_getElem d] at ht;rw [v,ht,List.getElem_map,List.getElem_range]
  ·intro r u;obtain⟨i,s,rfl⟩:=List.mem_map.1 u;exact(t i (List.mem_range.1 s)).2
theorem zmd{P:Program}{t e:TypeId}{fuel:Nat}{v:Value}{x:DataW H×List MemPlace}(ht:P.underlying t=some (.slice e))(i:P.underlying e=some (.int .i64))(hc:P.cellsOf e=1)
 (h:DataW.trod enc P w base (fun _=>true) held fuel t [v]=some x):∃ (A:Option Addr) (ns:List Int) (c:Nat),v=slice A ns.length c/\Row w w.heap.size A (ns.map iV)/\ns.length<=c/\c<=maxLen:=by
 have g:∃ a len cap,v=slice a len cap:=by
  rcases DataW.trod_slice ht h with⟨d,_⟩|⟨a,len,cap,_,_,_,_,d,_⟩
  ·exact⟨none,0,0,by simpa using d⟩
  ·exact⟨some a,len,cap,by simpa using d⟩
 obtain⟨a,len,cap,rfl⟩:=g;obtain⟨u,hl,l,q,k,o⟩:=zjt ht hc h;obtain⟨j,rfl,B⟩:=zkV (f:=iV) (Q:=fun z=>(Lit.int i64 z).wf=true) u (fun v r=>by
  obtain⟨n,y,p⟩:=o v r;obtain⟨b,s,_,m⟩:=DataW.trod_int i p;exact⟨b,by show v=Value.int i64 b;simpa using s,m⟩)
 rw [List.length_map] at hl;subst hl;exact⟨a,j,cap,rfl,l,q,k⟩
theorem zkJ{fuel:Nat}{c0 c1 c2:Value}{x:DataW H×List MemPlace}(i:DataW.trod enc Tryz.prog w base (fun _=>true) held fuel 49 [c0,c1,c2]=some x) :
 ∃ (A:Option Addr) (ns:List Int) (c:Nat) (e k:Int),c0=slice A ns.length c/\c1=int i64 e/\c2=int i64 k/\Row w w.heap.size A (ns.map iV)/\ns.length<=c/\c<=maxLen:=by
 obtain⟨h,n,_,_,_,d,a⟩:=DataW.trod_struct Tryz.underlying49 i;have b:Tryz.prog.cellsOf 3=1:=by kernel_rfl
 have e2:Tryz.prog.cellsOf 47=1:=by kernel_rfl
 match h,d with
 | [y0,y1,y2],_=>
  have m:=a 0 _ rfl;have g:=a 1 _ rfl;have o:=a 2 _ rfl;obtain⟨A,ns,c,q,p,r,hc⟩:=zmd (x:=y0) Tryz.underlying47 Tryz.underlying3 (by kernel_rfl) (by simpa [Value.cells,b,e2] using m);obtain⟨e,l,_,_⟩:=DataW.trod_int Tryz.underlying3 (x:=y1) (by simpa [Value.cells,b,e2] using g);obtain⟨k,j,_,_⟩:=DataW.trod_int Tryz.underlying3 (x:=y2) (by simpa [Value.cells,b,e2] using o);exact⟨A,ns,c,e,k,q,by simpa using l,by simpa using j,p,r,hc⟩
end
end
section
open Go.RowKit Mem Be Rg
theorem zcf{P:Program}{c:Array Oper}{rest:List Oper}{o:Oper}{a:Act}{w:World}{Q:Exit->Act->World->Prop}(q:Region.wanted o (yielded c a.tmps)=true)(ty:TypeId)(x:Operand)(j:o.op=.load ty x)
 (g:Nat) (p:a.eval x=.pointer (some ⟨g,0,none⟩)) (t:TypeId) (b:Array Value) (fr:Nat×Nat) (d:TypeDesc) (k:w.heap[g]?=some (cells b t fr))
 (m:P.underlying ty=some d) (l:(match d with|.struct _|.array _ _=>true|_=>false)=true) (r:(P.info? ty).map (·.size)=some b.size)
 (h:wpList P c Q rest (a.put o.dst (.agg b)) w):wpList P c Q (o :: rest) a w:=
 BigFrame.wpList_want q fun K i=>wp_load_row ty x j g p t b fr d k m l r (i _ _ h)
end
section
open Go.RowKit Go.ChangeShapes Go.WideShapes Mem
def laid12:List (String×DataW Unit):=[("icehouse/msgs.kinds",Rows.laid_icehouse_msgs_kinds)]
theorem zoK:(Rows.laid_icehouse_msgs_kinds:DataW Unit)=.agg ((List.range 18).map fun i=>.agg ((List.range 5).map fun j=>.lit (.bool (zq2.getD (i*5+j) false)))):=rfl
theorem ztY:Tryz.prog.globalNamed "icehouse/msgs.kinds" = some 0:=by kernel_rfl
theorem zwC:(Tryz.prog.globals[0]?).map (·.type)=some 179:=by kernel_rfl
theorem kt_of_laid{W:World}(h:laidMetH Tryz.prog laid12 W):KT W:=by
 rw [MakeChecks.laidMetH_plain _ _ _ (by kernel_rfl)] at h;obtain⟨ps,⟨L,t0,J,M,p0,R,A,o,y,G,_,_⟩,_,_⟩:=h;obtain rfl:=Option.some.inj (ztY.symm.trans A);obtain rfl:=Option.some.inj (zwC.symm.trans o);have F:=fun i=>World.var?_cell ztY y i;clear A o y;obtain⟨l⟩:=J;obtain⟨c,Q,_,C,O,N,p⟩:=DataW.trod_array Tryz.underlying179 G;have c5:Tryz.prog.cellsOf 143=5:=by kernel_rfl
 have c1:Tryz.prog.cellsOf 4=1:=by kernel_rfl
 have u:=(Prod.mk.inj C).1;rw [zoK] at u;injection u with hL;rw [c5] at p;intro i U;have s:=p (i / 5) (by omega);have r:i / 5<c.length:=by omega
 rw [List.getElem?_eq_getElem r] at s;have g:(c[i / 5]).1=.agg ((List.range 5).map fun j=>.lit (.bool (zq2.getD (i / 5*5+j) false))):=by
  have a:(c.map (·.1))[i / 5]?=some (c[i / 5]).1:=by rw [List.getElem?_map,List.getElem?_eq_getElem r];rfl
  rw [<-hL,List.getElem?_map,List.getElem?_range (by omega)] at a;exact(Option.some.inj a).symm
 obtain⟨d,K,_,D,S,T,q⟩:=DataW.trod_array Tryz.underlying143 s;rw [D] at g;simp only [DataW.agg.injEq] at g;rw [c1] at q;have x:=q (i % 5) (by omega);have v:i % 5<d.length:=by omega
 rw [List.getElem?_eq_getElem v] at x;obtain⟨b,m,E⟩:=DataW.trod_bool Tryz.underlying4 x;have z:(d[i % 5]).1=.lit (.bool (zq2.getD i false)):=by
  have a:(d.map (·.1))[i % 5]?=some (d[i % 5]).1:=by rw [List.getElem?_map,List.getElem?_eq_getElem v];rfl
  rw [g,List.getElem?_map,List.getElem?_range (by omega)] at a;have k:=(Option.some.inj a).symm;simp only at k;rw [show i / 5*5+i % 5=i by omega] at k;exact k
 have B:b=zq2.getD i false:=by
  rw [E] at z;simpa using z
 rw [F i,<-B];have I:((l.drop (i / 5*5)).take 5).drop (i % 5*1)=(l.drop i).take (5 - i % 5):=by
  rw [List.drop_take,List.drop_drop,Nat.mul_one,show i / 5*5+i % 5=i by omega]
 simp only at m;rw [I] at m;have t:(((l.drop i).take (5 - i % 5)).take 1)[0]?=some (.bool b):=by rw [m];rfl
 rw [List.getElem?_take_of_lt (by omega),List.getElem?_take_of_lt (by omega),List.getElem?_drop,Nat.add_zero] at t;simpa using t
theorem door_met12(os:Os)(args:Array Value):laidMetH Tryz.prog laid12 ((World.doorLaid Tryz.prog 31 os).forCall (fun _ _=>0) ⟨#[],args,[]⟩).memory:=
 laidMetH_of_parts3 (fuel:=8) (laidMet_of_run' 8 (by kernel_rfl) (by kernel_rfl)) (by kernel_rfl) (by kernel_rfl)
end
end Go.Proofs.YtahnjkkgojfdmaaGreatDoor
