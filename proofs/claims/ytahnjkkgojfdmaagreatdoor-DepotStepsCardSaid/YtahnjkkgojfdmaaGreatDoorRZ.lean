import Derived.Test.YtahnjkkgojfdmaaGreatDoorGrpF
import Derived.Test.YtahnjkkgojfdmaaGreatDoorSZ4
import Derived.Test.YtahnjkkgojfdmaaGreatDoorMsY
import Derived.Laws.Alloc2
import Derived.Great.Walk
set_option maxRecDepth 100000
set_option maxHeartbeats 4000000
set_option linter.unusedVariables false
namespace Go.Proofs.YtahnjkkgojfdmaaGreatDoor
open Go.Obj(cells)
open Go.IntKind(i64)
open Go.Value(int slice bool)
section
open Go.RowKit Mem
def zeX(c:Array Value):Nat->List Value->Array Value
 | _,[]=>c
 | o,v :: r=>zeX (c.setIfInBounds o v) (o+1) r
theorem zeB(w:World)(t:TypeId):∀ (l:List Value) (o:Nat) (c:Array Value),(w.alloc (cells c t)).setCells w.heap.size o l=w.alloc (cells (zeX c o l) t)
 | [],o,c=>rfl
 | v :: r,o,c=>by
  show((w.alloc (cells c t)).setCell ⟨w.heap.size,o,none⟩ v).setCells w.heap.size (o+1) r=_
  rw [World.setCell_alloc_new];exact zeB w t r (o+1) _
theorem zhb:∀ (l:List Value) (o:Nat) (c:Array Value) (j:Nat),(zeX c o l)[j]?=if o<=j/\j<o+l.length/\j<c.size then l[j - o]? else c[j]?
 | [],o,c,j=>by unfold zeX;rw [if_neg (by simp;omega)]
 | v :: r,o,c,j=>by
  unfold zeX;rw [zhb r (o+1) _ j];simp only [Array.size_setIfInBounds,List.length_cons];by_cases h1:j<c.size
  ·by_cases h2:o+1<=j/\j<o+1+r.length
   ·rw [if_pos ⟨h2.1,h2.2,h1⟩,if_pos ⟨by omega,by omega,h1⟩];obtain⟨k,hk⟩:∃ k,j - o=k+1:=⟨j - o - 1,by omega⟩;rw [hk,List.getElem?_cons_succ,show j - (o+1)=k by omega]
   ·rw [if_neg (fun h=>h2 ⟨h.1,h.2.1⟩)];by_cases a:j=o
    ·subst a;rw [if_pos ⟨by omega,by omega,h1⟩,Nat.sub_self,Array.getElem?_setIfInBounds_self_of_lt h1];rfl
    ·rw [if_neg (by omega),Array.getElem?_setIfInBounds_ne (by omega)]
  ·rw [if_neg (fun h=>h1 h.2.2),if_neg (fun h=>h1 h.2.2),Array.getElem?_eq_none (by simp;omega),Array.getElem?_eq_none (by omega)]
theorem zhc(c a:Array Value)(h:c.size=a.size):zeX c 0 a.toList=a:=by
 apply Array.ext_getElem?;intro j;rw [zhb];by_cases b:j<a.size
 ·rw [if_pos ⟨by omega,by simpa using b,by omega⟩];simp
 ·rw [if_neg (fun d=>b (by omega)),Array.getElem?_eq_none (by omega),Array.getElem?_eq_none (by omega)]
theorem zmm(w:World)(z:Array Value)(t:TypeId)(n:Nat)(b:n<=z.size):(w.alloc (cells z t)).there w.heap.size 0 n:=fun j a=>by
 have h:=Blk.new w t z;rw [Nat.zero_add];exact⟨by rw [h.cell j,Array.getElem?_eq_getElem (by omega)];rfl,h.frozen j⟩
theorem zeY{P:Program}{i:Array Oper}{rest:List Oper}{c g:Oper}{a:Act}{w:World}{Q:Exit->Act->World->Prop}(m:c.guard=none)(j:g.guard=none)(d:Tmp)(p:c.dst=some d)(ty:TypeId)(z:Array Value)
 (r:(execOp a.eval c).run P w=.ok (.value (.pointer (some ⟨w.heap.size,0,none⟩))) (w.alloc (cells z ty))) (x y:Operand) (o:g.op=.store ty x y) (b:Array Value)
 (q:(a.put (some d) (.pointer (some ⟨w.heap.size,0,none⟩))).eval x=.pointer (some ⟨w.heap.size,0,none⟩)) (k:(a.put (some d) (.pointer (some ⟨w.heap.size,0,none⟩))).eval y=.agg b) (t:z.size=b.size) (s:(P.info? ty).map (·.size)=some b.size) (l:b.all (·.oneCell')=true)
 (h:wpList P i Q rest ((a.put (some d) (.pointer (some ⟨w.heap.size,0,none⟩))).put g.dst undef) (w.alloc (cells b ty))):wpList P i Q (c :: g :: rest) a w:=by
 refine Go.Great.wpList_allocTo m (some d) p _ _ r ?_;refine wpList_store_mid j ty x y o w.heap.size 0 b q k (zmm w z ty b.size (by omega)) s l ?_;rw [zeB,zhc z b t];exact h
end
section
open Go.RowKit Mem Be Rg
theorem zeC(g:Nat)(t:TypeId):∀ (l:List Value) (o:Nat) (c:Array Value) (w:World),Blk w g t c->Blk (w.setCells g o l) g t (zeX c o l)/\w.grownBy (w.setCells g o l) (some g)
 | [],o,c,w,h=>⟨h,zdl _ _⟩
 | v :: r,o,c,w,h=>
  have h1:=zeC g t r (o+1) _ _ (h.set_ o v)
  ⟨h1.1,zaf (zap w g o v) h1.2⟩
theorem zeD{w:World}{g:Nat}{t:TypeId}{z:Array Value}(b:Blk w g t z)(a:Array Value)(c:z.size=a.size):Blk (w.setCells g 0 a.toList) g t a/\w.grownBy (w.setCells g 0 a.toList) (some g):=by
 have h:=zeC g t a.toList 0 z w b;rw [zhc z a c] at h;exact h
theorem zmn{w:World}{g:Nat}{t:TypeId}{a:Array Value}(h:Blk w g t a):w.there g 0 a.size:=fun j b=>by
 rw [Nat.zero_add];exact⟨by rw [h.cell j,Array.getElem?_eq_getElem b];rfl,h.frozen j⟩
theorem zfr{P:Program}{j:Array Oper}{rest:List Oper}{op:Oper}{a:Act}{w:World}{Q:Exit->Act->World->Prop}(k:op.guard=none)(ty:TypeId)(x y:Operand)(o:op.op=.store ty x y)(g:Nat)(t:TypeId)(z b:Array Value)(d:Blk w g t z)
 (q:a.eval x=.pointer (some ⟨g,0,none⟩)) (l:a.eval y=.agg b) (i:z.size=b.size) (m:(P.info? ty).map (·.size)=some b.size) (p:b.all (·.oneCell')=true)
 (h:∀ c,Blk c g t b->w.grownBy c (some g)->wpList P j Q rest (a.put op.dst undef) c):wpList P j Q (op :: rest) a w:=
 wpList_store_mid k ty x y o g 0 b q l (by rw [<-i];exact zmn d) m p (h _ (zeD d b i).1 (zeD d b i).2)
theorem zry(x:MV)(k:Int)(C:zh5 k=true)(w:World):Calls Tryz.prog 63 #[.agg #[int i64 x.kind,int i64 x.fr,int i64 x.dst,int i64 x.ep,int i64 x.op,int i64 x.n,bool x.flag,.string ⟨x.e.1.k.toArray⟩,int i64 x.e.1.s,int i64 x.e.1.u,int i64 x.e.1.o,bool x.e.1.has,slice x.e.2.1 x.e.1.v.length x.e.2.2,slice x.lA x.l.length x.lc,slice x.rA x.ns.length x.rc,int i64 x.each,int i64 x.keep],int i64 k] w (zou k x.fr x.dst x.ep x.op ⟨x.e.1.k.toArray⟩ w):=by
 have c:=(Blk.new w 51 #[int i64 x.kind,int i64 x.fr,int i64 x.dst,int i64 x.ep,int i64 x.op,int i64 x.n,bool x.flag,.string ⟨x.e.1.k.toArray⟩,int i64 x.e.1.s,int i64 x.e.1.u,int i64 x.e.1.o,bool x.e.1.has,slice x.e.2.1 x.e.1.v.length x.e.2.2,slice x.lA x.l.length x.lc,slice x.rA x.ns.length x.rc,int i64 x.each,int i64 x.keep]).alloc (cells #[int i64 0,int i64 0,int i64 0,int i64 0,int i64 0,int i64 0,bool false,.string ⟨#[]⟩,int i64 0,int i64 0,int i64 0,bool false,slice none 0 0,slice none 0 0,slice none 0 0,int i64 0,int i64 0] 51);have m:=Blk.new (w.alloc (cells #[int i64 x.kind,int i64 x.fr,int i64 x.dst,int i64 x.ep,int i64 x.op,int i64 x.n,bool x.flag,.string ⟨x.e.1.k.toArray⟩,int i64 x.e.1.s,int i64 x.e.1.u,int i64 x.e.1.o,bool x.e.1.has,slice x.e.2.1 x.e.1.v.length x.e.2.2,slice x.lA x.l.length x.lc,slice x.rA x.ns.length x.rc,int i64 x.each,int i64 x.keep] 51)) 51 #[int i64 0,int i64 0,int i64 0,int i64 0,int i64 0,int i64 0,bool false,.string ⟨#[]⟩,int i64 0,int i64 0,int i64 0,bool false,slice none 0 0,slice none 0 0,slice none 0 0,int i64 0,int i64 0];have E:Below w.heap.size w ((w.alloc (cells #[int i64 x.kind,int i64 x.fr,int i64 x.dst,int i64 x.ep,int i64 x.op,int i64 x.n,bool x.flag,.string ⟨x.e.1.k.toArray⟩,int i64 x.e.1.s,int i64 x.e.1.u,int i64 x.e.1.o,bool x.e.1.has,slice x.e.2.1 x.e.1.v.length x.e.2.2,slice x.lA x.l.length x.lc,slice x.rA x.ns.length x.rc,int i64 x.each,int i64 x.keep] 51)).alloc (cells #[int i64 0,int i64 0,int i64 0,int i64 0,int i64 0,int i64 0,bool false,.string ⟨#[]⟩,int i64 0,int i64 0,int i64 0,bool false,slice none 0 0,slice none 0 0,slice none 0 0,int i64 0,int i64 0] 51)):=(zbl).alloc (by simp) _;rw [World.size_alloc] at m;obtain⟨W1,S⟩:∃ W,(w.alloc (cells #[int i64 x.kind,int i64 x.fr,int i64 x.dst,int i64 x.ep,int i64 x.op,int i64 x.n,bool x.flag,.string ⟨x.e.1.k.toArray⟩,int i64 x.e.1.s,int i64 x.e.1.u,int i64 x.e.1.o,bool x.e.1.has,slice x.e.2.1 x.e.1.v.length x.e.2.2,slice x.lA x.l.length x.lc,slice x.rA x.ns.length x.rc,int i64 x.each,int i64 x.keep] 51)).alloc (cells #[int i64 0,int i64 0,int i64 0,int i64 0,int i64 0,int i64 0,bool false,.string ⟨#[]⟩,int i64 0,int i64 0,int i64 0,bool false,slice none 0 0,slice none 0 0,slice none 0 0,int i64 0,int i64 0] 51)=W:=⟨_,rfl⟩;rw [S] at c m E;have d1:=c.cell 1;have d2:=c.cell 2;have d3:=c.cell 3;have Z:=c.cell 4;have F:=zhd c;have i:=zhd m;have G:=zhd E;have A:=zhd fun X=>zkC k X;rw [C] at A;have V:Hid (zeW k ⟨x.e.1.k.toArray⟩=⟨x.e.1.k.toArray⟩):=zhd (by unfold zeW;rw [C];rfl);clear c m E C;go_enter Tryz.func63,Tryz.ntmps63
 go_upto_region 2 with(refine zeY rfl rfl _ rfl 51 #[int i64 0,int i64 0,int i64 0,int i64 0,int i64 0,int i64 0,bool false,.string ⟨#[]⟩,int i64 0,int i64 0,int i64 0,bool false,slice none 0 0,slice none 0 0,slice none 0 0,int i64 0,int i64 0] (by kernel_rfl) _ _ rfl #[int i64 k,int i64 x.dst,int i64 x.fr,int i64 x.ep,int i64 x.op,int i64 0,bool false,.string ⟨#[]⟩,int i64 0,int i64 0,int i64 0,bool false,slice none 0 0,slice none 0 0,slice none 0 0,int i64 0,int i64 0] rfl rfl rfl (by kernel_rfl) (by kernel_rfl) ?_)
 obtain⟨O,r⟩:∃ W,W1.alloc (cells #[int i64 k,int i64 x.dst,int i64 x.fr,int i64 x.ep,int i64 x.op,int i64 0,bool false,.string ⟨#[]⟩,int i64 0,int i64 0,int i64 0,bool false,slice none 0 0,slice none 0 0,slice none 0 0,int i64 0,int i64 0] 51)=W:=⟨_,rfl⟩;obtain⟨g2,h⟩:∃ g,W1.heap.size=g:=⟨_,rfl⟩;have q:Below W1.heap.size W1 O:=by rw [<-r];exact zbl
 have D:Hid (Blk O g2 51 #[int i64 k,int i64 x.dst,int i64 x.fr,int i64 x.ep,int i64 x.op,int i64 0,bool false,.string ⟨#[]⟩,int i64 0,int i64 0,int i64 0,bool false,slice none 0 0,slice none 0 0,slice none 0 0,int i64 0,int i64 0]):=zhd (by rw [<-r,<-h];exact Blk.new _ _ _);have j:w.heap.size+1<g2:=by rw [<-h];exact i.out.lt
 have t:=zhd (G.out.trans (q.mono G.out.size));have I:=zhd (F.out.below q F.out.lt);have y:=zhd (i.out.below q i.out.lt);simp only [r,h];clear q r h G F i S d1 d2 d3 Z;go_wp2_with fail
 refine(A.out _).mono ?_;rintro e b ⟨rfl,d⟩;have J:=zhd (t.out.trans (d.mono t.out.size));have M:=zhd (I.out.below d I.out.lt);have T:=zhd (y.out.below d y.out.lt);have a:=zhd (D.out.below d D.out.lt);have d7:=M.out.cell 7;clear d t I y D A;have m7:=a.out.cell 7;have z7:b.frozen? ⟨g2,7,none⟩=false:=a.out.frozen 7;have m8:=a.out.cell 8;have z8:b.frozen? ⟨g2,8,none⟩=false:=a.out.frozen 8;have m9:=a.out.cell 9;have z9:b.frozen? ⟨g2,9,none⟩=false:=a.out.frozen 9;have aa:=a.out.cell 10;have ah:b.frozen? ⟨g2,10,none⟩=false:=a.out.frozen 10;have ab:=a.out.cell 11;have ae:b.frozen? ⟨g2,11,none⟩=false:=a.out.frozen 11;have af:=a.out.cell 12;have ag:b.frozen? ⟨g2,12,none⟩=false:=a.out.frozen 12;have K:Hid (b.grownBy ((((((b.setCell ⟨g2,7,none⟩ (.string ⟨x.e.1.k.toArray⟩)).setCell ⟨g2,8,none⟩ (int i64 0)).setCell ⟨g2,9,none⟩ (int i64 0)).setCell ⟨g2,10,none⟩ (int i64 0)).setCell ⟨g2,11,none⟩ (bool false)).setCell ⟨g2,12,none⟩ (slice none 0 0)) (some g2)):=zhd (zaf (zaf (zaf (zaf (zaf (zap _ g2 7 (.string ⟨x.e.1.k.toArray⟩)) (zap _ g2 8 (int i64 0))) (zap _ g2 9 (int i64 0))) (zap _ g2 10 (int i64 0))) (zap _ g2 11 (bool false))) (zap _ g2 12 (slice none 0 0)));have L:Hid (Blk ((((((b.setCell ⟨g2,7,none⟩ (.string ⟨x.e.1.k.toArray⟩)).setCell ⟨g2,8,none⟩ (int i64 0)).setCell ⟨g2,9,none⟩ (int i64 0)).setCell ⟨g2,10,none⟩ (int i64 0)).setCell ⟨g2,11,none⟩ (bool false)).setCell ⟨g2,12,none⟩ (slice none 0 0)) g2 51 #[int i64 k,int i64 x.dst,int i64 x.fr,int i64 x.ep,int i64 x.op,int i64 0,bool false,.string ⟨x.e.1.k.toArray⟩,int i64 0,int i64 0,int i64 0,bool false,slice none 0 0,slice none 0 0,slice none 0 0,int i64 0,int i64 0]):=zhd (by have:=((((((a.out.set_ 7 (.string ⟨x.e.1.k.toArray⟩)).set_ 8 (int i64 0)).set_ 9 (int i64 0)).set_ 10 (int i64 0)).set_ 11 (bool false)).set_ 12 (slice none 0 0));simpa only [List.setIfInBounds_toArray,List.set_cons_succ,List.set_cons_zero] using this);have R:Hid (Blk ((((((b.setCell ⟨g2,7,none⟩ (.string ⟨x.e.1.k.toArray⟩)).setCell ⟨g2,8,none⟩ (int i64 0)).setCell ⟨g2,9,none⟩ (int i64 0)).setCell ⟨g2,10,none⟩ (int i64 0)).setCell ⟨g2,11,none⟩ (bool false)).setCell ⟨g2,12,none⟩ (slice none 0 0)) (w.heap.size+1) 51 #[int i64 0,int i64 0,int i64 0,int i64 0,int i64 0,int i64 0,bool false,.string ⟨#[]⟩,int i64 0,int i64 0,int i64 0,bool false,slice none 0 0,slice none 0 0,slice none 0 0,int i64 0,int i64 0]):=zhd (T.out.grown K.out (fun e=>by injection e with e;omega));have z:Hid (Below w.heap.size w ((((((b.setCell ⟨g2,7,none⟩ (.string ⟨x.e.1.k.toArray⟩)).setCell ⟨g2,8,none⟩ (int i64 0)).setCell ⟨g2,9,none⟩ (int i64 0)).setCell ⟨g2,10,none⟩ (int i64 0)).setCell ⟨g2,11,none⟩ (bool false)).setCell ⟨g2,12,none⟩ (slice none 0 0))):=zhd (J.out.grown K.out J.out.size fun g j=>by cases j;omega);clear a T J M K;go_upto_region 4 with fail
 obtain⟨w4,B⟩:∃ W,((((((b.setCell ⟨g2,7,none⟩ (.string ⟨x.e.1.k.toArray⟩)).setCell ⟨g2,8,none⟩ (int i64 0)).setCell ⟨g2,9,none⟩ (int i64 0)).setCell ⟨g2,10,none⟩ (int i64 0)).setCell ⟨g2,11,none⟩ (bool false)).setCell ⟨g2,12,none⟩ (slice none 0 0))=W:=⟨_,rfl⟩;rw [B] at L R z;simp only [B];clear B;go_wp2_with (first|(refine wpList_load_row rfl 51 _ rfl _ rfl _ _ _ _ (show _=_ from L.out) Tryz.underlying51 rfl (by kernel_rfl) ?_)|(refine zfr rfl 51 _ _ rfl (w.heap.size+1) 51 #[int i64 0,int i64 0,int i64 0,int i64 0,int i64 0,int i64 0,bool false,.string ⟨#[]⟩,int i64 0,int i64 0,int i64 0,bool false,slice none 0 0,slice none 0 0,slice none 0 0,int i64 0,int i64 0] #[int i64 k,int i64 x.dst,int i64 x.fr,int i64 x.ep,int i64 x.op,int i64 0,bool false,.string ⟨x.e.1.k.toArray⟩,int i64 0,int i64 0,int i64 0,bool false,slice none 0 0,slice none 0 0,slice none 0 0,int i64 0,int i64 0] R.out rfl rfl rfl (by kernel_rfl) (by kernel_rfl) ?_))
 intro wz Q N;have Y:=zhd Q;have U:=zhd (z.out.grown N z.out.size fun g j=>by cases j;omega);clear Q N;go_wp2;exact bodyPost_ret (v:=.agg #[int i64 k,int i64 x.dst,int i64 x.fr,int i64 x.ep,int i64 x.op,int i64 0,bool false,.string ⟨x.e.1.k.toArray⟩,int i64 0,int i64 0,int i64 0,bool false,slice none 0 0,slice none 0 0,slice none 0 0,int i64 0,int i64 0]) (results_cell_row (p:=4) (ty:=51) Tryz.results63 _ _ (w.heap.size+1) 51 #[int i64 k,int i64 x.dst,int i64 x.fr,int i64 x.ep,int i64 x.op,int i64 0,bool false,.string ⟨x.e.1.k.toArray⟩,int i64 0,int i64 0,int i64 0,bool false,slice none 0 0,slice none 0 0,slice none 0 0,int i64 0,int i64 0] (0,0) _ rfl Y.out Tryz.underlying51 rfl (by kernel_rfl)) rfl ⟨by rw [V.out],U.out⟩
end
end Go.Proofs.YtahnjkkgojfdmaaGreatDoor
