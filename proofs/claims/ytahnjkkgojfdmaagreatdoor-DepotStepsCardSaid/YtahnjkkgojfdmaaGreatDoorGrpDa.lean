import Derived.Test.YtahnjkkgojfdmaaGreatDoorDk
import Derived.Test.YtahnjkkgojfdmaaGreatDoorSzD
import Derived.Deep.Slices
import Derived.Deep.Fields
import Derived.Lib.SlBytesConst
import Derived.Deep.RegionHeld3
set_option maxRecDepth 100000
set_option maxHeartbeats 8000000
set_option linter.unusedVariables false
namespace Go.Proofs.YtahnjkkgojfdmaaGreatDoor
open Go.Obj(cells)
open Go.IntKind(i64)
open Go.Value(int slice)
section
open Go.RowKit Go.ChangeShapes Go.WideShapes Mem
structure DoV where
 kind:Int
 row:zb3
 kept:Int
instance doVInh:Inhabited DoV:=⟨⟨0,(none,[],0),0⟩⟩
structure DoOk (w:World) (B:Nat) (r:DoV):Prop where
 row:znu w B r.row
 k0:-9223372036854775808<=r.kind
 k1:r.kind<=9223372036854775807
 p0:-9223372036854775808<=r.kept
 p1:r.kept<=9223372036854775807
section
variable {H : Type} {enc : TypeId × Value → H} {w : World} {base : Nat} {held : Bool}
end
theorem DoOk.below{w w':World}{B:Nat}{r:DoV}(h:DoOk w B r)(hb:Below B w w'):DoOk w' B r:=⟨h.row.below hb,h.k0,h.k1,h.p0,h.p1⟩
end
section
open Go.RowKit Mem
def doS(L T:List UInt8)(n:Nat)(k:Int)(bs:List UInt8)(kp:Int):List UInt8×List UInt8×Nat×Int:=
 if k=1 then(if 4194304<L.length+T.length+bs.length then(L,T,n,3) else(L,T++bs,n,0))
 else if k=2 then(L++T,[],upN T n,0)
 else if k=3 then(if 4194304<bs.length then(L,T,n,3) else(bs,[],n,0))
 else if kp<0 then(L,T,n,2) else(L++T.take kp.toNat,[],n,0)
theorem zs1{F:Nat->Prop}{w:World}{b:Nat}{t:TypeId}{c:Array Value}(h:Blk w b t c)(g:¬ F b){a:List Value}(d:c.toList=a):zaK F w (some ⟨b,0,none⟩) a:=by
 subst d;refine Or.inr ⟨b,0,rfl,g,h.lt,fun j i=>?_⟩;rw [Nat.zero_add,h.cell j];simp
theorem znb{F:Nat->Prop}{w:World}{t:TypeId}{m:Nat×Nat}{a:Array Value}{b:List Value}(p:Nat)(d:p=w.heap.size)(g:¬ F p)(c:a.toList=b):zaK F (w.alloc (cells a t m)) (some ⟨p,0,none⟩) b:=by
 subst d;subst c;refine Or.inr ⟨w.heap.size,0,rfl,g,by simp,fun j h=>?_⟩;have:=cell_of_row (w.alloc (cells a t m)) w.heap.size j a t m (heap_alloc_new w _);rw [Nat.zero_add,this];simp
theorem zaK.alloc{F:Nat->Prop}{w:World}{A:Option Addr}{xs:List Value}(h:zaK F w A xs)(o:Obj):zaK F (w.alloc o) A xs:=h.touch ((Touch.refl F w).alloc o)
def zw7(w:World)(F:Nat->Prop):Prop:=∀ k,F k->w.heap.size<=k
theorem zqG{w w1:World}{F F':Nat->Prop}(h:zw7 w F)(d:w.heap.size<=w1.heap.size)(b:∀ k,F' k->F k\/w1.heap.size<=k):zw7 w F':=fun k c=>by
 rcases b k c with a|a
 ·exact h k a
 ·omega
end
section
open Go.RowKit Mem
theorem zaK.step{F F':Nat->Prop}{w w1:World}{A:Option Addr}{xs:List Value}(h:zaK F w A xs)(ht:Touch F w w1)(hf:∀ k,F' k->F k\/w.heap.size<=k):zaK F' w1 A xs:=by
 rcases h with h|⟨b,o,e,hb,hl,hc⟩
 ·exact Or.inl h
 ·refine Or.inr ⟨b,o,e,fun hx=>?_,Nat.lt_of_lt_of_le hl ht.size,fun j hj=>(World.cell?_of_block (ht.block b hl hb)).trans (hc j hj)⟩;rcases hf b hx with h1|h1
  ·exact hb h1
  ·omega
theorem zaK.below{F:Nat->Prop}{w w1:World}{A:Option Addr}{xs:List Value}(h:zaK F w A xs)(hb:Below w.heap.size w w1):zaK F w1 A xs:=h.touch (Touch.ofBelow hb)
theorem zgY{F:Nat->Prop}{w w1:World}{A:Option Addr}{n c:Nat}{d:List Value}(g:∀ k,F k->k<w.heap.size)(a:w1.ownsRow w.heap.size 5 1 (slice A n c) n d):zaK F w1 A d:=by
 rcases Row.of_own a with h|⟨b,o,rfl,j,hc⟩
 ·exact Or.inl h
 ·exact Or.inr ⟨b,o,rfl,fun i=>by have:=g b i;have l:=(zaJ a rfl).1;simp only at l;omega,j,hc⟩
structure Dk1 (w0 w:World) (F:Nat->Prop) (g:Nat) (L T:List UInt8) (q:Nat):Prop where
 new:zw7 w0 F
 at_:zcV dk0 w F g L T q
 bel:Below w0.heap.size w0 w
theorem Dk1.below{w0 w w1:World}{F:Nat->Prop}{g q:Nat}{L T:List UInt8}(h:Dk1 w0 w F g L T q)(hb:Below w.heap.size w w1):Dk1 w0 w1 F g L T q:=⟨h.new,h.at_.below hb,h.bel.trans (hb.mono h.bel.size)⟩
theorem Dk1.to{w0 w w1:World}{F F':Nat->Prop}{g q q':Nat}{L T L' T':List UInt8}(h:Dk1 w0 w F g L T q)(hf:∀ k,F' k->F k\/w.heap.size<=k)(hd:zcV dk0 w1 F' g L' T' q')(ht:Touch F w w1):Dk1 w0 w1 F' g L' T' q':=
 ⟨zqG h.new h.bel.size hf,hd,h.bel.trans (ht.below h.bel.size h.new)⟩
theorem zuR(q:Nat):upN [] q=q:=rfl
end
section
open Go.RowKit Mem
theorem zqH{w w1 g:World}{b d:List UInt8}{v:Value}{m:Nat}(p:d.length=m)(h:Below w.heap.size w w1)(j:g.ownsRow w.heap.size 5 1 v (b.length+m) (b.map zaa++d.map zaa)){A:Option Addr}{c:Nat}(o:w1.ownsRow w.heap.size 5 1 (slice A b.length c) b.length (b.map zaa))(l:w1.grownBy g (Value.slice A b.length c).ownBlock) :
 zex w.heap.size (b++d) w (.returned v) g:=by
 subst p;refine zck j (by rw [List.map_append]) (h.grown l h.size fun k i=>?_);cases A with
 | none=>cases i
 | some a=>
  have:a.block=k:=by simpa [Value.ownBlock] using i
  subst this;exact(zaJ o rfl).1
theorem zgr(n m c c':Nat)(A j:Option Addr)(b a:List UInt8)(i:n=b.length)(v:m=a.length)(w:World)(h:Row w w.heap.size A (b.map zaa))(p:Row w w.heap.size j (a.map zaa))(hl:n+m<=1073741824) :
 Calls Tryz.prog 132 #[slice A n c,slice j m c'] w (zex w.heap.size (b++a) w):=by
 obtain⟨z,x,G,y,D⟩:=info_parts zaB;have B:=zhd (ze2 w.heap.size c n A b i w h (Nat.le_refl _) (by omega));have g:=zhd p;have o:=zhd v;have r:=zhd hl;have u:=zhd i;clear h p v hl i;go_enter Tryz.func132,Tryz.ntmps132
 go_wp2_with fail
 refine B.out.mono ?_;rintro e w1 ⟨J,c1,rfl,q,d⟩;have k:=zhd q;have s:=zhd d;have g:=zhd ((g.out.below d).more d.size);clear q d;go_wp2_with (at_builtin;refine zan _ rfl _ _ 27 rfl w.heap.size 5 z (int .u8 0) 1 Tryz.underlying27 x G y D rfl _ _ _ rfl k.out w1.heap.size _ m c' (a.map zaa) rfl (by rw [List.length_map];exact o.out.symm) g.out (zaH a) (by have E:=r.out;have C:=u.out;unfold maxLen;omega) (by have E:=r.out;have C:=u.out;omega) s.out.size ?_)
 intro K I l t _;have F:=zhd (zqH o.out.symm s.out l k.out t);clear l t;go_wp2;go_ret;exact F.out
theorem zf9{w:World}{b i g:Nat}{x:Option Value}{u0 u1 u2:Value}(h:w.cell? ⟨b,i,none⟩=x)(c:b≠g):(((w.setCell ⟨g,0,none⟩ u0).setCell ⟨g,1,none⟩ u1).setCell ⟨g,2,none⟩ u2).cell? ⟨b,i,none⟩=x:=by
 have d:(((w.setCell ⟨g,0,none⟩ u0).setCell ⟨g,1,none⟩ u1).setCell ⟨g,2,none⟩ u2).heap[b]?=w.heap[b]?:=
  ((Below.heap_setCell _ ⟨g,2,none⟩ u2 b c).trans (Below.heap_setCell _ ⟨g,1,none⟩ u1 b c)).trans (Below.heap_setCell _ ⟨g,0,none⟩ u0 b c)
 exact(World.cell?_of_block (a:=⟨b,i,none⟩) d).trans h
theorem zfo{w w1:World}{g B:Nat}{x y z u0 u1 u2:Value}{h:Option Addr}{c1:Nat}{b:List UInt8}(o:Below w.heap.size w w1)(i:Blk w1 g 29 #[x,y,z])(d:w.heap.size<=g)(j:w.heap.size<=B)(c:w1.ownsRow B 5 1 (slice h b.length c1) b.length (b.map zaa)){F:Nat->Prop}(l:∀ k,F k->k<w.heap.size) :
 Blk (((w1.setCell ⟨g,0,none⟩ u0).setCell ⟨g,1,none⟩ u1).setCell ⟨g,2,none⟩ u2) g 29 #[u0,u1,u2]/\Below w.heap.size w (((w1.setCell ⟨g,0,none⟩ u0).setCell ⟨g,1,none⟩ u1).setCell ⟨g,2,none⟩ u2)/\
  zaK F (((w1.setCell ⟨g,0,none⟩ u0).setCell ⟨g,1,none⟩ u1).setCell ⟨g,2,none⟩ u2) h (b.map zaa)/\b.length<=c1:=by
 refine⟨((i.set_ 0 u0).set_ 1 u1).set_ 2 u2,((o.setCell (p:=⟨g,0,none⟩) d _).setCell (p:=⟨g,1,none⟩) d _).setCell (p:=⟨g,2,none⟩) d _,zgY l (zaj (zaz c j) fun a m=>?_),(zbR c).1⟩;have hne:=zcU c i (by decide) m;exact((Below.heap_setCell _ ⟨g,2,none⟩ u2 _ hne).trans (Below.heap_setCell _ ⟨g,1,none⟩ u1 _ hne)).trans (Below.heap_setCell _ ⟨g,0,none⟩ u0 _ hne)
def zkp(F:Nat->Prop)(s:List UInt8×List UInt8×Nat×Int)(w:World)(e:Ending)(w':World):Prop:=
 ∃ A1 c1 A2 c2,e=.returned (.tuple #[.agg #[slice A1 s.1.length c1,slice A2 s.2.1.length c2,int i64 (s.2.2.1:Int)],int i64 s.2.2.2])/\s.1.length<=c1/\s.2.1.length<=c2/\zaK F w' A1 (s.1.map zaa)/\zaK F w' A2 (s.2.1.map zaa)/\Below w.heap.size w w'
theorem zd9(F:Nat->Prop)(L T bs:List UInt8)(q:Nat)(k E:Int)(A o B:Option Addr)(n m l c c' d:Nat)(u:n=L.length)(y:m=T.length)(hl:l=bs.length)(hc:n<=c)(D:m<=c')(U:l<=140737488355328)(R:n+m<=4194304)(hq:q<=4611686018427387904)(w:World)(hF:∀ k,F k->k<w.heap.size)
 (h:zaK F w A (L.map zaa)) (h':zaK F w o (T.map zaa)) (i:zaK F w B (bs.map zaa)) :
 Calls Tryz.prog 101 #[.agg #[slice A n c,slice o m c',int i64 (q:Int)],.agg #[int i64 k,slice B l d,int i64 E]] w (zkp F (doS L T q k bs E) w):=by
 have ai:Below w.heap.size w (((w.alloc (cells #[slice A n c,slice o m c',int i64 (q:Int)] 29)).alloc (cells #[int i64 k,slice B l d,int i64 E] 166)).alloc (cells #[slice none 0 0,slice none 0 0,int i64 0] 29)).drew:=
  (((zbl).alloc (by simp) _).alloc (by simp;omega) _).drew
 have x:=zhd ai;have g:Hid (Blk (((w.alloc (cells #[slice A n c,slice o m c',int i64 (q:Int)] 29)).alloc (cells #[int i64 k,slice B l d,int i64 E] 166)).alloc (cells #[slice none 0 0,slice none 0 0,int i64 0] 29)).drew w.heap.size 29 #[slice A n c,slice o m c',int i64 (q:Int)]):=
  zhd ((((Blk.new w _ _).alloc _).alloc _).drew)
 have s:Hid (Blk (((w.alloc (cells #[slice A n c,slice o m c',int i64 (q:Int)] 29)).alloc (cells #[int i64 k,slice B l d,int i64 E] 166)).alloc (cells #[slice none 0 0,slice none 0 0,int i64 0] 29)).drew (w.heap.size+1) 166 #[int i64 k,slice B l d,int i64 E]):=
  zhd (by
   have:=Blk.new (w.alloc (cells #[slice A n c,slice o m c',int i64 (q:Int)] 29)) 166 #[int i64 k,slice B l d,int i64 E];simp at this;exact(this.alloc _).drew)
 have a:Hid (Blk (((w.alloc (cells #[slice A n c,slice o m c',int i64 (q:Int)] 29)).alloc (cells #[int i64 k,slice B l d,int i64 E] 166)).alloc (cells #[slice none 0 0,slice none 0 0,int i64 0] 29)).drew (w.heap.size+1+1) 29 #[slice none 0 0,slice none 0 0,int i64 0]):=
  zhd (by
   have:=Blk.new ((w.alloc (cells #[slice A n c,slice o m c',int i64 (q:Int)] 29)).alloc (cells #[int i64 k,slice B l d,int i64 E] 166)) 29 #[slice none 0 0,slice none 0 0,int i64 0];simp at this;exact this.drew)
 obtain⟨S,r⟩:∃ S,doS L T q k bs E=S:=⟨_,rfl⟩;rw [r];unfold doS at r;have HA:=zhd h;have aa:=zhd h';have ag:=zhd i;have ab:=zhd hF;have aq:(n:Int)<=4194304:=by omega
 have aj:(m:Int)<=4194304:=by omega
 have an:(n:Int)+(m:Int)<=4194304:=by omega
 have aA:(l:Int)<=140737488355328:=by omega
 have ax:(0:Int)<=(l:Int):=by omega
 have aD:(0:Int)<=(n:Int):=by omega
 have am:(0:Int)<=(m:Int):=by omega
 have az:(q:Int)<=4611686018427387904:=by omega
 have ay:(0:Int)<=(q:Int):=by omega
 clear h h' i hF ai;by_cases h1:k=1
 ·rw [if_pos h1] at r;subst h1;by_cases Y:4194304<L.length+T.length+bs.length
  ·have ae:(4194304:Int)<(n:Int)+(m:Int)+(l:Int):=by omega
   rw [if_pos Y] at r;have HX:Hid (∀ w',Below w.heap.size w w'->zkp F S w (.returned (.tuple #[.agg #[slice A n c,slice o m c',int i64 (q:Int)],int i64 3])) w'):=zhd fun w' i=>by
    subst r;exact⟨A,c,o,c',by rw [<-u,<-y],by rw [<-u];exact hc,by rw [<-y];exact D,HA.out.below i,aa.out.below i,i⟩
   clear Y;clear r u y hl hc D U R hq;go_enter Tryz.func101,Tryz.ntmps101
   go_wp2;exact bodyPost_ret (v:=.tuple #[.agg #[slice A n c,slice o m c',int i64 (q:Int)],int i64 3]) (by simp [results,Tryz.results101,go_sem]) rfl (HX.out _ (((zbl).alloc (by simp) _).alloc (by simp;omega) _))
  ·have ae:(n:Int)+(m:Int)+(l:Int)<=4194304:=by omega
   rw [if_neg Y] at r;obtain⟨X,O⟩:∃ X,T++bs=X:=⟨_,rfl⟩;have Z:Hid (∀ W,Below w.heap.size w W->Calls Tryz.prog 132 #[slice o m c',slice B l d] W (zex W.heap.size X W)):=zhd fun W i=>by
    rw [<-O];exact zgr m l c' d o B T bs y hl W (aa.out.below i).row (ag.out.below i).row (by omega)
   rw [O] at r;have HE:=zhd (And.intro u (And.intro y (And.intro hl (And.intro hc D))));clear Y u y hl hc D U R hq O;go_enter Tryz.func101,Tryz.ntmps101
   go_wp2_with fail
   go_region_held3 (fun w'=>w'.cell? ⟨w.heap.size,0,none⟩=some (slice A n c)/\w'.cell? ⟨w.heap.size,1,none⟩=some (slice o m c')/\w'.cell? ⟨w.heap.size,2,none⟩=some (int i64 (q:Int))/\w'.cell? ⟨w.heap.size+1,1,none⟩=some (slice B l d)/\w'.cell? ⟨w.heap.size+1,2,none⟩=some (int i64 E))
    (first|exact⟨G,I,N,K,J⟩|exact⟨zf9 G (by omega),zf9 I (by omega),zf9 N (by omega),zf9 K (by omega),zf9 J (by omega)⟩|exact⟨g.out.cell 0,g.out.cell 1,g.out.cell 2,s.out.cell 1,s.out.cell 2⟩|go_keep)
    ((go_at_call 132;refine(Z.out _ x.out).mono ?_;rintro e w1 ⟨C,c1,rfl,M,i⟩;have V:=zhd M;have b:=zhd i;(have G:=(g.out.below b.out g.out.lt).cell 0);(have I:=(g.out.below b.out g.out.lt).cell 1);(have N:=(g.out.below b.out g.out.lt).cell 2);(have K:=(s.out.below b.out s.out.lt).cell 1);(have J:=(s.out.below b.out s.out.lt).cell 2);(have r0:=(a.out.below b.out a.out.lt).cell 0);(have r1:=(a.out.below b.out a.out.lt).cell 1);(have r2:=(a.out.below b.out a.out.lt).cell 2);(have z0:=(a.out.below b.out a.out.lt).frozen 0);(have z1:=(a.out.below b.out a.out.lt).frozen 1);(have z2:=(a.out.below b.out a.out.lt).frozen 2);clear M i))
   ·have t:=zfo (u0:=slice A n c) (u1:=slice C X.length c1) (u2:=int i64 (q:Int)) (x.out.trans (b.out.mono x.out.size)) (a.out.below b.out a.out.lt) (by omega) x.out.size V.out ab.out;have Q:=t.1.cell 0;have g1:=t.1.cell 1;have g2:=t.1.cell 2;have z:=zhd t;clear t;go_wp2;refine bodyPost_ret (v:=.tuple #[.agg #[slice A n c,slice C X.length c1,int i64 (q:Int)],int i64 0]) (by simp [results,Tryz.results101,go_sem,Q,g1,g2]) rfl ?_;subst r;exact⟨A,c,C,c1,by rw [<-HE.out.1],by rw [<-HE.out.1];exact HE.out.2.2.2.1,z.out.2.2.2,HA.out.below z.out.2.1,z.out.2.2.1,z.out.2.1⟩
 rw [if_neg h1] at r;by_cases h2:k=2
 ·rw [if_pos h2] at r;subst h2;by_cases hT:T.length=0
  ·have ak:m=0:=by omega
   obtain rfl:T=[]:=List.eq_nil_of_length_eq_zero hT;subst ak;rw [List.append_nil,zuR] at r;have HX:Hid (∀ w',Below w.heap.size w w'->zkp F S w (.returned (.tuple #[.agg #[slice A n c,slice o 0 c',int i64 (q:Int)],int i64 0])) w'):=zhd fun w' i=>by
    subst r;exact⟨A,c,o,c',by rw [<-u];rfl,by rw [<-u];exact hc,D,HA.out.below i,aa.out.below i,i⟩
   clear h1 hT aj an am g s a x;clear r u hl hc D U R hq y;go_enter Tryz.func101,Tryz.ntmps101
   go_wp2;exact bodyPost_ret (v:=.tuple #[.agg #[slice A n c,slice o 0 c',int i64 (q:Int)],int i64 0]) (by simp [results,Tryz.results101,go_sem]) rfl (HX.out _ (((zbl).alloc (by simp) _).alloc (by simp;omega) _))
  ·have aB:(0:Int)<(m:Int):=by omega
   obtain⟨X,O⟩:∃ X,L++T=X:=⟨_,rfl⟩;have Z:Hid (∀ W,Below w.heap.size w W->Calls Tryz.prog 132 #[slice A n c,slice o m c'] W (zex W.heap.size X W)):=zhd fun W i=>by
    rw [<-O];exact zgr n m c c' A o L T u y W (HA.out.below i).row (aa.out.below i).row (by omega)
   rw [O,show upN T q=q+1 from if_neg hT] at r;have HE:=zhd (And.intro u (And.intro y (And.intro hl (And.intro hc D))));clear h1 hT u y hl hc D U R hq O;go_enter Tryz.func101,Tryz.ntmps101
   go_wp2_with fail
   go_region_held3 (fun w'=>w'.cell? ⟨w.heap.size,0,none⟩=some (slice A n c)/\w'.cell? ⟨w.heap.size,1,none⟩=some (slice o m c')/\w'.cell? ⟨w.heap.size,2,none⟩=some (int i64 (q:Int))/\w'.cell? ⟨w.heap.size+1,1,none⟩=some (slice B l d)/\w'.cell? ⟨w.heap.size+1,2,none⟩=some (int i64 E))
    (first|exact⟨G,I,N,K,J⟩|exact⟨zf9 G (by omega),zf9 I (by omega),zf9 N (by omega),zf9 K (by omega),zf9 J (by omega)⟩|exact⟨g.out.cell 0,g.out.cell 1,g.out.cell 2,s.out.cell 1,s.out.cell 2⟩|go_keep)
    ((go_at_call 132;refine(Z.out _ x.out).mono ?_;rintro e w1 ⟨C,c1,rfl,M,i⟩;have V:=zhd M;have b:=zhd i;(have G:=(g.out.below b.out g.out.lt).cell 0);(have I:=(g.out.below b.out g.out.lt).cell 1);(have N:=(g.out.below b.out g.out.lt).cell 2);(have K:=(s.out.below b.out s.out.lt).cell 1);(have J:=(s.out.below b.out s.out.lt).cell 2);(have r0:=(a.out.below b.out a.out.lt).cell 0);(have r1:=(a.out.below b.out a.out.lt).cell 1);(have r2:=(a.out.below b.out a.out.lt).cell 2);(have z0:=(a.out.below b.out a.out.lt).frozen 0);(have z1:=(a.out.below b.out a.out.lt).frozen 1);(have z2:=(a.out.below b.out a.out.lt).frozen 2);clear M i))
   ·have t:=zfo (u0:=slice C X.length c1) (u1:=slice none 0 0) (u2:=int i64 (IntKind.i64.wrap ((q:Int)+1))) (x.out.trans (b.out.mono x.out.size)) (a.out.below b.out a.out.lt) (by omega) x.out.size V.out ab.out;have Q:=t.1.cell 0;have g1:=t.1.cell 1;have g2:=t.1.cell 2;have z:=zhd t;clear t;go_wp2;refine bodyPost_ret (v:=.tuple #[.agg #[slice C X.length c1,slice none 0 0,int i64 (IntKind.i64.wrap ((q:Int)+1))],int i64 0]) (by simp [results,Tryz.results101,go_sem,Q,g1,g2]) rfl ?_;subst r;have ao:IntKind.i64.wrap ((q:Int)+1)=((q+1:Nat):Int):=by rw [IntKind.wrap_i64];omega
    exact⟨C,c1,none,0,by rw [ao];rfl,z.out.2.2.2,Nat.le_refl _,z.out.2.2.1,Or.inl rfl,z.out.2.1⟩
 rw [if_neg h2] at r;by_cases h3:k=3
 ·rw [if_pos h3] at r;subst h3;by_cases Y:4194304<bs.length
  ·have ae:(4194304:Int)<(l:Int):=by omega
   rw [if_pos Y] at r;have HX:Hid (∀ w',Below w.heap.size w w'->zkp F S w (.returned (.tuple #[.agg #[slice A n c,slice o m c',int i64 (q:Int)],int i64 3])) w'):=zhd fun w' i=>by
    subst r;exact⟨A,c,o,c',by rw [<-u,<-y],by rw [<-u];exact hc,by rw [<-y];exact D,HA.out.below i,aa.out.below i,i⟩
   clear Y h1 h2;clear r u y hl hc D U R hq;go_enter Tryz.func101,Tryz.ntmps101
   go_wp2;exact bodyPost_ret (v:=.tuple #[.agg #[slice A n c,slice o m c',int i64 (q:Int)],int i64 3]) (by simp [results,Tryz.results101,go_sem]) rfl (HX.out _ (((zbl).alloc (by simp) _).alloc (by simp;omega) _))
  ·have ae:(l:Int)<=4194304:=by omega
   rw [if_neg Y] at r;have Z:Hid (∀ W,Below w.heap.size w W->Calls Tryz.prog 54 #[slice B l d] W (zex W.heap.size bs W)):=zhd fun W i=>
    ze2 _ d l B bs hl W (ag.out.below i).row (Nat.le_refl _) (by omega)
   have HE:=zhd (And.intro u (And.intro y (And.intro hl (And.intro hc D))));clear Y h1 h2 u y hl hc D U R hq;go_enter Tryz.func101,Tryz.ntmps101
   go_wp2_with fail
   go_region_held3 (fun w'=>w'.cell? ⟨w.heap.size,0,none⟩=some (slice A n c)/\w'.cell? ⟨w.heap.size,1,none⟩=some (slice o m c')/\w'.cell? ⟨w.heap.size,2,none⟩=some (int i64 (q:Int))/\w'.cell? ⟨w.heap.size+1,1,none⟩=some (slice B l d)/\w'.cell? ⟨w.heap.size+1,2,none⟩=some (int i64 E))
    (first|exact⟨G,I,N,K,J⟩|exact⟨zf9 G (by omega),zf9 I (by omega),zf9 N (by omega),zf9 K (by omega),zf9 J (by omega)⟩|exact⟨g.out.cell 0,g.out.cell 1,g.out.cell 2,s.out.cell 1,s.out.cell 2⟩|go_keep)
    ((go_at_call 54;refine(Z.out _ x.out).mono ?_;rintro e w1 ⟨C,c1,rfl,M,i⟩;have V:=zhd M;have b:=zhd i;(have G:=(g.out.below b.out g.out.lt).cell 0);(have I:=(g.out.below b.out g.out.lt).cell 1);(have N:=(g.out.below b.out g.out.lt).cell 2);(have K:=(s.out.below b.out s.out.lt).cell 1);(have J:=(s.out.below b.out s.out.lt).cell 2);(have r0:=(a.out.below b.out a.out.lt).cell 0);(have r1:=(a.out.below b.out a.out.lt).cell 1);(have r2:=(a.out.below b.out a.out.lt).cell 2);(have z0:=(a.out.below b.out a.out.lt).frozen 0);(have z1:=(a.out.below b.out a.out.lt).frozen 1);(have z2:=(a.out.below b.out a.out.lt).frozen 2);clear M i))
   ·have t:=zfo (u0:=slice C bs.length c1) (u1:=slice none 0 0) (u2:=int i64 (q:Int)) (x.out.trans (b.out.mono x.out.size)) (a.out.below b.out a.out.lt) (by omega) x.out.size V.out ab.out;have Q:=t.1.cell 0;have g1:=t.1.cell 1;have g2:=t.1.cell 2;have z:=zhd t;clear t;go_wp2;refine bodyPost_ret (v:=.tuple #[.agg #[slice C bs.length c1,slice none 0 0,int i64 (q:Int)],int i64 0]) (by simp [results,Tryz.results101,go_sem,Q,g1,g2]) rfl ?_;subst r;exact⟨C,c1,none,0,rfl,z.out.2.2.2,Nat.le_refl _,z.out.2.2.1,Or.inl rfl,z.out.2.1⟩
 rw [if_neg h3] at r;by_cases h4:E<0
 ·rw [if_pos h4] at r;have HX:Hid (∀ w',Below w.heap.size w w'->zkp F S w (.returned (.tuple #[.agg #[slice A n c,slice o m c',int i64 (q:Int)],int i64 2])) w'):=zhd fun w' i=>by
   subst r;exact⟨A,c,o,c',by rw [<-u,<-y],by rw [<-u];exact hc,by rw [<-y];exact D,HA.out.below i,aa.out.below i,i⟩
  clear r u y hl hc D U R hq;go_enter Tryz.func101,Tryz.ntmps101
  go_wp2;exact bodyPost_ret (v:=.tuple #[.agg #[slice A n c,slice o m c',int i64 (q:Int)],int i64 2]) (by simp [results,Tryz.results101,go_sem]) rfl (HX.out _ (((zbl).alloc (by simp) _).alloc (by simp;omega) _))
 ·rw [if_neg h4] at r;obtain⟨p,rfl⟩:∃ p:Nat,E=(p:Int):=⟨E.toNat,by omega⟩;rw [Int.toNat_natCast] at r;obtain⟨j,hj⟩:∃ j,min p T.length=j:=⟨_,rfl⟩;have af:T.take p=T.take j:=by rw [List.take_eq_take_iff];omega
  obtain⟨X,O⟩:∃ X,L++T.take p=X:=⟨_,rfl⟩;have hcut:=fun W=>zbk (P:=Tryz.prog) (w:=W) 27 5 _ _ Tryz.underlying27 zaB o m c' j (by omega);have Z:Hid (∀ W,Below w.heap.size w W->Calls Tryz.prog 132 #[slice A n c,slice o j c'] W (zex W.heap.size X W)):=zhd fun W i=>by
   rw [<-O,af];exact zgr n j c c' A o L (T.take j) u (by rw [List.length_take];omega) W (HA.out.below i).row (by rw [List.map_take];exact zby (aa.out.below i).row j) (by omega)
  rw [O] at r;have aw:(0:Int)<=(p:Int):=by omega
  have HE:=zhd (And.intro u (And.intro y (And.intro hl (And.intro hc D))));by_cases ah:m<p
  ·obtain rfl:j=m:=by omega
   have al:(j:Int)<(p:Int):=by omega
   clear h4 ah hj af O u hl hc D U R hq y;go_enter Tryz.func101,Tryz.ntmps101
   go_wp2_with fail
   go_region_held3 (fun w'=>w'.cell? ⟨w.heap.size,0,none⟩=some (slice A n c)/\w'.cell? ⟨w.heap.size,1,none⟩=some (slice o j c')/\w'.cell? ⟨w.heap.size,2,none⟩=some (int i64 (q:Int))/\w'.cell? ⟨w.heap.size+1,1,none⟩=some (slice B l d)/\w'.cell? ⟨w.heap.size+1,2,none⟩=some (int i64 (p:Int)))
    (first|exact⟨G,I,N,K,J⟩|exact⟨zf9 G (by omega),zf9 I (by omega),zf9 N (by omega),zf9 K (by omega),zf9 J (by omega)⟩|exact⟨g.out.cell 0,g.out.cell 1,g.out.cell 2,s.out.cell 1,s.out.cell 2⟩|go_keep)
    ((go_at_call 132;refine(Z.out _ x.out).mono ?_;rintro e w1 ⟨C,c1,rfl,M,i⟩;have V:=zhd M;have b:=zhd i;(have G:=(g.out.below b.out g.out.lt).cell 0);(have I:=(g.out.below b.out g.out.lt).cell 1);(have N:=(g.out.below b.out g.out.lt).cell 2);(have K:=(s.out.below b.out s.out.lt).cell 1);(have J:=(s.out.below b.out s.out.lt).cell 2);(have r0:=(a.out.below b.out a.out.lt).cell 0);(have r1:=(a.out.below b.out a.out.lt).cell 1);(have r2:=(a.out.below b.out a.out.lt).cell 2);(have z0:=(a.out.below b.out a.out.lt).frozen 0);(have z1:=(a.out.below b.out a.out.lt).frozen 1);(have z2:=(a.out.below b.out a.out.lt).frozen 2);clear M i))
   ·have t:=zfo (u0:=slice C X.length c1) (u1:=slice none 0 0) (u2:=int i64 (q:Int)) (x.out.trans (b.out.mono x.out.size)) (a.out.below b.out a.out.lt) (by omega) x.out.size V.out ab.out;have Q:=t.1.cell 0;have g1:=t.1.cell 1;have g2:=t.1.cell 2;have z:=zhd t;clear t;go_wp2;refine bodyPost_ret (v:=.tuple #[.agg #[slice C X.length c1,slice none 0 0,int i64 (q:Int)],int i64 0]) (by simp [results,Tryz.results101,go_sem,Q,g1,g2]) rfl ?_;subst r;exact⟨C,c1,none,0,rfl,z.out.2.2.2,Nat.le_refl _,z.out.2.2.1,Or.inl rfl,z.out.2.1⟩
  ·obtain rfl:j=p:=by omega
   have al:(j:Int)<=(m:Int):=by omega
   have au:((m:Int)<(j:Int))=False:=by simp;omega
   clear h4 ah hj af O u y hl hc D U R hq;go_enter Tryz.func101,Tryz.ntmps101
   go_wp2_with fail
   go_region_held3 (fun w'=>w'.cell? ⟨w.heap.size,0,none⟩=some (slice A n c)/\w'.cell? ⟨w.heap.size,1,none⟩=some (slice o m c')/\w'.cell? ⟨w.heap.size,2,none⟩=some (int i64 (q:Int))/\w'.cell? ⟨w.heap.size+1,1,none⟩=some (slice B l d)/\w'.cell? ⟨w.heap.size+1,2,none⟩=some (int i64 (j:Int)))
    (first|exact⟨G,I,N,K,J⟩|exact⟨zf9 G (by omega),zf9 I (by omega),zf9 N (by omega),zf9 K (by omega),zf9 J (by omega)⟩|exact⟨g.out.cell 0,g.out.cell 1,g.out.cell 2,s.out.cell 1,s.out.cell 2⟩|go_keep)
    ((go_at_call 132;refine(Z.out _ x.out).mono ?_;rintro e w1 ⟨C,c1,rfl,M,i⟩;have V:=zhd M;have b:=zhd i;(have G:=(g.out.below b.out g.out.lt).cell 0);(have I:=(g.out.below b.out g.out.lt).cell 1);(have N:=(g.out.below b.out g.out.lt).cell 2);(have K:=(s.out.below b.out s.out.lt).cell 1);(have J:=(s.out.below b.out s.out.lt).cell 2);(have r0:=(a.out.below b.out a.out.lt).cell 0);(have r1:=(a.out.below b.out a.out.lt).cell 1);(have r2:=(a.out.below b.out a.out.lt).cell 2);(have z0:=(a.out.below b.out a.out.lt).frozen 0);(have z1:=(a.out.below b.out a.out.lt).frozen 1);(have z2:=(a.out.below b.out a.out.lt).frozen 2);clear M i))
   ·have t:=zfo (u0:=slice C X.length c1) (u1:=slice none 0 0) (u2:=int i64 (q:Int)) (x.out.trans (b.out.mono x.out.size)) (a.out.below b.out a.out.lt) (by omega) x.out.size V.out ab.out;have Q:=t.1.cell 0;have g1:=t.1.cell 1;have g2:=t.1.cell 2;have z:=zhd t;clear t;go_wp2;refine bodyPost_ret (v:=.tuple #[.agg #[slice C X.length c1,slice none 0 0,int i64 (q:Int)],int i64 0]) (by simp [results,Tryz.results101,go_sem,Q,g1,g2]) rfl ?_;subst r;exact⟨C,c1,none,0,rfl,z.out.2.2.2,Nat.le_refl _,z.out.2.2.1,Or.inl rfl,z.out.2.1⟩
end
end Go.Proofs.YtahnjkkgojfdmaaGreatDoor
