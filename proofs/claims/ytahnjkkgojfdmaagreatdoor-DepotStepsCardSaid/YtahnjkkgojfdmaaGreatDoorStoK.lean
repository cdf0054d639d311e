import Derived.Test.YtahnjkkgojfdmaaGreatDoorSto
import Derived.Test.YtahnjkkgojfdmaaGreatDoorLtZ
set_option maxRecDepth 10000
set_option maxHeartbeats 4000000
set_option linter.unusedVariables false
namespace Go.Proofs.YtahnjkkgojfdmaaGreatDoor
open Go.IntKind(i64)
open Go.Value(int pointer)
section
open Go.RowKit Mem Be Word Frm Go.Maps
variable {KS KS' : StK}
structure Found (w:World) (B b0:Nat) (T:List EV) (mo:Option Nat):Prop where
 blk:Blk w b0 106 #[.map mo]
 map:zjo w mo T
 inM:∀ b,mo=some b->B<=b
 bB:B<=b0
 srt:zaO kV T
 own:zcM w B T
 ok:∀ x∈T,okE x.1
theorem zsR{T:List EntP}(h:zaO kE T){e:EntP}(b:zbF kE T e.k=some e):zbZ kE T e=T:=by
 refine ziB (zcx h) h fun k=>?_;rw [zfG];by_cases a:kE e=k
 ·rw [if_pos a,<-a];exact b.symm
 ·rw [if_neg a]
theorem Found.below{w w':World}{B b0:Nat}{T:List EV}{mo:Option Nat}(h:Found w B b0 T mo)(hb:Below w.heap.size w w'):Found w' B b0 T mo:=
 ⟨h.blk.below hb h.blk.lt,h.map.below hb,h.inM,h.bB,h.srt,zeK h.own hb,h.ok⟩
theorem Found.val{w:World}{B b0:Nat}{T:List EV}{mo:Option Nat}(h:Found w B b0 T mo)(k:List UInt8):ValOk w (ofV T k).1.has (ofV T k).2.1 (ofV T k).1.v (ofV T k).2.2:=by
 unfold ofV;cases hg:zbF kV T k with
 | none=>exact⟨Row.nil _ _ _,by simp [evN,zoM],Nat.le_refl _⟩
 | some x=>
  have hx:=(zb7 hg).1;exact(show ValOk w x.1.has x.2.1 x.1.v x.2.2 from ze8 (h.own x hx) (by have:=(zah (h.ok x hx)).2.2.1;omega))
def zbL(w w':World):Prop:=∀ b o v,w.cell? ⟨b,o,none⟩=some v->(∀ m,v≠.map m)->w'.cell? ⟨b,o,none⟩=some v
theorem zbL.refl(w:World):zbL w w:=fun _ _ _ h _=>h
theorem zbL.trans{a b c:World}(h:zbL a b)(h':zbL b c):zbL a c:=fun x o v hv hm=>h' x o v (h x o v hv hm) hm
theorem zbL.below{w w':World}(h:Below w.heap.size w w'):zbL w w':=fun b o v hv _=>(h.cell (p:=⟨b,o,none⟩) (zaq hv)).trans hv
theorem zd6{w w':World}{B:Nat}{A:Option Addr}{a:List Value}(h:Row w B A a)(g:zbL w w')(i:∀ x∈a,∀ m,x≠.map m):Row w' B A a:=by
 rcases h with h|⟨b,o,e,d,hc⟩
 ·exact Or.inl h
 ·exact Or.inr ⟨b,o,e,d,fun j c=>g b (o+j) _ (hc j c) (i _ (List.getElem_mem c))⟩
theorem zeS(bs:List UInt8):∀ x∈bs.map zaa,∀ m,x≠.map m:=by
 intro x a m;obtain⟨b,_,rfl⟩:=List.mem_map.1 a;simp [zaa]
theorem zkg{g r:World}{B i:Nat}{T:List EV}{F:Option Nat}{z:EV}{e:Ending}(h:Found g B i T F)(K:zix g B z)(ok:okE z.1)(t:zsi i 0 F T z g e r):e=.returned (.tuple #[])/\(∃ N,Found r B i (zbZ kV T z) N)/\Below B g r/\zbL g r:=by
 obtain⟨L,t⟩:=t;refine⟨L,?_⟩;have D:∀ x∈zbZ kV T z,okE x.1:=fun x d=>by
  rcases zcr d with rfl|d
  ·exact ok
  ·exact h.ok x d
 have m:zcM g B (zbZ kV T z):=fun x d=>by
  rcases zcr d with rfl|d
  ·exact K
  ·exact h.own x d
 rcases t with⟨b,rfl,u,c⟩|⟨rfl,b,I,u,c⟩
 ·have s:=zcZ h.map;have J:b≠i:=s.ne h.blk;refine⟨⟨some b,zlj h.blk (c.block _ h.blk.lt fun e=>J e.symm),Or.inr ⟨b,rfl,u⟩,h.inM,h.bB,zcx h.srt,fun x d=>zaj (m x d) fun a q=>c.block _ (zaJ (m x d) q).2.1 (zbU (m x d) s q),D⟩,?_⟩;have E:=h.blk.lt;have I:=s.lt;have R:=h.inM b rfl;refine⟨⟨c.os,c.tape,c.output,c.size,fun k A=>c.block k (by have:=h.bB;omega) (by omega)⟩,fun l o v j _=>?_⟩;exact(zgH (p:=⟨l,o,none⟩) (c.block l (zaq j) (zlv s j ∘ Eq.symm))).trans j
 ·have O:=zcd c;have G:∀ k,k<g.heap.size->k≠i->r.heap[k]?=g.heap[k]?:=fun k A M=>(c.block k (by simpa [World.setCell] using A) (fun h=>h)).trans (Below.heap_setCell g ⟨i,0,none⟩ _ k M);have E:=h.blk.lt;refine⟨⟨some b,?_,Or.inr ⟨b,rfl,u⟩,fun l C=>by injection C with C;subst C;have:=h.bB;omega,h.bB,zcx h.srt,fun x d=>zaj (m x d) fun a q=>G _ (zaJ (m x d) q).2.1 (zcU (m x d) h.blk (by decide) q),D⟩,?_⟩
  ·have:=h.blk.set_ 0 (.map (some b));exact zlj (by simpa using this) (c.block i (by simpa [World.setCell] using E) (fun h=>h))
  ·refine⟨⟨c.os,c.tape,c.output,O,fun k A=>G k (by have:=h.bB;omega) (by have:=h.bB;omega)⟩,fun l o v j Q=>?_⟩;refine(zgH (p:=⟨l,o,none⟩) (c.block l (by have:=zaq j;simpa [World.setCell] using this) (fun h=>h))).trans ?_;refine(World.cell?_setCell_other _ _ _ _ (fun e=>?_)).trans j;injection e with e1 e2;subst e1;subst e2;have y:=h.blk.cell 0;rw [j] at y;simp at y;exact Q _ y
def zqt(B b0:Nat)(T:List EntP)(x:EntP)(w:World)(e:Ending)(w':World):Prop:=e=.returned (.tuple #[])/\(∃ T' mo',Found w' B b0 T' mo'/\zcO T'=zhk T x)/\Below B w w'/\w.heap.size<=w'.heap.size/\zbL w w'
theorem zuK(B i:Nat)(T:List EV)(m:Option Nat)(x:EV)(ok:okE x.1)(J:T.length<=100000000)(hc:zdC x.1.s x.1.u x.1.o (ofV T x.1.k).1.s (ofV T x.1.k).1.u (ofV T x.1.k).1.o=-1)(w:World)(h:Found w B i T m)(K:ValOk w x.1.has x.2.1 x.1.v x.2.2) :
 Calls Tryz.prog 154 #[evV x,pointer (some ⟨i,0,none⟩)] w (zqt B i (zcO T) x.1 w):=by
 have d:=zhd h;have U:=zhd K;have ae:=zhd ok;have HN:=zhd J;have c0:=h.blk.cell 0;have af:i<w.heap.size:=h.blk.lt;have C:∀ o,Below w.heap.size w (w.alloc o).drew:=fun o=>(zbl).drew;obtain⟨y,c⟩:∃ y,ofV T x.1.k=y:=⟨_,rfl⟩;have HY:=zhd c;have Y:=zhd (show ValOk w y.1.has y.2.1 y.1.v y.2.2 by rw [<-c];exact h.val x.1.k);have S:Hid (∀ o,Calls Tryz.prog 73 #[.map m,.string ⟨x.1.k.toArray⟩] (w.alloc o).drew (IsE y (w.alloc o).drew)):=zhd fun o=>by
  rw [<-c];exact zfc T m x.1.k (by have:=(zah ok).2.1;unfold maxLen;omega) _ (h.map.below (C o))
 rw [c] at hc;have G:=zhd hc;have R:Hid (∀ W,Below w.heap.size w W->Calls Tryz.prog 155 #[zaT ⟨x.1.k.toArray⟩ x.1.s x.1.u x.1.o x.1.has x.2.1 x.1.v.length x.2.2,zaT ⟨y.1.k.toArray⟩ y.1.s y.1.u y.1.o y.1.has y.2.1 y.1.v.length y.2.2] W (zlb W.heap.size ⟨y.1.k.toArray⟩ y.1.s y.1.u y.1.o y.1.has y.1.v W)):=zhd fun W a=>
  zr1 ⟨x.1.k.toArray⟩ ⟨y.1.k.toArray⟩ x.1.s x.1.u x.1.o y.1.s y.1.u y.1.o x.1.has y.1.has x.2.1 y.2.1 x.1.v y.1.v x.1.v.length x.2.2 y.1.v.length y.2.2 rfl rfl W (U.out.below a) (Y.out.below a) G.out
 have l:Hid (zbF kE (zcO T) x.1.k=some y.1/\y∈T):=zhd (by
  cases b:zbF kV T x.1.k with
  | none=>
   exfalso
   have:y=evN x.1.k:=by rw [<-c];unfold ofV;rw [b];rfl
   subst this;have I:zeu x.1 (zoM x.1.k)=-1:=hc;exact zjW ok x.1.k (by rw [I];decide)
  | some z=>
   have:y=z:=by rw [<-c];unfold ofV;rw [b];rfl
   subst this;exact⟨(zlr (f:=Prod.fst) (fun x=>rfl) T x.1.k).trans (by rw [b];rfl),(zb7 b).1⟩)
 clear h K ok J C c hc;have t:Hid (Blk (w.alloc (.cells ⟨zbf x⟩ 46)).drew w.heap.size 46 ⟨zbf x⟩):=zhd (by exact Blk.new w 46 ⟨zbf x⟩);have D:Hid (Below w.heap.size w (w.alloc (.cells ⟨zbf x⟩ 46)).drew):=zhd (zbl).drew;unfold evV;go_enter Tryz.func154,Tryz.ntmps154
 go_wp2_with fail
 go_region_law (first
  | (go_simp;go_at_call 73;refine(S.out _).mono ?_;rintro e N ⟨rfl,a⟩;(have j:Hid (Below w.heap.size w N):=zhd (D.out.trans (a.mono D.out.size)));(have L:Blk N w.heap.size 46 ⟨zbf x⟩:=t.out.below a t.out.lt);(obtain⟨k0,k1,k2,k3,k4,k5⟩:=ent_cells L);clear a L;unfold evV)
  | (go_simp;go_at_call 155;refine(R.out _ j.out).mono ?_;rintro e r ⟨E,c3,rfl,M,a⟩;(have q:Hid (Below w.heap.size w r):=zhd (j.out.trans (a.mono j.out.size)));(have g:=d.out.below q.out);(have aa:=zhd g);(have V:Hid (zix r B (y.1,E,c3)):=zhd (zaz M (by have h1:=d.out.bB;have I:=j.out.size;omega)));(have ab:=zhd (ziE T m i 0 (y.1,E,c3) (zah (d.out.ok y l.out.2)).2.1 HN.out r (g.blk.cell 0) (g.blk.frozen 0) g.map));clear M a g)
  | (go_simp;go_at_call 124;refine ab.out.mono ?_;rintro e w6 Q;obtain⟨rfl,⟨X,F⟩,O,A⟩:=zkg aa.out V.out (d.out.ok y l.out.2) Q;(have p:=zhd (And.intro F (And.intro O A)));clear Q F O A))
 all_goals
  go_wp2;go_end0
  refine⟨rfl,⟨_,X,p.out.1,?_⟩,(q.out.mono (by have:=d.out.bB;omega)).trans p.out.2.1,Nat.le_trans q.out.size p.out.2.1.size,(zbL.below q.out).trans p.out.2.2⟩;have Z:x.1.k=y.1.k:=(zb7 l.out.1).2.symm;have b:=l.out.1;rw [zlC,show zhk (zcO T) x.1=zcO T from if_pos (by unfold zeu ofT;rw [b];show zdC _ _ _ _ _ _<0;have:=G.out;simp only [Option.getD_some];omega)];rw [Z] at b;exact zsR (ziU.1 d.out.srt) b
theorem zuL(B c:Nat)(T:List EV)(i:Option Nat)(x:EV)(ok:okE x.1)(F:T.length<=100000000)(hc:zdC x.1.s x.1.u x.1.o (ofV T x.1.k).1.s (ofV T x.1.k).1.u (ofV T x.1.k).1.o≠-1)(w:World)(h:Found w B c T i)(G:ValOk w x.1.has x.2.1 x.1.v x.2.2) :
 Calls Tryz.prog 154 #[evV x,pointer (some ⟨c,0,none⟩)] w (zqt B c (zcO T) x.1 w):=by
 have p:=zhd h;have R:=zhd G;have D:=zhd ok;have HN:=zhd F;have c0:=h.blk.cell 0;have ae:c<w.heap.size:=h.blk.lt;have t:∀ o,Below w.heap.size w (w.alloc o).drew:=fun o=>(zbl).drew;obtain⟨y,d⟩:∃ y,ofV T x.1.k=y:=⟨_,rfl⟩;have N:=zhd d;have Y:=zhd (show ValOk w y.1.has y.2.1 y.1.v y.2.2 by rw [<-d];exact h.val x.1.k);have Q:Hid (∀ o,Calls Tryz.prog 73 #[.map i,.string ⟨x.1.k.toArray⟩] (w.alloc o).drew (IsE y (w.alloc o).drew)):=zhd fun o=>by
  rw [<-d];exact zfc T i x.1.k (by have:=(zah ok).2.1;unfold maxLen;omega) _ (h.map.below (t o))
 rw [d] at hc;have E:=zhd hc;have O:Hid (∀ W,Below w.heap.size w W->Calls Tryz.prog 155 #[zaT ⟨x.1.k.toArray⟩ x.1.s x.1.u x.1.o x.1.has x.2.1 x.1.v.length x.2.2,zaT ⟨y.1.k.toArray⟩ y.1.s y.1.u y.1.o y.1.has y.2.1 y.1.v.length y.2.2] W (zlb W.heap.size ⟨x.1.k.toArray⟩ x.1.s x.1.u x.1.o x.1.has x.1.v W)):=zhd fun W a=>
  zr2 ⟨x.1.k.toArray⟩ ⟨y.1.k.toArray⟩ x.1.s x.1.u x.1.o y.1.s y.1.u y.1.o x.1.has y.1.has x.2.1 y.2.1 x.1.v y.1.v x.1.v.length x.2.2 y.1.v.length y.2.2 rfl rfl W (R.out.below a) (Y.out.below a) E.out
 clear h G ok F t d hc;have q:Hid (Blk (w.alloc (.cells ⟨zbf x⟩ 46)).drew w.heap.size 46 ⟨zbf x⟩):=zhd (by exact Blk.new w 46 ⟨zbf x⟩);have z:Hid (Below w.heap.size w (w.alloc (.cells ⟨zbf x⟩ 46)).drew):=zhd (zbl).drew;unfold evV;go_enter Tryz.func154,Tryz.ntmps154
 go_wp2_with fail
 go_region_law (first
  | (go_simp;go_at_call 73;refine(Q.out _).mono ?_;rintro e K ⟨rfl,a⟩;(have g:Hid (Below w.heap.size w K):=zhd (z.out.trans (a.mono z.out.size)));(have I:Blk K w.heap.size 46 ⟨zbf x⟩:=q.out.below a q.out.lt);(obtain⟨k0,k1,k2,k3,k4,k5⟩:=ent_cells I);clear a I;unfold evV)
  | (go_simp;go_at_call 155;refine(O.out _ g.out).mono ?_;rintro e m ⟨A,c3,rfl,J,a⟩;(have l:Hid (Below w.heap.size w m):=zhd (g.out.trans (a.mono g.out.size)));(have b:=p.out.below l.out);(have aa:=zhd b);(have U:Hid (zix m B (x.1,A,c3)):=zhd (zaz J (by have Z:=p.out.bB;have S:=g.out.size;omega)));(have ab:=zhd (ziE T i c 0 (x.1,A,c3) (zah D.out).2.1 HN.out m (b.blk.cell 0) (b.blk.frozen 0) b.map));clear J a b)
  | (go_simp;go_at_call 124;refine ab.out.mono ?_;rintro e w6 M;obtain⟨rfl,⟨V,C⟩,L,r⟩:=zkg aa.out U.out D.out M;(have j:=zhd (And.intro C (And.intro L r)));clear M C L r))
 all_goals
  go_wp2;go_end0
  refine⟨rfl,⟨_,V,j.out.1,?_⟩,(l.out.mono (by have:=p.out.bB;omega)).trans j.out.2.1,Nat.le_trans l.out.size j.out.2.1.size,(zbL.below l.out).trans j.out.2.2⟩;have X:¬ zeu x.1 (ofT (zcO T) x.1.k)<0:=by
   rw [<-zlt,N.out];have Z:=E.out;have S:=zhI x.1.s x.1.u x.1.o y.1.s y.1.u y.1.o;show ¬ zdC _ _ _ _ _ _<0
   omega
  rw [zlC,show zhk (zcO T) x.1=zbZ kE (zcO T) x.1 from if_neg X]
theorem zm4(B a:Nat)(T:List EV)(b:Option Nat)(x:EV)(ok:okE x.1)(d:T.length<=100000000)(w:World)(h:Found w B a T b)(c:ValOk w x.1.has x.2.1 x.1.v x.2.2) :
 Calls Tryz.prog 154 #[evV x,pointer (some ⟨a,0,none⟩)] w (zqt B a (zcO T) x.1 w):=by
 by_cases hc:zdC x.1.s x.1.u x.1.o (ofV T x.1.k).1.s (ofV T x.1.k).1.u (ofV T x.1.k).1.o=-1
 ·exact zuK B a T b x ok d hc w h c
 ·exact zuL B a T b x ok d hc w h c
end
section
open Go.RowKit Mem Be Word Frm Go.Maps
variable {KS KS' : StK}
def zm5(B b0:Nat)(r:Option (List EntP))(w:World)(e:Ending)(w':World):Prop:=
 (∃ T,r=some T/\e=.returned (int i64 0)/\(∃ T' mo',Found w' B b0 T' mo'/\zcO T'=T)/\Below B w w'/\w.heap.size<=w'.heap.size/\zbL w w')\/
 (r=none/\e=.returned (int i64 11)/\Below B w w'/\w.heap.size<=w'.heap.size/\zbL w w')
theorem zgW{l:List (List UInt8)}{j:Nat}(h:j<l.length)(T:List EntP):zcb (l.drop j) T=if(zbT l[j]).2=0 then zcb (l.drop (j+1)) (zhk T (zbT l[j]).1) else none:=by
 rw [List.drop_eq_getElem_cons h];rfl
abbrev zlF(b0:Nat):Value:=.func (.func 154) #[] #[pointer (some ⟨b0,0,none⟩)]
theorem ziZ:∀ (f:Nat) (bs:List UInt8),∀ x∈(zkP za2 f bs).1,x.length<=65536
 | 0,_,x,h=>by simp [zkP] at h
 | f+1,bs,x,h=>by
  have ih:=ziZ f (bs.drop (za2 bs).2.1);unfold zkP at h;split at h
  ·simp at h
  ·split at h
   ·unfold znG at h;split at h
    ·rcases List.mem_cons.1 h with rfl|h
     ·exact zgj bs
     ·exact ih x h
    ·simp at h
   ·simp at h
theorem zkh(B p n c:Nat)(A:Option Addr)(bs:List UInt8)(E:List EV)(mo:Option Nat)(hn:n=bs.length)(hl:n<=70000)(hT:E.length<=1000000)(w:World)(h:Found w B p E mo)(hr:Row w w.heap.size A (bs.map zaa)) :
 Calls Tryz.prog 157 #[.slice A n c,zlF p] w (zm5 B p (if(zcG za2 bs).2=0 then zcb (zcG za2 bs).1 (zcO E) else none) w):=by
 have aa:=zsN w.heap.size c n A bs hn w hr (Nat.le_refl _) (by omega);obtain⟨⟨l,G⟩,hq⟩:∃ r,zcG za2 bs=r:=⟨_,rfl⟩;have aB:l.length<=70000:=by
  have:=zfh za2 bs.length bs;unfold zcG at hq;rw [hq] at this;simp only at this;omega
 have aq:∀ x∈l,x.length<=65536:=fun x t=>ziZ bs.length bs x (by unfold zcG at hq;rw [hq];exact t);have aV:=zhd aq;rw [hq] at aa ⊢;simp only;have L:=zhd aa;have HF:=zhd h;have aN:=zhd hT;have aJ:=zhd aB;have u:Hid (B<=w.heap.size):=zhd (by have d:=h.bB;have I:=h.blk.lt;omega);clear h hr hn hl hT aa hq aB aq;by_cases N:G=0
 ·subst N;rw [if_pos rfl];obtain⟨R,W⟩:∃ R,zcb l (zcO E)=R:=⟨_,rfl⟩;have HR:=zhd W;rw [W];clear W;unfold zlF;go_enter Tryz.func157,Tryz.ntmps157
  go_wp2_with fail
  refine L.out.mono ?_;rintro e w1 ⟨A1,c1,rs,rfl,C,K,D,t⟩;have g:=zhd D;have aA:=zhd C;have aG:=zhd (Row.of_own K);have aH:=zhd t;have au:Hid (rs.length<=70000):=zhd (by have d:=congrArg List.length C;rw [List.length_map] at d;have:=aJ.out;simp only at d;omega);have aZ:(rs.length:Int)<=70000:=by have:=au.out;omega
  clear C K D t L;go_wp2_with fail
  go_loopw [20] (fun i wr=>∃ (j:Nat) (T:List EV) (J:Option Nat),j<=rs.length/\i=int i64 j/\Hid (Found wr B p T J)/\Hid (zcb (l.drop j) (zcO T)=R)/\Hid (T.length<=1000000+j)/\Hid (zbL w1 wr)/\Hid (w1.heap.size<=wr.heap.size)/\Hid (Below B w wr)) (fun i _=>rs.length - (intOf i).toNat)
  case atStart=>exact⟨0,E,mo,Nat.zero_le _,rfl,zhd (HF.out.below g.out),zhd (by rw [List.drop_zero];exact HR.out),aN,zhd (zbL.refl _),zhd (Nat.le_refl _),zhd (g.out.mono u.out)⟩
  case round=>
   obtain⟨j,T,J,hj,rfl,HT,am,aD,F,M,s⟩:=hrel;have aQ:l.length=rs.length:=by have d:=congrArg List.length aA.out;rw [List.length_map] at d;exact d.symm
   by_cases ah:j<rs.length
   ·obtain⟨b,o,rfl,aX,hc⟩:=aG.out.open_ (by simp;omega);have Q:=F.out b (o+j) _ (hc j (by simpa using ah)) (fun m=>by simp [zbN]);rw [List.getElem_map] at Q;have O:=aH.out rs[j] (List.getElem_mem ah);obtain⟨⟨A2,y,c2⟩,hy⟩:∃ y,rs[j]=y:=⟨_,rfl⟩;rw [hy] at Q O;unfold zbN at Q;simp only at Q O;have ae:l[j]'(by omega)=y:=by
     have d:(rs.map fun x=>x.2.1)[j]'(by simpa using ah)=y:=by rw [List.getElem_map,hy]
     have I:l=rs.map fun x=>x.2.1:=aA.out.symm;simp only [I];exact d
    have a:=am.out;rw [zgW (by omega),ae] at a;have aj:y.length<=1000000:=by
     have:=aV.out y (by rw [<-ae];exact List.getElem_mem _);omega
    have ab:=zhd (zmE w1.heap.size y.length c2 A2 y rfl aj wr (zd6 O F.out (zeS y)) M.out);have aW:(0:Int)<=(j:Int):=by omega
    have aY:(j:Int)<(rs.length:Int):=by omega
    obtain⟨⟨x,G⟩,ag⟩:∃ z,zbT y=z:=⟨_,rfl⟩;rw [ag] at a ab;simp only at a;have ax:=zhd ag;clear hc ae O hy ag aj aQ;go_wp2_with fail
    refine ab.out.mono ?_;rintro e q ⟨X,c3,rfl,V,ay⟩;simp only at V ⊢;have k:=zhd ay;have ak:=zhd V;clear V ay ab;by_cases U:G=0
    ·subst U;rw [if_pos rfl] at a;have aR:=zhd a;have aw:Hid (okE x):=zhd (by have:=(zcy (b:=y) (by rw [ax.out])).1;rw [ax.out] at this;exact this);have aM:=zhd (HT.out.below k.out);have ai:Hid (∀ o,Calls Tryz.prog 154 #[evV (x,X,c3),pointer (some ⟨p,0,none⟩)] (q.alloc o) (zqt B p (zcO T) x (q.alloc o))):=zhd fun o=>
      zm4 B p T J (x,X,c3) aw.out (by have:=aD.out;have:=au.out;omega) _ (aM.out.below ((Below.refl _ _).alloc (Nat.le_refl _) o)) (ValOk.below (w:=q) ⟨Row.of_own ak.out,by have:=(zah aw.out).2.2.1;show(x.v.length:Int)<=_;omega,(zbR ak.out).1⟩ ((Below.refl _ _).alloc (Nat.le_refl _) o))
     clear a;unfold evV at ai;go_wp2_with fail
     refine(ai.out _).mono ?_;rintro e Y ⟨rfl,⟨Z,aO,az,af⟩,an,ao,al⟩;have aI:=zhd az;have aK:Hid (zcb (l.drop (j+1)) (zcO Z)=R):=zhd (by rw [af];exact aR.out);have aE:Hid (Z.length<=1000000+(j+1)):=zhd (by
      have d:=congrArg List.length af;have I:=zeO (zcO T) x;rw [List.length_map] at d;rw [List.length_map] at I;have:=aD.out;omega)
     have S:∀ o,Below q.heap.size q (q.alloc o):=fun o=>(Below.refl _ _).alloc (Nat.le_refl _) o;have aL:Hid (zbL w1 Y):=zhd (((F.out.trans (zbL.below k.out)).trans (zbL.below (S _))).trans al);have aU:Hid (w1.heap.size<=Y.heap.size):=zhd (Nat.le_trans M.out (Nat.le_trans k.out.size (Nat.le_trans (S _).size ao)));have aP:Hid (Below B w Y):=zhd (((s.out.trans (k.out.mono (by have:=s.out.size;have:=u.out;omega))).trans ((S _).mono (by have:=s.out.size;have:=u.out;have:=k.out.size;omega))).trans an);clear az af an ao al S ai;go_wp2;go_roundw
     case rel=>exact⟨j+1,Z,aO,by omega,by go_num,aI,aK,aE,aL,aU,aP⟩
     case measure=>simp [intOf];omega
    ·rw [if_neg U] at a;have aS:(G != 0)=true:=by simpa using U
     have aT:Hid (zm5 B p R w (.returned (int i64 11)) (q.alloc (.cells ⟨zbf (x,X,c3)⟩ 46))):=zhd (Or.inr ⟨a.symm,rfl,((s.out.trans (k.out.mono (by have:=s.out.size;have:=u.out;omega))).alloc (by have:=s.out.size;have:=u.out;have:=k.out.size;omega) _),Nat.le_trans g.out.size (Nat.le_trans M.out (Nat.le_trans k.out.size (by simp))),((zbL.below g.out).trans (F.out.trans (zbL.below k.out))).trans (zbL.below (zbl))⟩);clear a U;go_wp2;go_ret;exact aT.out
   ·obtain rfl:j=rs.length:=by omega
    have a:=am.out;rw [List.drop_of_length_le (by omega)] at a;go_wp2;go_ret;exact Or.inl ⟨_,a.symm,rfl,⟨T,J,HT.out,rfl⟩,s.out,Nat.le_trans g.out.size M.out,(zbL.below g.out).trans F.out⟩
 ·rw [if_neg N];have aS:(G != 0)=true:=by simpa using N
  unfold zlF;clear N;go_enter Tryz.func157,Tryz.ntmps157
  go_wp2_with fail
  refine L.out.mono ?_;rintro e w1 ⟨A1,c1,rs,rfl,C,K,D,t⟩;have g:=zhd D;clear C K D t L;go_wp2;go_ret;exact Or.inr ⟨rfl,rfl,g.out.mono u.out,g.out.size,zbL.below g.out⟩
end
section
open Go.RowKit Mem Be Word Frm Go.Maps
variable {KS KS' : StK}
theorem zeT{l:List Rc}{j:Nat}(h:j<l.length)(T:List EntP):zbu (l.drop j) T=if okC l[j] then zbu (l.drop (j+1)) (zhk T (zbT l[j].2).1) else none:=by
 rw [List.drop_eq_getElem_cons h];rfl
theorem zh0(b:List za3):∀ x∈zaw b,∀ m,x≠.map m:=by
 intro x c m;obtain⟨r,_,a⟩:=List.mem_flatMap.1 c;simp only [zrH,List.mem_cons,List.not_mem_nil,or_false] at a;rcases a with rfl|rfl<;>simp
theorem zki(B p n c:Nat)(A:Option Addr)(g:List za3)(I:List EV)(mo:Option Nat)(Q:n=g.length)(hl:n<=419430)(hT:I.length<=1500000)(hs:∀ r∈g,r.2.2.1.length<=65536)(w:World)(h:Found w B p I mo)(hr:Row w w.heap.size A (zaw g))(ak:zjX w g) :
 Calls Tryz.prog 158 #[.slice A n c,zlF p] w (zm5 B p (zbu (g.map za1) (zcO I)) w):=by
 have HF:=zhd h;have aM:=zhd hT;have HN:=zhd Q;have HL:=zhd hl;have aE:=zhd hr;have aQ:=zhd ak;have aJ:=zhd hs;have U:Hid (B<=w.heap.size):=zhd (by have h1:=h.bB;have h2:=h.blk.lt;omega);have aW:(n:Int)<=419430:=by omega
 obtain⟨R,hR⟩:∃ R,zbu (g.map za1) (zcO I)=R:=⟨_,rfl⟩;have HR:=zhd hR;rw [hR];clear h hr Q hl hT ak hs hR;unfold zlF;go_enter Tryz.func158,Tryz.ntmps158
 go_wp2_with fail
 go_step3
 go_wp2_with fail
 go_step3
 go_wp2_with fail
 go_loopg [5,12] n (fun gk f i wr=>∃ (j:Nat) (T:List EV) (S:Option Nat),j+gk=n/\i=int i64 j/\f=int i64 0/\Hid (Found wr B p T S)/\Hid (zbu ((g.map za1).drop j) (zcO T)=R)/\Hid (T.length<=1500000+j)/\Hid (zbL w wr)/\Hid (w.heap.size<=wr.heap.size)/\Hid (Below B w wr))
 case atStart=>exact⟨0,I,mo,by omega,rfl,rfl,HF,zhd (by rw [List.drop_zero];exact HR.out),aM,zhd (zbL.refl _),zhd (Nat.le_refl _),zhd (Below.refl _ _)⟩
 case round=>
  obtain⟨j,T,S,hj,rfl,rfl,HT,ao,aA,L,K,u⟩:=hrel;by_cases aT:j<n
  ·have M:j<g.length:=by rw [<-HN.out];exact aT
   obtain⟨b,o,rfl,aZ,hc⟩:=zcX (zd6 aE.out L.out (zh0 g)) (by omega);obtain⟨k0,k1⟩:=hc j M;have Y:=zd6 (aQ.out g[j] (List.getElem_mem M)) L.out (zeS _);have aa:=aJ.out g[j] (List.getElem_mem M);obtain⟨⟨k,X,y,c2⟩,hy⟩:∃ y,g[j]=y:=⟨_,rfl⟩;rw [hy] at k0 k1 Y aa;simp only at k0 k1 Y aa;have a:=ao.out;rw [zeT (by simpa using M)] at a;have aw:(g.map za1)[j]'(by simpa using M)=(k,y):=by rw [List.getElem_map,hy];rfl
   rw [aw] at a;simp only at a;have ae:Hid (∀ o,Calls Tryz.prog 180 #[.slice X y.length c2] (wr.alloc o) (zgC (zbT y) (wr.alloc o))):=zhd fun o=>zmE w.heap.size y.length c2 X y rfl (by omega) _ (Y.below ((Below.refl _ wr).alloc (Nat.le_refl _) o |>.mono K.out)) (by have:=K.out;simp;omega);have aX:(0:Int)<=(j:Int):=by omega
   have bf:(j:Int)<(n:Int):=by omega
   have aR:Hid (∀ o,Below wr.heap.size wr (wr.alloc o)):=zhd fun o=>(Below.refl _ wr).alloc (Nat.le_refl _) o;obtain⟨⟨x,er⟩,V⟩:∃ z,zbT y=z:=⟨_,rfl⟩;have q:okC (k,y)↔k=1/\er=0/\x.s≠0:=by unfold okC;rw [V]
   rw [V] at a ae;simp only at a;have ay:=zhd V;have aD:Hid (Blk (wr.alloc (.cells #[int .u8 (k.toNat:Int),.slice X y.length c2] 168)) wr.heap.size 168 #[int .u8 (k.toNat:Int),.slice X y.length c2]):=zhd (Blk.new _ _ _);clear hc aw Y hy V aa;go_wp2_with fail
   refine(ae.out _).mono ?_;rintro e d ⟨t,c3,rfl,Z,ag⟩;simp only at Z ⊢;have l:Hid (Below wr.heap.size wr d):=zhd ((aR.out _).trans (ag.mono (by simp)));have al:Hid (d.ownsRow wr.heap.size 5 1 (.slice t x.v.length c3) x.v.length (x.v.map zaa)):=zhd (zaz Z (by simp));have ab:=zhd (aD.out.below ag (by simp));have r0:=ab.out.cell 0;have r1:=ab.out.cell 1;have aY:wr.heap.size<d.heap.size:=ab.out.lt;have C:Hid (∀ w',Below d.heap.size d w'->R=none->zm5 B p R w (.returned (int i64 11)) w'):=zhd fun w' E Q=>Or.inr ⟨Q,rfl,(u.out.trans (l.out.mono (by have:=u.out.size;have:=U.out;omega))).trans (E.mono (by have:=u.out.size;have:=U.out;have:=l.out.size;omega)),Nat.le_trans K.out (Nat.le_trans l.out.size E.size),(L.out.trans (zbL.below l.out)).trans (zbL.below E)⟩;clear Z ag ae;by_cases m:k=1
   ·have aI:((k.toNat:Int) != 1)=false:=by subst m;rfl
    by_cases G:er=0
    ·cases hsn:(x.s==0)
     ·have J:x.s≠0:=by simpa using hsn
      rw [if_pos (q.2 ⟨m,G,J⟩)] at a;subst G;have aP:=zhd a;have ah:=zhd hsn;have ax:Hid (okE x):=zhd (by have:=(zcy (b:=y) (by rw [ay.out])).1;rw [ay.out] at this;exact this);have aL:=zhd (HT.out.below l.out);have ai:Hid (∀ W,Below d.heap.size d W->Calls Tryz.prog 154 #[evV (x,t,c3),pointer (some ⟨p,0,none⟩)] W (zqt B p (zcO T) x W)):=zhd fun W E=>
       zm4 B p T S (x,t,c3) ax.out (by have:=aA.out;have:=HL.out;omega) _ (aL.out.below E) (ValOk.below (w:=d) ⟨Row.of_own al.out,by have:=(zah ax.out).2.2.1;show(x.v.length:Int)<=_;omega,(zbR al.out).1⟩ E)
      have aS:Hid (Blk (d.alloc (.cells ⟨zbf (x,t,c3)⟩ 46)) d.heap.size 46 ⟨zbf (x,t,c3)⟩):=zhd (Blk.new _ _ _);have aj:Hid (∀ o,Below d.heap.size d (d.alloc o)):=zhd fun o=>(Below.refl _ _).alloc (Nat.le_refl _) o;clear a q m hsn J C;unfold evV at ai;go_wp2_with fail
      refine(zbB _ _ _ _ ah _).mono ?_;rintro e w4 ⟨rfl,D⟩;have O:Hid (Below d.heap.size d w4):=zhd ((aj.out _).trans (D.mono (by simp)));have F:=zhd (aS.out.below D (by simp));have e0:w4.cell? ⟨d.heap.size,0,none⟩=some (.string ⟨x.k.toArray⟩):=F.out.cell 0;have e1:w4.cell? ⟨d.heap.size,1,none⟩=some (int .i64 x.s):=F.out.cell 1;have e2:w4.cell? ⟨d.heap.size,2,none⟩=some (int .i64 x.u):=F.out.cell 2;have e3:w4.cell? ⟨d.heap.size,3,none⟩=some (int .i64 x.o):=F.out.cell 3;have e4:w4.cell? ⟨d.heap.size,4,none⟩=some (.bool x.has):=F.out.cell 4;have e5:w4.cell? ⟨d.heap.size,5,none⟩=some (.slice t x.v.length c3):=F.out.cell 5;have am:=zhd (ai.out _ O.out);clear D;go_wp2_with fail
      refine am.out.mono ?_;rintro e w3 ⟨rfl,⟨T2,aN,az,af⟩,aq,au,an⟩;have aG:=zhd az;have aH:Hid (zbu ((g.map za1).drop (j+1)) (zcO T2)=R):=zhd (by rw [af];exact aP.out);have aB:Hid (T2.length<=1500000+(j+1)):=zhd (by
       have h1:=congrArg List.length af;have h2:=zeO (zcO T) x;rw [List.length_map] at h1;rw [List.length_map] at h2;have:=aA.out;omega)
      have aK:Hid (zbL w w3):=zhd (((L.out.trans (zbL.below l.out)).trans (zbL.below O.out)).trans an);have aV:Hid (w.heap.size<=w3.heap.size):=zhd (Nat.le_trans K.out (Nat.le_trans l.out.size (Nat.le_trans O.out.size au)));have aO:Hid (Below B w w3):=zhd (((u.out.trans (l.out.mono (by have:=u.out.size;have:=U.out;omega))).trans (O.out.mono (by have:=u.out.size;have:=U.out;have:=l.out.size;omega))).trans aq);clear az af aq au an ai am;go_wp2;go_roundg (gk - 1)
      case measure=>omega
      case rel=>exact⟨j+1,T2,aN,by omega,by go_num,rfl,aG,aH,aB,aK,aV,aO⟩
     ·have J:x.s=0:=by simpa using hsn
      rw [if_neg (fun h=>(q.1 h).2.2 J)] at a;subst G;have ah:=zhd hsn;have aj:Hid (∀ o,Below d.heap.size d (d.alloc o)):=zhd fun o=>(Below.refl _ _).alloc (Nat.le_refl _) o;have aU:=zhd a.symm;clear a q m hsn J;go_wp2_with fail
      refine(zbB _ _ _ _ ah _).mono ?_;rintro e w4 ⟨rfl,D⟩;have N:=zhd (C.out w4 ((aj.out _).trans (D.mono (by simp))) aU.out);clear D C;go_wp2
      try rw [Exit.noGoto_ret]
      go_ret;exact N.out
    ·rw [if_neg (fun h=>G (q.1 h).2.1)] at a;have bd:(er != 0)=true:=by simpa using G
     have N:=zhd (C.out (d.alloc (.cells ⟨zbf (x,t,c3)⟩ 46)) (zbl) a.symm);clear a q m G C;go_wp2
     try rw [Exit.noGoto_ret]
     go_ret;exact N.out
   ·rw [if_neg (fun h=>m (q.1 h).1)] at a;have aI:((k.toNat:Int) != 1)=true:=by
     have:(k.toNat:Int)≠1:=fun e=>m (UInt8.toNat_inj.1 (by have:k.toNat=1:=(by omega);rw [this];rfl))
     simpa using this
    have N:=zhd (C.out (d.alloc (.cells ⟨zbf (x,t,c3)⟩ 46)) (zbl) a.symm);clear a q m C;go_wp2
    try rw [Exit.noGoto_ret]
    go_ret;exact N.out
  ·obtain rfl:j=n:=by omega
   have a:=ao.out;rw [List.drop_of_length_le (by rw [List.length_map,<-HN.out];exact Nat.le_refl _)] at a;go_wp2
   try rw [Exit.noGoto_ret]
   go_ret;exact Or.inl ⟨_,a.symm,rfl,⟨T,S,HT.out,rfl⟩,u.out,K.out,L.out⟩
end
section
open Go.RowKit Mem Be Word Frm Go.Maps
variable {KS KS' : StK}
theorem zd7:∀ rs:List Rc,LastIs rs (zbJ rs)
 | []=>⟨Nat.le_refl _,fun j h=>by simp at h,fun k h=>by cases h⟩
 | r :: t=>by
  have ih:=zd7 t;have p:zbJ (r :: t)=if zbJ t≠0 then zbJ t+1 else if r.1=0 then 1 else 0:=rfl;rw [p];by_cases g:zbJ t=0
  ·rw [if_neg (by simp [g])];rw [g] at ih;by_cases d:r.1=0
   ·rw [if_pos d];refine⟨by simp,fun j b i=>?_,fun k l=>?_⟩
    ·obtain⟨a,rfl⟩:∃ a,j=a+1:=⟨j - 1,by omega⟩;exact ih.no a (by simpa using b) (Nat.zero_le _)
    ·have:k=0:=by omega
     subst this;exact⟨by simp,d⟩
   ·rw [if_neg d];refine⟨Nat.zero_le _,fun j b i=>?_,fun k l=>by omega⟩;rcases j with _|a
    ·exact d
    ·exact ih.no a (by simpa using b) (Nat.zero_le _)
  ·rw [if_pos g];refine⟨by have:=ih.le;simp;omega,fun j b i=>?_,fun k l=>?_⟩
   ·obtain⟨a,rfl⟩:∃ a,j=a+1:=⟨j - 1,by omega⟩;exact ih.no a (by simpa using b) (by omega)
   ·obtain⟨c,m⟩:∃ c,zbJ t=c+1:=⟨zbJ t - 1,by omega⟩;obtain⟨o,q⟩:=ih.yes c m;have:k=c+1:=by omega
    subst this;exact⟨by simpa using o,q⟩
theorem zuM(rs:List Rc)(p:Nat):zn8 rs p=zdL rs p:=by cases p<;>rfl
def zgp(r:Option (List EntP))(w:World)(e:Ending)(w':World):Prop:=
 (∃ T mo,r=some (zcO T)/\e=.returned (.tuple #[.map mo,int i64 0])/\TabAt w' (fun k=>w.heap.size<=k/\k<w'.heap.size) mo T/\Below w.heap.size w w')\/
 (r=none/\e=.returned (.tuple #[.map none,int i64 11])/\Below w.heap.size w w')
theorem zqu{w':World}{B j:Nat}{T:List EV}{i:Option Nat}(h:Found w' B j T i):TabAt w' (fun k=>B<=k/\k<w'.heap.size) i T:=by
 refine⟨h.map,fun b c=>⟨h.inM b c,?_⟩,h.srt,znO h.own (Nat.zero_le _),fun x d a g=>⟨(zaJ (h.own x d) g).1,(zaJ (h.own x d) g).2.1⟩,h.ok⟩;have:=h.map;rw [c] at this;exact(zcZ this).lt
theorem zlG(F:Nat->Prop)(g m q:Nat)(rs:List Rc)(w:World)(h:zcD lg0 w F g rs m q) :
 Calls Tryz.prog 127 #[pointer (some ⟨g,0,none⟩)] w (zgp (zd3 rs) w):=by
 have Y:=h.many;have aa:=h.short;obtain⟨w1,M⟩:∃ w1,w.alloc (.cells #[.map none] 106)=w1:=⟨_,rfl⟩;have K:Below w.heap.size w w1:=by rw [<-M];exact zbl
 have af:Found w1 w.heap.size w.heap.size [] none:=by
  rw [<-M];exact⟨Blk.new _ _ _,Or.inl ⟨rfl,rfl⟩,(fun b h=>by cases h),Nat.le_refl _,zem,zd0 _ _,(fun x h=>by cases h)⟩
 have an:=zhd (zqs F g m q rs w1 (h.below K));have A:=zhd K;have aD:=zhd af;have aB:=zhd Y;have Z:=zhd aa;have aG:w1.heap.size=w.heap.size+1:=by rw [<-M];simp
 obtain⟨R,E⟩:∃ R,zd3 rs=R:=⟨_,rfl⟩;have HR:=zhd E;rw [E];clear h Y aa K af E;go_enter Tryz.func127,Tryz.ntmps127
 go_wp2_with fail
 refine an.out.mono ?_;rintro e w2 ⟨p,A1,c1,i,A2,c2,hp,B,rfl,y,am,W,L⟩;have ao:p=zbJ rs:=zfm hp (zd7 rs);subst ao;rw [zuM] at y ⊢;obtain⟨X,C⟩:∃ X,zdL rs (zbJ rs)=X:=⟨_,rfl⟩;have ak:X.length<=65536:=by
  rw [<-C];cases hq:zbJ rs with
  | zero=>simp [zdL]
  | succ k=>
   simp only [zdL];cases hk:rs[k]? with
   | none=>simp
   | some r=>
    obtain⟨d,v⟩:=List.getElem?_eq_some_iff.1 hk;exact Z.out r (by rw [<-v];exact List.getElem_mem d)
 have aA:=zhd ak;have a:R=(if(zcG za2 X).2=0 then zcb (zcG za2 X).1 [] else none).bind (zbu (i.map za1)):=by
  rw [<-HR.out,B,<-C];rfl
 have V:=zhd a;have al:i.length<=419430:=by have d:=congrArg List.length B;rw [List.length_map,List.length_drop] at d;have:=aB.out;omega
 have au:=zhd al;have ay:Hid (∀ r∈i,r.2.2.1.length<=65536):=zhd fun r J=>by
  have d:za1 r∈rs.drop (zbJ rs):=by rw [<-B];exact List.mem_map_of_mem J
  exact Z.out _ (List.mem_of_mem_drop d)
 rw [C] at y ⊢;have U:=zhd L;have aq:=zhd (aD.out.below L);have D:=zhd (zkh w.heap.size w.heap.size X.length c1 A1 X [] none rfl (by omega) (by simp) w2 aq.out (Row.of_own y));have az:=zhd (zcz am);have ax:=zhd (zhR W);clear hp B y am W L C ak a al an;unfold zlF at D;go_wp2_with fail
 refine D.out.mono ?_;rintro e I (⟨T,c,rfl,⟨T',aw,ai,S⟩,s,j,u⟩|⟨c,rfl,s,j,u⟩)
 ·have a:=V.out;rw [show(zcO ([]:List EV))=[] from rfl] at c;rw [c] at a;simp only [Option.bind_some] at a;have ab:Below w.heap.size w I:=(A.out.trans (U.out.mono A.out.size)).trans s;have ag:=zhd ab;have ae:T'.length<=1500000:=by
   have d:=congrArg List.length S;rw [List.length_map] at d;split at c
   ·obtain⟨_,v⟩:=zgK _ _ ziJ T c;have h3:=zfh za2 X.length X;unfold zcG at v;have:=aA.out;simp only [List.length_nil] at v;omega
   ·cases c
  have G:=zki w.heap.size w.heap.size i.length c2 A2 i T' aw rfl au.out ae ay.out I ai ((zd6 az.out u (zh0 i)).more j) (fun r J=>(zd6 (ax.out r J) u (zeS _)).more j);rw [S,<-a] at G;have z:=zhd G;have aE:=zhd j;clear c ai S s j u a ab ae G D;unfold zlF at z;go_wp2_with fail
  refine z.out.mono ?_;rintro e w4 (⟨T2,o,rfl,⟨T4,ah,O,aj⟩,l,N,Q⟩|⟨o,rfl,l,N,Q⟩)
  ·have t:Hid (zgp R w (.returned (.tuple #[.map ah,int i64 0])) w4):=zhd (Or.inl ⟨T4,ah,by rw [o,aj],rfl,zqu O,ag.out.trans l⟩);have k0:=O.blk.cell 0;clear o O aj l N Q z;go_wp2;go_ret2
   exact t.out
  ·have t:Hid (zgp R w (.returned (.tuple #[.map none,int i64 11])) w4):=zhd (Or.inr ⟨o,rfl,ag.out.trans l⟩);clear o l N Q z;go_wp2;go_ret2
   exact t.out
 ·have a:=V.out;rw [show(zcO ([]:List EV))=[] from rfl] at c;rw [c] at a;have t:Hid (zgp R w (.returned (.tuple #[.map none,int i64 11])) I):=zhd (Or.inr ⟨a,rfl,(A.out.trans (U.out.mono A.out.size)).trans s⟩);clear c s j u a D;go_wp2;go_ret2
  exact t.out
def zgq(X:List UInt8)(q:Nat)(w:World)(e:Ending)(w':World):Prop:=
 (∃ T,zd3 (zar X).1=some T/\zqg (fun p=>.tuple #[p,int i64 ((X.length:Int) - ((zar X).2.1:Int)),int i64 0]) ⟨(zar X).1,(zar X).1.length,T,T,[]⟩ q w e w')\/
 (zd3 (zar X).1=none/\e=.returned (.tuple #[.pointer none,int i64 0,int i64 11])/\Below w.heap.size w w')
theorem zlH(F:Nat->Prop)(y q:Nat)(L T:List UInt8)(w:World)(h:zcV dk0 w F y L T q) :
 Calls Tryz.prog 93 #[pointer (some ⟨y,0,none⟩)] w (zgq (L++T) q w):=by
 have m:=zhd (zsI F y q L T w h);obtain⟨X,D⟩:∃ X,L++T=X:=⟨_,rfl⟩;rw [D] at m ⊢;clear h D;unfold zp7 at m;obtain⟨cut,hcut⟩:∃ cut,(X.length:Int) - ((zar X).2.1:Int)=cut:=⟨_,rfl⟩;obtain⟨rs,t⟩:∃ rs,(zar X).1=rs:=⟨_,rfl⟩;have x:Hid (zgq X q w=fun e w'=>(∃ T,zd3 rs=some T/\zqg (fun p=>.tuple #[p,int i64 cut,int i64 0]) ⟨rs,rs.length,T,T,[]⟩ q w e w')\/(zd3 rs=none/\e=.returned (.tuple #[.pointer none,int i64 0,int i64 11])/\Below w.heap.size w w')):=zhd (by unfold zgq;rw [hcut,t]);rw [hcut,t] at m;obtain⟨r,K⟩:∃ r,zgq X q w=r:=⟨_,rfl⟩;rw [K] at x ⊢;clear hcut t K;go_enter Tryz.func93,Tryz.ntmps93
 go_wp2_with fail
 refine m.out.mono ?_;rintro e w1 ⟨g1,F1,rfl,B,u,I⟩;have M:=zhd B;have A:=zhd u;have i:=zhd I;have s:=zhd (zlG F1 g1 rs.length q rs w1 u);clear B u I m;go_wp2_with fail
 refine s.out.mono ?_;rintro e j (⟨T,E,l,rfl,ht,d⟩|⟨l,rfl,d⟩)
 ·have J:=A.out.below d;obtain⟨a,b,c,v,c0,c1,c2,c3,c4,C⟩:=zqe (stK zoP E none (.slice none 0 0)) J;have G:=zqh (g:=j.heap.size) rfl l ht (fun k o N=>by have:=A.out.lt k o;omega) (fun k o=>o.2) rfl C;have z:Hid (r (.returned (.tuple #[pointer (some ⟨j.heap.size,0,none⟩),int i64 cut,int i64 0])) (j.alloc (.cells #[a,b,c,v,int i64 (rs.length:Int),.map E,.map none,.slice none 0 0] 108))):=zhd (by
   rw [x.out];refine Or.inl ⟨zcO T,l,j.heap.size,_,rfl,fun k o=>?_,G,(i.out.trans (d.mono i.out.size)).alloc (Nat.le_trans i.out.size d.size) _⟩;rcases o with h|h|h
   ·exact M.out k h
   ·exact Nat.le_trans i.out.size h.1
   ·have:=d.size;have:=i.out.size;omega)
  have O:g1<j.heap.size:=zaq c0;clear l ht d J C G s;go_wp2;go_ret3
  exact z.out
 ·have z:Hid (r (.returned (.tuple #[.pointer none,int i64 0,int i64 11])) j):=zhd (by rw [x.out];exact Or.inr ⟨l,rfl,i.out.trans (d.mono i.out.size)⟩);clear l d s;go_wp2;go_ret3
  exact z.out
def zbG(S:St8)(k:Nat):List Rc:=(zar (zac (S.rs.take S.m)++(zac (S.rs.drop S.m)).take k)).1
def zaL(S:St8)(k:Nat):St8:=⟨zbG S k,(zbG S k).length,(zd3 (zbG S k)).getD [],(zd3 (zbG S k)).getD [],[]⟩
theorem zh1{S:St8}(h:Ok8 S)(b:zca S.rs)(k:Nat):∃ T,zd3 (zbG S k)=some T:=by
 obtain⟨p,c,d,a⟩:=znS S.rs S.m k b h.le;unfold zbG;rw [a];exact Option.isSome_iff_exists.1 (h.told p c d)
theorem zn9(F:Nat->Prop)(g q:Nat)(S:St8)(k:Int)(l:k<0)(w:World)(h:zci KS w F g S q) :
 Calls Tryz.prog 61 #[pointer (some ⟨g,0,none⟩),int i64 k] w fun e w'=>e=.returned (.tuple #[.pointer none,int i64 2])/\Below w.heap.size w w':=by
 have c:=zhd (zgV F g q S w h);clear h;go_enter Tryz.func61,Tryz.ntmps61
 go_wp2_with fail
 refine c.out.mono ?_;rintro e w1 ⟨y,F1,rfl,d,j,a⟩;have i:=zhd a;have b:=zhd (zpp F1 y q [] [] k l w1);simp only [id];clear d j a;go_wp2_with fail
 refine b.out.mono ?_;rintro e w' ⟨rfl,rfl⟩;clear b;go_wp2;go_ret2
 exact⟨rfl,i.out⟩
theorem zoa(F:Nat->Prop)(g q k:Nat)(S:St8)(w:World)(h:zci KS w F g S q) :
 Calls Tryz.prog 61 #[pointer (some ⟨g,0,none⟩),int i64 (k:Int)] w (zqg (fun p=>.tuple #[p,int i64 0]) (zaL S k) q w):=by
 have t:=zhd (zgV F g q S w h);have x:zca S.rs:=by
  obtain⟨h0,FL,FS,lm,fm,TL,TF,A,c,h1,h2,ae,h⟩:=h;exact h.lg.short
 obtain⟨i,d⟩:=zh1 h.ok x k;have ab:=zhd d;obtain⟨X,b⟩:∃ X,zac (S.rs.take S.m)++(zac (S.rs.drop S.m)).take k=X:=⟨_,rfl⟩;have aa:=zhd b;obtain⟨L,j⟩:∃ L,zac (S.rs.take S.m)=L:=⟨_,rfl⟩;obtain⟨T,l⟩:∃ T,zac (S.rs.drop S.m)=T:=⟨_,rfl⟩;rw [j,l] at t b;have Z:Hid (zaL S k=⟨(zar X).1,(zar X).1.length,i,i,[]⟩):=zhd (by
  have:zbG S k=(zar X).1:=by unfold zbG;rw [j,l,b]
  unfold zaL;rw [d,this];rfl)
 have K:Hid (zd3 (zar X).1=some i):=zhd (by
  have:zbG S k=(zar X).1:=by unfold zbG;rw [j,l,b]
  rw [<-this];exact d)
 rw [Z.out];clear h j l x d;go_enter Tryz.func61,Tryz.ntmps61
 go_wp2_with fail
 refine t.out.mono ?_;rintro e w1 ⟨y,F1,rfl,I,C,M⟩;have V:=zhd I;have J:=zhd M;have s:=zhd (zpq F1 y q k L T w1 C);rw [b] at s;simp only [id];clear I C M t b;go_wp2_with fail
 refine s.out.mono ?_;rintro e U ⟨rfl,Q,R,G,v⟩;have o:=zhd (J.out.trans (v.below J.out.size V.out));have r:=zhd (zlH Q y q X [] U G);rw [List.append_nil] at r;clear R G v s;go_wp2_with fail
 refine r.out.mono ?_;rintro e N (⟨u,a,z,O,rfl,B,E,D⟩|⟨a,_⟩)
 ·have:u=i:=by rw [K.out] at a;injection a with a;exact a.symm
  subst this;have W:Hid (zqg (fun p=>.tuple #[p,int i64 0]) ⟨(zar X).1,(zar X).1.length,u,u,[]⟩ q w (.returned (.tuple #[pointer (some ⟨z,0,none⟩),int i64 0])) N):=zhd
   ⟨z,O,rfl,fun k Y=>Nat.le_trans o.out.size (B k Y),E,o.out.trans (D.mono o.out.size)⟩
  clear a B E D r;go_wp2;go_ret2
  exact W.out
 ·rw [K.out] at a;cases a
end
end Go.Proofs.YtahnjkkgojfdmaaGreatDoor
