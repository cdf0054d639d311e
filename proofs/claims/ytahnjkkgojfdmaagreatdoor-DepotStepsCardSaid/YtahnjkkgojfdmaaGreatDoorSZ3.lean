import Derived.Test.YtahnjkkgojfdmaaGreatDoorSZ2
import Derived.Test.YtahnjkkgojfdmaaGreatDoorMZ1
set_option maxRecDepth 100000
set_option maxHeartbeats 8000000
set_option linter.unusedVariables false
namespace Go.Proofs.YtahnjkkgojfdmaaGreatDoor
open Go.IntKind(i64)
open Go.Value(int slice bool)
section
open Go.RowKit Mem Be Word Frm Go.Maps Rg
theorem zve{F:Nat->Prop}{w:World}{x:MV}{g:Nat}(h:Blk w g 51 ⟨mL x⟩)(d:¬ F g):zaK F w (some ⟨g,0,none⟩) (msC [x]):=by
 refine Or.inr ⟨g,0,rfl,d,h.lt,fun j a=>?_⟩;have e:msC [x]=mL x:=by simp [msC]
 have c:=h.cell (0+j);rw [c];have b:j<(mL x).length:=by rw [<-e];exact a
 rw [Nat.zero_add];rw [List.getElem_of_eq e a];show(⟨mL x⟩:Array Value)[j]?=_
 rw [List.getElem?_toArray,List.getElem?_eq_getElem b]
def zw8(F:Nat->Prop)(w:World):Nat->Prop:=fun k=>F k\/k<w.heap.size
theorem MsN.mono{F G:Nat->Prop}{w:World}{A:Option Addr}{us:List MV}(h:MsN F w A us)(hg:∀ k,G k->F k):MsN G w A us:=by
 have hr:∀ {A:Option Addr} {xs:List Value},zaK F w A xs->zaK G w A xs:=fun h=>by
  rcases h with h|⟨b,o,rfl,hf,hb,hc⟩
  ·exact Or.inl h
  ·exact Or.inr ⟨b,o,rfl,fun h=>hf (hg b h),hb,hc⟩
 exact⟨hr h.row,fun x hx=>⟨hr (h.val x hx).1,(h.val x hx).2⟩⟩
def zhx(F:Nat->Prop)(g:Nat)(S:St8)(ps:zcS)(q:Nat)(out:List MsgP)(S':St8)(ps':zcS)(w:World)(e:Ending)(w':World):Prop:=
 ∃ F' us A c,e=.returned (slice A us.length c)/\us.map mP=out/\MsN (zw8 F' w) w' A us/\(∀ k,F' k->F k\/w.heap.size<=k)/\SvAt w' F' g S' ps' q/\Touch F w w'
theorem zfR{F:Nat->Prop}{g q:Nat}{S:St8}{ps:zcS}{w w':World}{e:Ending}(h:SvAt w F g S ps q)(c:e=.returned (slice none 0 0))(a:Below w.heap.size w w'):zhx F g S ps q [] S ps w e w':=
 ⟨F,[],none,0,c,rfl,zfQ _ _ _,fun k b=>Or.inl b,h.below a,Touch.ofBelow a⟩
theorem zov(F:Nat->Prop)(g q:Nat)(S:St8)(ps:zcS)(x:MV)(a:x.dst≠1)(w:World)(h:SvAt w F g S ps q) :
 Calls Tryz.prog 20 #[.pointer (some ⟨g,0,none⟩),.agg #[int i64 x.kind,int i64 x.fr,int i64 x.dst,int i64 x.ep,int i64 x.op,int i64 x.n,bool x.flag,.string ⟨x.e.1.k.toArray⟩,int i64 x.e.1.s,int i64 x.e.1.u,int i64 x.e.1.o,bool x.e.1.has,slice x.e.2.1 x.e.1.v.length x.e.2.2,slice x.lA x.l.length x.lc,slice x.rA x.ns.length x.rc,int i64 x.each,int i64 x.keep]] w (zhx F g S ps q [] S ps w):=by
 have b:Below w.heap.size w (w.alloc (.cells #[int i64 x.kind,int i64 x.fr,int i64 x.dst,int i64 x.ep,int i64 x.op,int i64 x.n,bool x.flag,.string ⟨x.e.1.k.toArray⟩,int i64 x.e.1.s,int i64 x.e.1.u,int i64 x.e.1.o,bool x.e.1.has,slice x.e.2.1 x.e.1.v.length x.e.2.2,slice x.lA x.l.length x.lc,slice x.rA x.ns.length x.rc,int i64 x.each,int i64 x.keep] 51)):=zbl;have j:=zhd (Blk.new w 51 #[int i64 x.kind,int i64 x.fr,int i64 x.dst,int i64 x.ep,int i64 x.op,int i64 x.n,bool x.flag,.string ⟨x.e.1.k.toArray⟩,int i64 x.e.1.s,int i64 x.e.1.u,int i64 x.e.1.o,bool x.e.1.has,slice x.e.2.1 x.e.1.v.length x.e.2.2,slice x.lA x.l.length x.lc,slice x.rA x.ns.length x.rc,int i64 x.each,int i64 x.keep]);have d:=zhd b;have c:=zhd h;have m:Hid (g<w.heap.size):=zhd (by
  obtain⟨K,FS,i⟩:=h.stAt;exact zc1 i)
 have r:(x.dst==1)=false:=by simpa using a
 have p:(x.dst != 1)=true:=by simpa using a
 clear b h a;go_enter Tryz.func20,Tryz.ntmps20
 go_wp2;go_ret;exact zfR c.out rfl d.out
theorem zow(F:Nat->Prop)(g q:Nat)(S:St8)(ps:zcS)(x:MV)(d:x.dst=1)(hc:zbr (mP x)=2)(w:World)(ht:KT w)(h:SvAt w F g S ps q)(p:MsgM w x) :
 Calls Tryz.prog 20 #[.pointer (some ⟨g,0,none⟩),.agg #[int i64 x.kind,int i64 x.fr,int i64 x.dst,int i64 x.ep,int i64 x.op,int i64 x.n,bool x.flag,.string ⟨x.e.1.k.toArray⟩,int i64 x.e.1.s,int i64 x.e.1.u,int i64 x.e.1.o,bool x.e.1.has,slice x.e.2.1 x.e.1.v.length x.e.2.2,slice x.lA x.l.length x.lc,slice x.rA x.ns.length x.rc,int i64 x.each,int i64 x.keep]] w (zhx F g S ps q [] S ps w):=by
 have a:Below w.heap.size w (w.alloc (.cells #[int i64 x.kind,int i64 x.fr,int i64 x.dst,int i64 x.ep,int i64 x.op,int i64 x.n,bool x.flag,.string ⟨x.e.1.k.toArray⟩,int i64 x.e.1.s,int i64 x.e.1.u,int i64 x.e.1.o,bool x.e.1.has,slice x.e.2.1 x.e.1.v.length x.e.2.2,slice x.lA x.l.length x.lc,slice x.rA x.ns.length x.rc,int i64 x.each,int i64 x.keep] 51)):=zbl;have m:=zhd (Blk.new w 51 #[int i64 x.kind,int i64 x.fr,int i64 x.dst,int i64 x.ep,int i64 x.op,int i64 x.n,bool x.flag,.string ⟨x.e.1.k.toArray⟩,int i64 x.e.1.s,int i64 x.e.1.u,int i64 x.e.1.o,bool x.e.1.has,slice x.e.2.1 x.e.1.v.length x.e.2.2,slice x.lA x.l.length x.lc,slice x.rA x.ns.length x.rc,int i64 x.each,int i64 x.keep]);have c:=zhd a;have r:=zhd h;have z:Hid (g<w.heap.size):=zhd (by
  obtain⟨K,FS,t⟩:=h.stAt;exact zc1 t)
 have b:=zet x _ (ht.below a) (p.below a);rw [hc] at b;have i:=zhd b;rw [d] at m c i;rw [d];clear a h d hc b ht p;go_enter Tryz.func20,Tryz.ntmps20
 go_wp2_with (refine zcf rfl 51 _ rfl _ rfl _ _ _ _ (show _=_ from m.out) Tryz.underlying51 rfl (by kernel_rfl) ?_)
 refine i.out.mono ?_;rintro e w1 ⟨rfl,j⟩;have y:=zhd (c.out.trans (j.mono c.out.size));clear j i;go_wp2;go_ret;exact zfR r.out rfl y.out
theorem zme(F:Nat->Prop)(g q:Nat)(S:St8)(ps:zcS)(x:MV)(j:x.dst=1)(hc:zbr (mP x)=0)(r:x.kind≠7)(p:x.kind≠10)(w:World)(ht:KT w)(h:SvAt w F g S ps q)(t:MsgM w x) :
 Calls Tryz.prog 20 #[.pointer (some ⟨g,0,none⟩),.agg #[int i64 x.kind,int i64 x.fr,int i64 x.dst,int i64 x.ep,int i64 x.op,int i64 x.n,bool x.flag,.string ⟨x.e.1.k.toArray⟩,int i64 x.e.1.s,int i64 x.e.1.u,int i64 x.e.1.o,bool x.e.1.has,slice x.e.2.1 x.e.1.v.length x.e.2.2,slice x.lA x.l.length x.lc,slice x.rA x.ns.length x.rc,int i64 x.each,int i64 x.keep]] w (zhx F g S ps q [] S ps w):=by
 have b:Below w.heap.size w (w.alloc (.cells #[int i64 x.kind,int i64 x.fr,int i64 x.dst,int i64 x.ep,int i64 x.op,int i64 x.n,bool x.flag,.string ⟨x.e.1.k.toArray⟩,int i64 x.e.1.s,int i64 x.e.1.u,int i64 x.e.1.o,bool x.e.1.has,slice x.e.2.1 x.e.1.v.length x.e.2.2,slice x.lA x.l.length x.lc,slice x.rA x.ns.length x.rc,int i64 x.each,int i64 x.keep] 51)):=zbl;have a:=zhd (Blk.new w 51 #[int i64 x.kind,int i64 x.fr,int i64 x.dst,int i64 x.ep,int i64 x.op,int i64 x.n,bool x.flag,.string ⟨x.e.1.k.toArray⟩,int i64 x.e.1.s,int i64 x.e.1.u,int i64 x.e.1.o,bool x.e.1.has,slice x.e.2.1 x.e.1.v.length x.e.2.2,slice x.lA x.l.length x.lc,slice x.rA x.ns.length x.rc,int i64 x.each,int i64 x.keep]);have i:=zhd b;have y:=zhd h;have C:Hid (g<w.heap.size):=zhd (by
  obtain⟨K,FS,z⟩:=h.stAt;exact zc1 z)
 have c:=zet x _ (ht.below b) (t.below b);rw [hc] at c;have m:=zhd c;have E:(x.kind==7)=false:=by simpa using r
 have D:(x.kind==10)=false:=by simpa using p
 rw [j] at a i m;rw [j];clear b h j hc c ht t r p;go_enter Tryz.func20,Tryz.ntmps20
 go_wp2_with (refine zcf rfl 51 _ rfl _ rfl _ _ _ _ (show _=_ from a.out) Tryz.underlying51 rfl (by kernel_rfl) ?_)
 refine m.out.mono ?_;rintro e w1 ⟨rfl,d⟩;have A:=zhd (i.out.trans (d.mono i.out.size));have B:=zhd (a.out.below d a.out.lt);have k0:=B.out.cell 0;clear d m;go_wp2;go_ret;exact zfR y.out rfl A.out
theorem zf4(F:Nat->Prop)(g q:Nat)(S:St8)(ps:zcS)(x:MV)(m:x.dst=1)(hc:zbr (mP x)=0)(j:x.kind=10)(J:S.acks.length<=1466015503701)(L:ps.length<=700000000000)(w:World)(ht:KT w)(h:SvAt w F g S ps q)(b:MsgM w x)(B:zaK F w x.e.2.1 (x.e.1.v.map zaa)) :
 Calls Tryz.prog 20 #[.pointer (some ⟨g,0,none⟩),.agg #[int i64 x.kind,int i64 x.fr,int i64 x.dst,int i64 x.ep,int i64 x.op,int i64 x.n,bool x.flag,.string ⟨x.e.1.k.toArray⟩,int i64 x.e.1.s,int i64 x.e.1.u,int i64 x.e.1.o,bool x.e.1.has,slice x.e.2.1 x.e.1.v.length x.e.2.2,slice x.lA x.l.length x.lc,slice x.rA x.ns.length x.rc,int i64 x.each,int i64 x.keep]] w (zhx F g S ps q [] (zce S x.e.1 x.fr).1 (zi5 S ps x.e.1 x.fr) w):=by
 have i:Below w.heap.size w (w.alloc (.cells #[int i64 x.kind,int i64 x.fr,int i64 x.dst,int i64 x.ep,int i64 x.op,int i64 x.n,bool x.flag,.string ⟨x.e.1.k.toArray⟩,int i64 x.e.1.s,int i64 x.e.1.u,int i64 x.e.1.o,bool x.e.1.has,slice x.e.2.1 x.e.1.v.length x.e.2.2,slice x.lA x.l.length x.lc,slice x.rA x.ns.length x.rc,int i64 x.each,int i64 x.keep] 51)):=zbl;have d:=zhd (Blk.new w 51 #[int i64 x.kind,int i64 x.fr,int i64 x.dst,int i64 x.ep,int i64 x.op,int i64 x.n,bool x.flag,.string ⟨x.e.1.k.toArray⟩,int i64 x.e.1.s,int i64 x.e.1.u,int i64 x.e.1.o,bool x.e.1.has,slice x.e.2.1 x.e.1.v.length x.e.2.2,slice x.lA x.l.length x.lc,slice x.rA x.ns.length x.rc,int i64 x.each,int i64 x.keep]);have A:=zhd i;have ae:=zhd h;have T:Hid (g<w.heap.size):=zhd (by
  obtain⟨K,FS,U⟩:=h.stAt;exact zc1 U)
 have t:=zet x _ (ht.below i) (b.below i);rw [hc] at t;have p:=zhd t;have C:Hid (∀ W,Below w.heap.size w W->Calls Tryz.prog 52 #[.pointer (some ⟨g,0,none⟩),.agg #[.string ⟨x.e.1.k.toArray⟩,int i64 x.e.1.s,int i64 x.e.1.u,int i64 x.e.1.o,bool x.e.1.has,slice x.e.2.1 x.e.1.v.length x.e.2.2],int i64 x.fr] W (zvm (int i64 (zce S x.e.1 x.fr).2) F g (zce S x.e.1 x.fr).1 (zi5 S ps x.e.1 x.fr) q W)):=zhd fun W c=>
  zqU F g q S ps x.e x.fr J L b.ev.leni b.ev.kleni W (h.below c) ((b.ev.row.below c).more c.size) b.ev.cap (B.touch (Touch.ofBelow c))
 obtain⟨c2,E⟩:∃ c2,(zce S x.e.1 x.fr).2=c2:=⟨_,rfl⟩;obtain⟨N,r⟩:∃ N,(zce S x.e.1 x.fr).1=N:=⟨_,rfl⟩;obtain⟨D,y⟩:∃ D,zi5 S ps x.e.1 x.fr=D:=⟨_,rfl⟩;rw [E,r,y] at C;rw [r,y];rw [m,j] at d A p;rw [m,j];clear i h m hc t ht b j B J L E r y;go_enter Tryz.func20,Tryz.ntmps20
 go_wp2_with (refine zcf rfl 51 _ rfl _ rfl _ _ _ _ (show _=_ from d.out) Tryz.underlying51 rfl (by kernel_rfl) ?_)
 refine p.out.mono ?_;rintro e w1 ⟨rfl,z⟩;have M:=zhd (A.out.trans (z.mono A.out.size));have a:=zhd (d.out.below z d.out.lt);have I:Hid (Below w.heap.size w w1.drew):=zhd M.out.drew;have k0:=a.out.cell 0;have k1:=a.out.cell 1;have k7:=a.out.cell 7;have R:=a.out.cell 8;have k9:=a.out.cell 9;have V:=a.out.cell 10;have aa:=a.out.cell 11;have X:=a.out.cell 12;have af:g<w1.heap.size:=by have:=T.out;have:=M.out.size;omega
 clear z p;go_wp2_with fail
 go_region_law (go_simp;go_at_call 52;refine(C.out _ I.out).mono ?_;rintro e w2 G;have Z:=zhd G;obtain⟨rfl,ab⟩:=G;clear ab)
 all_goals
  clear k0 k1 k7 R k9 V aa X;go_wp2;go_ret;obtain⟨_,F2,Q,Y,O⟩:=znd I.out Z.out;exact⟨F2,[],none,0,rfl,rfl,zfQ _ _ _,Q,Y,O⟩
theorem zg9(F:Nat->Prop)(g q:Nat)(S:St8)(ps:zcS)(x:MV)(D:x.dst=1)(hc:zbr (mP x)=0)(h7:x.kind=7)(w:World)(ht:KT w)(h:SvAt w F g S ps q)(M:MsgM w x) :
 Calls Tryz.prog 20 #[.pointer (some ⟨g,0,none⟩),.agg #[int i64 x.kind,int i64 x.fr,int i64 x.dst,int i64 x.ep,int i64 x.op,int i64 x.n,bool x.flag,.string ⟨x.e.1.k.toArray⟩,int i64 x.e.1.s,int i64 x.e.1.u,int i64 x.e.1.o,bool x.e.1.has,slice x.e.2.1 x.e.1.v.length x.e.2.2,slice x.lA x.l.length x.lc,slice x.rA x.ns.length x.rc,int i64 x.each,int i64 x.keep]] w (zhx F g S ps q [zdd S (mP x)] S ps w):=by
 have t:Below w.heap.size w (w.alloc (.cells #[int i64 x.kind,int i64 x.fr,int i64 x.dst,int i64 x.ep,int i64 x.op,int i64 x.n,bool x.flag,.string ⟨x.e.1.k.toArray⟩,int i64 x.e.1.s,int i64 x.e.1.u,int i64 x.e.1.o,bool x.e.1.has,slice x.e.2.1 x.e.1.v.length x.e.2.2,slice x.lA x.l.length x.lc,slice x.rA x.ns.length x.rc,int i64 x.each,int i64 x.keep] 51)):=zbl;have p:=zhd (Blk.new w 51 #[int i64 x.kind,int i64 x.fr,int i64 x.dst,int i64 x.ep,int i64 x.op,int i64 x.n,bool x.flag,.string ⟨x.e.1.k.toArray⟩,int i64 x.e.1.s,int i64 x.e.1.u,int i64 x.e.1.o,bool x.e.1.has,slice x.e.2.1 x.e.1.v.length x.e.2.2,slice x.lA x.l.length x.lc,slice x.rA x.ns.length x.rc,int i64 x.each,int i64 x.keep]);have X:=zhd t;have aD:=zhd h;have HG:Hid (g<w.heap.size):=zhd (by
  obtain⟨K,FS,U⟩:=h.stAt;exact zc1 U)
 have ae:=zet x _ (ht.below t) (M.below t);rw [hc] at ae;have HC:=zhd ae;have O:=zhd (ht.below t);have ah:Hid (zdd S (mP x)=⟨8,1,x.fr,x.ep,x.op,0,false,ofT S.L x.e.1.k,[],[],0,0⟩):=zhd (by rw [<-D];rfl);have aa:(ofT S.L x.e.1.k).v.length<=60000:=by
  obtain⟨K,FS,U⟩:=h.stAt;exact zlL U.ok.lOk _
 have ag:(ofT S.L x.e.1.k).k=x.e.1.k:=ziD S.L x.e.1.k;have aH:Hid (x.e.1.k.length<=maxLen):=zhd M.ev.klen;have Q:∀ W,Below w.heap.size w W->Calls Tryz.prog 17 #[.pointer (some ⟨g,0,none⟩),.string ⟨x.e.1.k.toArray⟩] W (zv4 (ofT S.L x.e.1.k) W):=fun W hW=>zkw F g q S ps x.e.1.k M.ev.klen W (h.below hW);have aM:Hid (∀ k,F k->k<w.heap.size):=zhd h.lt;obtain⟨y,hy⟩:∃ y,ofT S.L x.e.1.k=y:=⟨_,rfl⟩;rw [hy] at Q aa ag ah;have aq:=zhd Q;have aK:=zhd aa;have aI:=zhd ag;rw [ah.out];rw [D,h7] at p X HC O;rw [D,h7];clear t h D hc ae ht M h7 hy ah Q aa ag;go_enter Tryz.func20,Tryz.ntmps20
 go_wp2_with (refine zcf rfl 51 _ rfl _ rfl _ _ _ _ (show _=_ from p.out) Tryz.underlying51 rfl (by kernel_rfl) ?_)
 refine HC.out.mono ?_;rintro e w1 ⟨rfl,I⟩;have au:=zhd (X.out.trans (I.mono X.out.size));have B:=zhd (p.out.below I p.out.lt);have ax:=zhd (O.out.below I);have k0:=B.out.cell 0;have ak:=ztq 8 7 x.fr 1 x.ep x.op x.n x.flag ⟨x.e.1.k.toArray⟩ x.e.1.s x.e.1.u x.e.1.o x.e.1.has x.e.2.1 x.e.1.v.length x.e.2.2 x.lA x.l.length x.lc x.rA x.ns.length x.rc x.each x.keep w1 ax.out;have af:=zhd ak;unfold zwH zou at af;clear I HC ak;go_wp2_with (refine wpList_load_row rfl 51 _ rfl _ rfl _ _ _ _ (show _=_ from B.out) Tryz.underlying51 rfl (by kernel_rfl) ?_)
 refine af.out.mono ?_;rintro e G ⟨rfl,Y⟩;have an:zeW 8 ⟨x.e.1.k.toArray⟩=⟨x.e.1.k.toArray⟩:=rfl;rw [an];have R:=zhd (au.out.trans (Y.mono au.out.size));have J:=zhd (B.out.below Y B.out.lt);clear Y af p B k0 an ax O;go_upto_region 6 with(refine zeY rfl rfl _ rfl 51 #[int i64 0,int i64 0,int i64 0,int i64 0,int i64 0,int i64 0,bool false,.string ⟨#[]⟩,int i64 0,int i64 0,int i64 0,bool false,slice none 0 0,slice none 0 0,slice none 0 0,int i64 0,int i64 0] (by kernel_rfl) _ _ rfl #[int i64 8,int i64 1,int i64 x.fr,int i64 x.ep,int i64 x.op,int i64 0,bool false,.string ⟨x.e.1.k.toArray⟩,int i64 0,int i64 0,int i64 0,bool false,slice none 0 0,slice none 0 0,slice none 0 0,int i64 0,int i64 0] rfl rfl rfl (by kernel_rfl) (by kernel_rfl) ?_)
 obtain⟨i,C⟩:∃ W,G.alloc (.cells #[int i64 8,int i64 1,int i64 x.fr,int i64 x.ep,int i64 x.op,int i64 0,bool false,.string ⟨x.e.1.k.toArray⟩,int i64 0,int i64 0,int i64 0,bool false,slice none 0 0,slice none 0 0,slice none 0 0,int i64 0,int i64 0] 51)=W:=⟨_,rfl⟩;obtain⟨b,N⟩:∃ g,G.heap.size=g:=⟨_,rfl⟩;have E:Hid (Blk i b 51 #[int i64 8,int i64 1,int i64 x.fr,int i64 x.ep,int i64 x.op,int i64 0,bool false,.string ⟨x.e.1.k.toArray⟩,int i64 0,int i64 0,int i64 0,bool false,slice none 0 0,slice none 0 0,slice none 0 0,int i64 0,int i64 0]):=zhd (by rw [<-C,<-N];exact Blk.new _ _ _);have ab:Below G.heap.size G i:=by rw [<-C];exact zbl
 have A:=zhd (R.out.trans (ab.mono R.out.size));have aw:=zhd (J.out.below ab J.out.lt);have aA:Hid (w.heap.size+1<=b):=zhd (by rw [<-N];exact J.out.lt);have aS:g<i.heap.size:=by have:=HG.out;have:=A.out.size;omega
 have k7:=aw.out.cell 7;simp only [C,N];clear ab C N R J;have al:=zhd (aq.out i A.out);go_wp2_with fail
 refine al.out.mono ?_;rintro e w4 ⟨c,c2,rfl,am,T⟩;have ai:=zhd (A.out.trans (T.mono A.out.size));have a:=zhd (E.out.below T E.out.lt);have ao:=zhd am;have aE:Hid (b<i.heap.size):=zhd E.out.lt;have r7:=a.out.cell 7;have r8:=a.out.cell 8;have r9:=a.out.cell 9;have aN:=a.out.cell 10;have az:=a.out.cell 11;have aP:=a.out.cell 12;have z7:=a.out.frozen 7;have z8:=a.out.frozen 8;have z9:=a.out.frozen 9;have aR:=a.out.frozen 10;have aG:=a.out.frozen 11;have aJ:=a.out.frozen 12;unfold evV;clear am T al aq k7 E aw;go_upto_region 7 with fail
 obtain⟨d,r⟩:∃ W,(((((w4.setCell ⟨b,7,none⟩ (.string ⟨y.k.toArray⟩)).setCell ⟨b,8,none⟩ (int i64 y.s)).setCell ⟨b,9,none⟩ (int i64 y.u)).setCell ⟨b,10,none⟩ (int i64 y.o)).setCell ⟨b,11,none⟩ (bool y.has)).setCell ⟨b,12,none⟩ (slice c y.v.length c2)=W:=⟨_,rfl⟩;have aQ:Hid (Blk d b 51 #[int i64 8,int i64 1,int i64 x.fr,int i64 x.ep,int i64 x.op,int i64 0,bool false,.string ⟨y.k.toArray⟩,int i64 y.s,int i64 y.u,int i64 y.o,bool y.has,slice c y.v.length c2,slice none 0 0,slice none 0 0,int i64 0,int i64 0]):=zhd (by rw [<-r];exact(((((a.out.set_ 7 (.string ⟨y.k.toArray⟩)).set_ 8 (int i64 y.s)).set_ 9 (int i64 y.u)).set_ 10 (int i64 y.o)).set_ 11 (bool y.has)).set_ 12 (slice c y.v.length c2));have V:Hid (Below w.heap.size w d):=zhd (by
  have j:w.heap.size<=b:=by have:=aA.out;omega
  rw [<-r];exact zad (zad (zad (zad (zad (zad ai.out j 7 _) j 8 _) j 9 _) j 10 _) j 11 _) j 12 _)
 have aO:Hid (d.ownsRow w.heap.size 5 1 (slice c y.v.length c2) y.v.length (y.v.map zaa)):=zhd (by
  have m:b<i.heap.size:=aE.out;rw [<-r];exact zaz (zak (zak (zak (zak (zak (zak ao.out m _ _) m _ _) m _ _) m _ _) m _ _) m _ _) A.out.size)
 rw [r];clear r r7 r8 r9 aN az aP z7 z8 z9 aR aG aJ a ao ai;go_wp2_with (refine wpList_load_row rfl 51 _ rfl _ rfl _ _ _ _ (show _=_ from aQ.out) Tryz.underlying51 rfl (by kernel_rfl) ?_)
 have aj:Hid (Below w.heap.size w (d.alloc (.cells #[int i64 8,int i64 1,int i64 x.fr,int i64 x.ep,int i64 x.op,int i64 0,bool false,.string ⟨y.k.toArray⟩,int i64 y.s,int i64 y.u,int i64 y.o,bool y.has,slice c y.v.length c2,slice none 0 0,slice none 0 0,int i64 0,int i64 0] 51))):=zhd (V.out.alloc V.out.size _);have aL:Hid (Blk (d.alloc (.cells #[int i64 8,int i64 1,int i64 x.fr,int i64 x.ep,int i64 x.op,int i64 0,bool false,.string ⟨y.k.toArray⟩,int i64 y.s,int i64 y.u,int i64 y.o,bool y.has,slice c y.v.length c2,slice none 0 0,slice none 0 0,int i64 0,int i64 0] 51)) d.heap.size 51 #[int i64 8,int i64 1,int i64 x.fr,int i64 x.ep,int i64 x.op,int i64 0,bool false,.string ⟨y.k.toArray⟩,int i64 y.s,int i64 y.u,int i64 y.o,bool y.has,slice c y.v.length c2,slice none 0 0,slice none 0 0,int i64 0,int i64 0]):=zhd (Blk.new _ _ _);have ay:Hid ((d.alloc (.cells #[int i64 8,int i64 1,int i64 x.fr,int i64 x.ep,int i64 x.op,int i64 0,bool false,.string ⟨y.k.toArray⟩,int i64 y.s,int i64 y.u,int i64 y.o,bool y.has,slice c y.v.length c2,slice none 0 0,slice none 0 0,int i64 0,int i64 0] 51)).ownsRow w.heap.size 5 1 (slice c y.v.length c2) y.v.length (y.v.map zaa)):=zhd (zag aO.out (zbl));go_ret;have hF:∀ k,zw8 F w k->k<w.heap.size:=fun k Z=>Z.elim (aM.out k) fun h=>h;have h5:=V.out.size;refine⟨F,[⟨8,1,x.fr,x.ep,x.op,0,false,(y,c,c2),none,[],0,none,[],0,0,0⟩],some ⟨d.heap.size,0,none⟩,1,rfl,rfl,⟨?_,fun z hz=>?_⟩,fun k Z=>Or.inl Z,aD.out.below aj.out,Touch.ofBelow aj.out⟩
 ·exact zve aL.out (fun hf=>by have:=hF _ hf;omega)
 ·obtain rfl:z=⟨8,1,x.fr,x.ep,x.op,0,false,(y,c,c2),none,[],0,none,[],0,0,0⟩:=by simpa using hz
  have aB:=(zbR ay.out).1;refine⟨zaF hF ay.out,?_,?_,aB,rfl,rfl⟩
  ·show y.v.length<=maxLen
   have:=aK.out;unfold maxLen;omega
  ·show y.k.length<=maxLen
   rw [aI.out];exact aH.out
theorem zha(m:MsgP):zbr m=0\/zbr m=2:=by unfold zbr;split<;>simp
theorem zox(F:Nat->Prop)(g q:Nat)(S:St8)(ps:zcS)(x:MV)(m:S.acks.length<=1466015503701)(r:ps.length<=700000000000)(w:World)(ht:KT w)(h:SvAt w F g S ps q)(j:MsgM w x)(p:zaK F w x.e.2.1 (x.e.1.v.map zaa)) :
 Calls Tryz.prog 20 #[.pointer (some ⟨g,0,none⟩),.agg #[int i64 x.kind,int i64 x.fr,int i64 x.dst,int i64 x.ep,int i64 x.op,int i64 x.n,bool x.flag,.string ⟨x.e.1.k.toArray⟩,int i64 x.e.1.s,int i64 x.e.1.u,int i64 x.e.1.o,bool x.e.1.has,slice x.e.2.1 x.e.1.v.length x.e.2.2,slice x.lA x.l.length x.lc,slice x.rA x.ns.length x.rc,int i64 x.each,int i64 x.keep]] w (zhx F g S ps q (zea S (mP x)) (zbI S ps (mP x)).1 (zbI S ps (mP x)).2 w):=by
 by_cases b:x.dst=1
 ·rcases zha (mP x) with hc|hc
  ·by_cases i:x.kind=7
   ·have c:zea S (mP x)=[zdd S (mP x)]:=if_pos ⟨hc,b,i⟩;have e2:zbI S ps (mP x)=(S,ps):=if_neg (fun a=>by have t:x.kind=10:=a.2.2;omega);rw [c,e2];exact zg9 F g q S ps x b hc i w ht h j
   ·have c:zea S (mP x)=[]:=if_neg (fun a=>i a.2.2);by_cases d:x.kind=10
    ·have e2:zbI S ps (mP x)=((zce S x.e.1 x.fr).1,zi5 S ps x.e.1 x.fr):=if_pos ⟨hc,b,d⟩;rw [c,e2];exact zf4 F g q S ps x b hc d m r w ht h j p
    ·have e2:zbI S ps (mP x)=(S,ps):=if_neg (fun a=>d a.2.2);rw [c,e2];exact zme F g q S ps x b hc i d w ht h j
  ·have c:zea S (mP x)=[]:=if_neg (fun a=>by have:=a.1;omega);have e2:zbI S ps (mP x)=(S,ps):=if_neg (fun a=>by have:=a.1;omega);rw [c,e2];exact zow F g q S ps x b hc w ht h j
 ·have c:zea S (mP x)=[]:=if_neg (fun a=>b a.2.1);have e2:zbI S ps (mP x)=(S,ps):=if_neg (fun a=>b a.2.1);rw [c,e2];exact zov F g q S ps x b w h
end
section
open Go.RowKit Go.ChangeShapes Go.WideShapes Mem Rg
structure O14 where
 kind:Int
 m:MV
 kept:Int
abbrev mV0:MV:=⟨0,0,0,0,0,0,false,(⟨[],0,0,0,false,[]⟩,none,0),none,[],0,none,[],0,0,0⟩
instance o14inh:Inhabited O14:=⟨⟨0,mV0,0⟩⟩
def oC(r:O14):List Value:=int i64 r.kind :: (mL r.m++[int i64 r.kept])
abbrev osC(rs:List O14):List Value:=rs.flatMap oC
theorem zmf(rs:List O14):(osC rs).length=rs.length*19:=by
 induction rs with
 | nil=>rfl
 | cons p rs ih=>simp only [osC,List.flatMap_cons,List.length_append,oC,mL,List.length_cons,List.length_nil];have:=ih;unfold osC at this;omega
theorem ztU(rs:List O14)(i:Nat)(h:i<rs.length)(j:Nat)(a:j<19):(osC rs)[i*19+j]?=(oC rs[i])[j]?:=by
 induction rs generalizing i with
 | nil=>simp at h
 | cons p rs ih=>
  have hc:osC (p :: rs)=oC p++osC rs:=rfl;rw [hc];have hl:(oC p).length=19:=rfl;rcases i with _|i
  ·rw [List.getElem?_append_left (by omega),Nat.zero_mul,Nat.zero_add];rfl
  ·rw [List.getElem?_append_right (by omega),hl,show(i+1)*19+j - 19=i*19+j by omega,ih i (by simpa using h)];rfl
theorem zmg{w:World}{B:Nat}{A:Option Addr}{rs:List O14}(h:Row w B A (osC rs))(m:0<rs.length) :
 ∃ b o,A=some ⟨b,o,none⟩/\b<B/\∀ i (d:i<rs.length),∀ j v,(oC rs[i])[j]?=some v->w.cell? ⟨b,o+i*19+j,none⟩=some v:=by
 obtain⟨b,o,k,l,hc⟩:=h.open_ (by rw [zmf];omega);refine⟨b,o,k,l,fun i d j v c=>?_⟩;have g:j<19:=(List.getElem?_eq_some_iff.1 c).1;have a:i*19+j<(osC rs).length:=by rw [zmf];omega
 rw [show o+i*19+j=o+(i*19+j) by omega,hc (i*19+j) a,<-c,<-ztU rs i d j g,List.getElem?_eq_getElem a]
structure O14Ok (w:World) (r:O14):Prop where
 m:MsgM w r.m
 k0:-9223372036854775808<=r.kind
 k1:r.kind<=9223372036854775807
 p0:-9223372036854775808<=r.kept
 p1:r.kept<=9223372036854775807
structure InO (w:World) (A:Option Addr) (rs:List O14):Prop where
 row:Row w w.heap.size A (osC rs)
 ok:∀ r∈rs,O14Ok w r
theorem InO.rowAt{w W:World}{A:Option Addr}{rs:List O14}(h:InO w A rs)(hb:Below w.heap.size w W):Row W w.heap.size A (osC rs):=h.row.below hb
theorem InO.msg{w W:World}{A:Option Addr}{rs:List O14}(h:InO w A rs)(hb:Below w.heap.size w W){k:Nat}(hk:k<rs.length):MsgM W rs[k].m:=(h.ok _ (List.getElem_mem hk)).m.below hb
theorem InO.apart{w W:World}{F:Nat->Prop}{A:Option Addr}{rs:List O14}(h:InO w A rs)(hb:Below w.heap.size w W){k:Nat}(hk:k<rs.length)(hF:∀ k,F k->w.heap.size<=k):zaK F W rs[k].m.e.2.1 (rs[k].m.e.1.v.map zaa):=zaK.of_low ((h.ok _ (List.getElem_mem hk)).m.ev.row.below hb) hb.size hF
section
variable {H : Type} {enc : TypeId × Value → H} {w : World} {base : Nat} {held : Bool}
theorem zmh{fuel:Nat}{c0 c1 c2 c3 c4 c5 c6 c7 c8 c9 c10 c11 c12 c13 c14 c15 c16:Value}{x:DataW H×List MemPlace}(hf:DataW.trod enc Tryz.prog w base (fun _=>true) held fuel 51 [c0,c1,c2,c3,c4,c5,c6,c7,c8,c9,c10,c11,c12,c13,c14,c15,c16]=some x) :
 ∃ y:MV,[c0,c1,c2,c3,c4,c5,c6,c7,c8,c9,c10,c11,c12,c13,c14,c15,c16]=mL y/\MsgM w y:=by
 obtain⟨S,n,_,_,_,Z,c⟩:=DataW.trod_struct Tryz.underlying51 hf;have d:Tryz.prog.cellsOf 3=1:=by kernel_rfl
 have e2:Tryz.prog.cellsOf 4=1:=by kernel_rfl
 have e3:Tryz.prog.cellsOf 46=6:=by kernel_rfl
 have g:Tryz.prog.cellsOf 33=1:=by kernel_rfl
 have b:Tryz.prog.cellsOf 49=3:=by kernel_rfl
 match S,Z with
 | [y0,y1,y2,y3,y4,y5,y6,y7,y8,y9],_=>
  have h0:=c 0 _ rfl;have E:=c 1 _ rfl;have v:=c 2 _ rfl;have K:=c 3 _ rfl;have Y:=c 4 _ rfl;have h5:=c 5 _ rfl;have J:=c 6 _ rfl;have W:=c 7 _ rfl;have R:=c 8 _ rfl;have s:=c 9 _ rfl;obtain⟨a0,u,_,_⟩:=DataW.trod_int Tryz.underlying3 (x:=y0) (by simpa [Value.cells,d,e2,e3,g,b] using h0);obtain⟨j,B,_,_⟩:=DataW.trod_int Tryz.underlying3 (x:=y1) (by simpa [Value.cells,d,e2,e3,g,b] using E);obtain⟨k,T,_,_⟩:=DataW.trod_int Tryz.underlying3 (x:=y2) (by simpa [Value.cells,d,e2,e3,g,b] using v);obtain⟨a3,F,_,_⟩:=DataW.trod_int Tryz.underlying3 (x:=y3) (by simpa [Value.cells,d,e2,e3,g,b] using K);obtain⟨a4,af,_,_⟩:=DataW.trod_int Tryz.underlying3 (x:=y4) (by simpa [Value.cells,d,e2,e3,g,b] using Y);obtain⟨a5,G,_,_⟩:=DataW.trod_int Tryz.underlying3 (x:=y5) (by simpa [Value.cells,d,e2,e3,g,b] using h5);obtain⟨fl,D,_⟩:=DataW.trod_bool Tryz.underlying4 (x:=y6) (by simpa [Value.cells,d,e2,e3,g,b] using J);obtain⟨y,h,A,hc,O,M⟩:=zg8 (x:=y7) (by simpa [Value.cells,d,e2,e3,g,b] using W);have l:DataW.trod enc Tryz.prog w base (fun _=>true) held n 33 [c13]=some y8:=by simpa [Value.cells,d,e2,e3,g,b] using R
  obtain⟨Q,ll,lc,q⟩:∃ a len cap,c13=slice a len cap:=by
   rcases DataW.trod_slice Tryz.underlying33 l with⟨i,_⟩|⟨a,len,cap,_,_,_,_,i,_⟩
   ·exact⟨none,0,0,by simpa using i⟩
   ·exact⟨some a,len,cap,by simpa using i⟩
  subst q;obtain⟨rs,m,ag,aj,z,ae⟩:=zmc l;obtain⟨rA,ns,rc,p,rk,q1,N,q3,ab,ah,ai⟩:=zkJ (x:=y9) (by simpa [Value.cells,d,e2,e3,g,b] using s);unfold zbf at h;simp only [List.cons.injEq,and_true] at h;obtain⟨p1,C,o,p4,p5,U⟩:=h;subst m;have t:c0=int i64 a0:=by simpa using u
  have I:c1=int i64 j:=by simpa using B
  have L:c2=int i64 k:=by simpa using T
  have X:c3=int i64 a3:=by simpa using F
  have r:c4=int i64 a4:=by simpa using af
  have aa:c5=int i64 a5:=by simpa using G
  have V:c6=bool fl:=by simpa using D
  refine⟨⟨a0,j,k,a3,a4,a5,fl,y,Q,rs,lc,rA,ns,rc,p,rk⟩,?_,⟨A,Nat.le_trans hc O,M,hc⟩,⟨z,ae⟩,by show rs.length<=maxLen;omega,ab,by show ns.length<=maxLen;omega⟩;unfold mL;rw [t,I,L,X,r,aa,V,p1,C,o,p4,p5,U,q1,N,q3]
theorem zoy{fuel:Nat}{i d1 d2 B m v u z q l A p s a c b j g d:Value}{x:DataW H×List MemPlace}(h:DataW.trod enc Tryz.prog w base (fun _=>true) held fuel 53 [i,d1,d2,B,m,v,u,z,q,l,A,p,s,a,c,b,j,g,d]=some x) :
 ∃ r:O14,[i,d1,d2,B,m,v,u,z,q,l,A,p,s,a,c,b,j,g,d]=oC r/\O14Ok w r:=by
 obtain⟨I,n,_,_,_,M,o⟩:=DataW.trod_struct Tryz.underlying53 h;have C:Tryz.prog.cellsOf 3=1:=by kernel_rfl
 have e2:Tryz.prog.cellsOf 51=17:=by kernel_rfl
 match I,M with
 | [y0,y1,y2],_=>
  have R:=o 0 _ rfl;have N:=o 1 _ rfl;have J:=o 2 _ rfl;obtain⟨k,Q,_,G⟩:=DataW.trod_int Tryz.underlying3 (x:=y0) (by simpa [C,e2] using R);obtain⟨y,L,S⟩:=zmh (x:=y1) (c0:=d1) (c1:=d2) (c2:=B) (c3:=m) (c4:=v) (c5:=u) (c6:=z) (c7:=q) (c8:=l) (c9:=A) (c10:=p) (c11:=s) (c12:=a) (c13:=c) (c14:=b) (c15:=j) (c16:=g) (by simpa [C,e2] using N);obtain⟨t,ht,_,O⟩:=DataW.trod_int Tryz.underlying3 (x:=y2) (by simpa [C,e2] using J);have E:=bounds_i64 G;have D:=bounds_i64 O;have F:i=int i64 k:=by simpa using Q
  have K:d=int i64 t:=by simpa using ht
  refine⟨⟨k,y,t⟩,?_,S,E.1,E.2,D.1,D.2⟩;unfold oC;rw [<-L,F,K];rfl
theorem open_ops{a:Option Addr}{len cap:Nat}{d:DataW H}{ps:List MemPlace}(h:DataW.Trod enc Tryz.prog w base (fun _=>true) held 22 (slice a len cap) d ps) :
 ∃ rs:List O14,len=rs.length/\len<=cap/\cap<=maxLen/\InO w a rs:=by
 obtain⟨fuel,N⟩:=h;rcases Go.Deep.open_slice Tryz.underlying22 (by simpa [Value.cells] using N) with⟨s,_⟩|⟨x,l,c,m,n,D,R,s,_,hl,Q,B,S,E⟩
 ·simp only [List.cons.injEq,and_true] at s;injection s with q k h3;subst q;subst k;subst h3;exact⟨[],rfl,Nat.le_refl _,by unfold maxLen;omega,⟨Row.nil _ _ _,by simp⟩⟩
 ·simp only [List.cons.injEq,and_true] at s;injection s with q k h3;subst q;subst k;subst h3;simp only [if_true] at B;subst B;have I:Tryz.prog.cellsOf 53=19:=by kernel_rfl
  rw [I] at E;obtain⟨V,u⟩:=Go.Deep.choose_lt (n:=len) (α:=O14) (p:=fun i r=>(∀ j,j<19->w.cell? (x.add (i*19+j))=(oC r)[j]?)/\O14Ok w r) (fun i t=>by
   obtain⟨L,q,k⟩:=E i (by omega);obtain⟨_,K,G⟩:=World.cells?_some q
   match L,K with
   | [d0,d1,d2,d3,d4,d5,d6,d7,d8,d9,d10,d11,d12,d13,d14,d15,d16,d17,d18],_=>
    obtain⟨r,v,J⟩:=zoy k;refine⟨r,fun j g=>?_,J⟩;rw [<-Go.Deep.add_add,G j g,v])
  refine⟨(List.range len).map V,by simp,hl,Q,⟨?_,?_⟩⟩
  ·rcases Nat.eq_zero_or_pos len with z|z
   ·subst z;exact Or.inl rfl
   ·have A:=(u 0 z).1 0 (by omega);have C:w.cell? x=some (int i64 (V 0).kind):=by
     have e:x.add (0*19+0)=x:=by simp [Addr.add]
     rw [e] at A;exact A
    obtain⟨b,o,M⟩:=x;have O:M=none:=World.cell?_spot C;subst O;refine Or.inr ⟨b,o,rfl,zaq C,fun j g=>?_⟩;have T:j<len*19:=by rw [zmf] at g;simpa using g
    have t:j / 19<len:=by omega
    have F:j=j / 19*19+j % 19:=by omega
    have y:=(u (j / 19) t).1 (j % 19) (by omega);rw [<-F] at y;have e:(⟨b,o,none⟩:Addr).add j=⟨b,o+j,none⟩:=by
     unfold Addr.add;split
     ·subst_vars;rfl
     ·rfl
    rw [e] at y;have ht:=ztU ((List.range len).map V) (j / 19) (by simpa using t) (j % 19) (by omega);rw [<-F,List.getElem?_eq_getElem g] at ht;rw [y,ht,List.getElem_map,List.getElem_range]
  ·intro r v;obtain⟨i,t,rfl⟩:=List.mem_map.1 v;exact(u i (List.mem_range.1 t)).2
end
theorem sized_ops{H:Type}{i:TypeId×Value->H}{w:World}{base:Nat}{held:Bool}{a:Option Addr}{len cap:Nat}{d:DataW H}{ps:List MemPlace}(h:DataW.Trod i Tryz.prog w base (fun _=>true) held 22 (slice a len cap) d ps)(p:zm9 Tryz.prog 22 d):len*208<=reachBytes:=by
 obtain⟨fuel,j⟩:=h;rcases Go.Deep.open_slice Tryz.underlying22 (by simpa [Value.cells] using j) with⟨b,_⟩|⟨x,l,c,m,n,D,q,b,_,hl,t,s,o,r⟩
 ·simp only [List.cons.injEq,and_true] at b;injection b with h1 h2 g;subst h2;exact Nat.zero_le _
 ·simp only [List.cons.injEq,and_true] at b;injection b with h1 h2 g;subst h2;have g:=congrArg Prod.fst o;simp only at g;subst g;have:=p.len Tryz.underlying22;have k:Tryz.prog.bytesOf 53=208:=by kernel_rfl
  rw [k] at this;simp only [List.length_map,List.length_range] at this;omega
end
end Go.Proofs.YtahnjkkgojfdmaaGreatDoor
