import Derived.Test.YtahnjkkgojfdmaaGreatDoorSZ3
set_option maxRecDepth 100000
set_option maxHeartbeats 8000000
set_option linter.unusedVariables false
namespace Go.Proofs.YtahnjkkgojfdmaaGreatDoor
open Go.IntKind(i64)
open Go.Value(int slice bool pointer)
section
open Go.RowKit Mem Be Word Frm Go.Maps Rg
theorem znp{F:Nat->Prop}{w:World}{B:Nat}{A:Option Addr}{n c s:Nat}{e:TypeId}{d:List Value}(g:w.ownsRow B e s (slice A n c) n d)(j:∀ a,A=some a->¬ F a.block):zaK F w A d:=by
 rcases zcz g with h|⟨b,o,rfl,i,hc⟩
 ·exact Or.inl h
 ·exact Or.inr ⟨b,o,rfl,j _ rfl,i,hc⟩
def zvf(a:AckP):MV:=⟨11,1,a.who,0,0,0,false,(⟨a.k,a.s,a.u,a.o,false,[]⟩,none,0),none,[],0,none,[],0,0,0⟩
theorem zrx(l:List AckP):msC (l.map zvf)=zf1 l:=by
 unfold msC zf1;rw [List.flatMap_map];rfl
theorem zmi(l:List AckP):(l.map zvf).map mP=l.map zg3:=by
 rw [List.map_map];rfl
theorem ztV{F:Nat->Prop}{w:World}{A:Option Addr}{l:List AckP}(h:zaK F w A (zf1 l))(c:∀ a∈l,a.k.length<=maxLen):MsN F w A (l.map zvf):=by
 refine⟨by rw [zrx];exact h,fun x b=>?_⟩;obtain⟨a,d,rfl⟩:=List.mem_map.1 b;exact⟨Or.inl rfl,Nat.zero_le _,c a d,Nat.le_refl _,rfl,rfl⟩
def zrI(S:St8):Prop:=∀ a∈S.acks,0<a.k.length/\a.k.length<=250
theorem ztr{S:St8}(h:zrI S)(e:EntP)(who:Int):zrI (zce S e who).1:=by
 rcases zi8 S e who with⟨_,c,i,_⟩|⟨_,g⟩
 ·intro a d;rw [i] at d;rcases List.mem_append.1 d with b|b
  ·exact h a b
  ·obtain rfl:a=zaW e who:=by simpa using b
   exact⟨(zah c.1).1,(zah c.1).2.1⟩
 ·rw [g];exact h
theorem zvg{S:St8}{ps:zcS}(h:zrI S)(kind:Int)(m:MsgP)(kept:Int):zrI (opS S ps kind m kept).S:=by
 unfold opS;split
 ·unfold zbI;split
  ·exact ztr h _ _
  ·exact h
 split
 ·intro a b;cases b
 split
 ·show zrI (zbV S).1
  unfold zbV;split<;>exact h
 split
 ·exact h
 ·intro a b;cases b
theorem zts:zrI st0:=fun a b=>by cases b
def zgb(F:Nat->Prop)(g:Nat)(R:R14)(q:Nat)(w:World)(e:Ending)(w':World):Prop:=
 ∃ g' F' q' us A c,e=.returned (.tuple #[pointer (some ⟨g',0,none⟩),slice A us.length c,int i64 R.err])/\us.map mP=R.out/\MsN (zw8 F' w) w' A us/\(∀ k,F' k->F k\/w.heap.size<=k)/\q'<=q+1/\SvAt w' F' g' R.S R.ps q'/\Touch F w w'
theorem zoz(F:Nat->Prop)(g q:Nat)(S:St8)(ps:zcS)(x:MV)(z:Int)(K:S.acks.length<=1466015503701)(M:ps.length<=700000000000)(w:World)(ht:KT w)(h:SvAt w F g S ps q)(O:MsgM w x)(C:zaK F w x.e.2.1 (x.e.1.v.map zaa)) :
 Calls Tryz.prog 12 #[pointer (some ⟨g,0,none⟩),.agg #[int i64 1,int i64 x.kind,int i64 x.fr,int i64 x.dst,int i64 x.ep,int i64 x.op,int i64 x.n,bool x.flag,.string ⟨x.e.1.k.toArray⟩,int i64 x.e.1.s,int i64 x.e.1.u,int i64 x.e.1.o,bool x.e.1.has,slice x.e.2.1 x.e.1.v.length x.e.2.2,slice x.lA x.l.length x.lc,slice x.rA x.ns.length x.rc,int i64 x.each,int i64 x.keep,int i64 z]] w (zgb F g ⟨(zbI S ps (mP x)).1,(zbI S ps (mP x)).2,zea S (mP x),0⟩ q w):=by
 have b:Below w.heap.size w (w.alloc (.cells #[int i64 1,int i64 x.kind,int i64 x.fr,int i64 x.dst,int i64 x.ep,int i64 x.op,int i64 x.n,bool x.flag,.string ⟨x.e.1.k.toArray⟩,int i64 x.e.1.s,int i64 x.e.1.u,int i64 x.e.1.o,bool x.e.1.has,slice x.e.2.1 x.e.1.v.length x.e.2.2,slice x.lA x.l.length x.lc,slice x.rA x.ns.length x.rc,int i64 x.each,int i64 x.keep,int i64 z] 53)):=zbl;have a:=zhd (Blk.new w 53 #[int i64 1,int i64 x.kind,int i64 x.fr,int i64 x.dst,int i64 x.ep,int i64 x.op,int i64 x.n,bool x.flag,.string ⟨x.e.1.k.toArray⟩,int i64 x.e.1.s,int i64 x.e.1.u,int i64 x.e.1.o,bool x.e.1.has,slice x.e.2.1 x.e.1.v.length x.e.2.2,slice x.lA x.l.length x.lc,slice x.rA x.ns.length x.rc,int i64 x.each,int i64 x.keep,int i64 z]);have y:=zhd b;have j:=zhd (zox F g q S ps x K M _ (ht.below b) (h.below b) (O.below b) (C.touch (Touch.ofBelow b)));obtain⟨A,i⟩:∃ A,(zbI S ps (mP x)).1=A:=⟨_,rfl⟩;obtain⟨m,p⟩:∃ m,(zbI S ps (mP x)).2=m:=⟨_,rfl⟩;obtain⟨r,t⟩:∃ r,zea S (mP x)=r:=⟨_,rfl⟩;rw [i,p,t] at j;rw [i,p,t];have k1:=a.out.cell 1;have k2:=a.out.cell 2;have T:=a.out.cell 3;have Z:=a.out.cell 4;have k5:=a.out.cell 5;have V:=a.out.cell 6;have Y:=a.out.cell 7;have Q:=a.out.cell 8;have k9:=a.out.cell 9;have U:=a.out.cell 10;have aa:=a.out.cell 11;have W:=a.out.cell 12;have k13:=a.out.cell 13;have X:=a.out.cell 14;have k15:=a.out.cell 15;have R:=a.out.cell 16;have ab:=a.out.cell 17;clear b ht h O C K M i p t;go_enter Tryz.func12,Tryz.ntmps12
 go_wp2_with fail
 refine j.out.mono ?_;rintro e w1 ⟨F1,D,N,c1,rfl,E,J,L,G,I⟩;obtain⟨B,d⟩:∃ B,D.length=B:=⟨_,rfl⟩;have HX:Hid (zgb F g ⟨A,m,r,0⟩ q w (.returned (.tuple #[pointer (some ⟨g,0,none⟩),slice N B c1,int i64 0])) w1):=zhd
  ⟨g,F1,q,D,N,c1,by rw [d],E,J.mono (fun k c=>c.imp (fun h=>h) fun h=>Nat.lt_of_lt_of_le h y.out.size),fun k c=>(L k c).imp (fun h=>h) (fun h=>Nat.le_trans y.out.size h),Nat.le_succ _,G,(Touch.ofBelow y.out).trans I fun k c=>Or.inl c⟩
 rw [d];clear E J L G I d j k1 k2 T Z k5 V Y Q k9 U aa W k13 X k15 R ab;go_wp2;go_ret3
 exact HX.out
theorem zmj(F:Nat->Prop)(g q:Nat)(S:St8)(ps:zcS)(x:MV)(i:Int)(hq:q<=4611686018427387904)(C:S.acks.length<=700000000000)(A:zrI S)(w:World)(h:SvAt w F g S ps q) :
 Calls Tryz.prog 12 #[pointer (some ⟨g,0,none⟩),.agg #[int i64 2,int i64 x.kind,int i64 x.fr,int i64 x.dst,int i64 x.ep,int i64 x.op,int i64 x.n,bool x.flag,.string ⟨x.e.1.k.toArray⟩,int i64 x.e.1.s,int i64 x.e.1.u,int i64 x.e.1.o,bool x.e.1.has,slice x.e.2.1 x.e.1.v.length x.e.2.2,slice x.lA x.l.length x.lc,slice x.rA x.ns.length x.rc,int i64 x.each,int i64 x.keep,int i64 i]] w (zgb F g ⟨zc4 S,[],S.acks.map zg3,0⟩ q w):=by
 have d:Below w.heap.size w (w.alloc (.cells #[int i64 2,int i64 x.kind,int i64 x.fr,int i64 x.dst,int i64 x.ep,int i64 x.op,int i64 x.n,bool x.flag,.string ⟨x.e.1.k.toArray⟩,int i64 x.e.1.s,int i64 x.e.1.u,int i64 x.e.1.o,bool x.e.1.has,slice x.e.2.1 x.e.1.v.length x.e.2.2,slice x.lA x.l.length x.lc,slice x.rA x.ns.length x.rc,int i64 x.each,int i64 x.keep,int i64 i] 53)):=zbl;have L:=zhd (Blk.new w 53 #[int i64 2,int i64 x.kind,int i64 x.fr,int i64 x.dst,int i64 x.ep,int i64 x.op,int i64 x.n,bool x.flag,.string ⟨x.e.1.k.toArray⟩,int i64 x.e.1.s,int i64 x.e.1.u,int i64 x.e.1.o,bool x.e.1.has,slice x.e.2.1 x.e.1.v.length x.e.2.2,slice x.lA x.l.length x.lc,slice x.rA x.ns.length x.rc,int i64 x.each,int i64 x.keep,int i64 i]);have p:=zhd d;have B:=zhd (zh4 F g q S ps hq C _ (h.below d));have I:=zhd A;have M:g<(w.alloc (.cells #[int i64 2,int i64 x.kind,int i64 x.fr,int i64 x.dst,int i64 x.ep,int i64 x.op,int i64 x.n,bool x.flag,.string ⟨x.e.1.k.toArray⟩,int i64 x.e.1.s,int i64 x.e.1.u,int i64 x.e.1.o,bool x.e.1.has,slice x.e.2.1 x.e.1.v.length x.e.2.2,slice x.lA x.l.length x.lc,slice x.rA x.ns.length x.rc,int i64 x.each,int i64 x.keep,int i64 i] 53)).heap.size:=by
  obtain⟨K,FS,c⟩:=(h.below d).stAt;exact zc1 c
 have k0:=L.out.cell 0;clear d h hq C A;go_enter Tryz.func12,Tryz.ntmps12
 go_wp2_with fail
 refine B.out.mono ?_;rintro e w1 ⟨F1,G,c1,q1,rfl,m,D,E,y,c,z⟩;obtain⟨t,j⟩:∃ t,S.acks.length=t:=⟨_,rfl⟩;have J:Hid (zgb F g ⟨zc4 S,[],S.acks.map zg3,0⟩ q w (.returned (.tuple #[pointer (some ⟨g,0,none⟩),slice G t c1,int i64 0])) w1):=zhd
  ⟨g,F1,q1,S.acks.map zvf,G,c1,by rw [List.length_map,j],zmi _,ztV (znp m fun a b h=>h.elim (D a b) fun h=>(by have O:=(zaJ m b).1;have N:=p.out.size;omega)) fun a b=>(by have:=I.out a b;unfold maxLen;omega),fun k r=>(E k r).imp (fun h=>h) (fun h=>Nat.le_trans p.out.size h),y,c,(Touch.ofBelow p.out).trans z fun k r=>Or.inl r⟩
 rw [j];clear m D E y c z j B k0;go_wp2;go_ret3
 exact J.out
theorem zmk(F:Nat->Prop)(g q:Nat)(S:St8)(ps:zcS)(x:MV)(i:Int)(w:World)(h:SvAt w F g S ps q) :
 Calls Tryz.prog 12 #[pointer (some ⟨g,0,none⟩),.agg #[int i64 3,int i64 x.kind,int i64 x.fr,int i64 x.dst,int i64 x.ep,int i64 x.op,int i64 x.n,bool x.flag,.string ⟨x.e.1.k.toArray⟩,int i64 x.e.1.s,int i64 x.e.1.u,int i64 x.e.1.o,bool x.e.1.has,slice x.e.2.1 x.e.1.v.length x.e.2.2,slice x.lA x.l.length x.lc,slice x.rA x.ns.length x.rc,int i64 x.each,int i64 x.keep,int i64 i]] w (zgb F g ⟨(zbV S).1,ps,[],(zbV S).2⟩ q w):=by
 have c:Below w.heap.size w (w.alloc (.cells #[int i64 3,int i64 x.kind,int i64 x.fr,int i64 x.dst,int i64 x.ep,int i64 x.op,int i64 x.n,bool x.flag,.string ⟨x.e.1.k.toArray⟩,int i64 x.e.1.s,int i64 x.e.1.u,int i64 x.e.1.o,bool x.e.1.has,slice x.e.2.1 x.e.1.v.length x.e.2.2,slice x.lA x.l.length x.lc,slice x.rA x.ns.length x.rc,int i64 x.each,int i64 x.keep,int i64 i] 53)):=zbl;have A:=zhd (Blk.new w 53 #[int i64 3,int i64 x.kind,int i64 x.fr,int i64 x.dst,int i64 x.ep,int i64 x.op,int i64 x.n,bool x.flag,.string ⟨x.e.1.k.toArray⟩,int i64 x.e.1.s,int i64 x.e.1.u,int i64 x.e.1.o,bool x.e.1.has,slice x.e.2.1 x.e.1.v.length x.e.2.2,slice x.lA x.l.length x.lc,slice x.rA x.ns.length x.rc,int i64 x.each,int i64 x.keep,int i64 i]);have r:=zhd c;have a:=zhd (zi3 F g q S ps _ (h.below c));obtain⟨m,j⟩:∃ m,(zbV S).1=m:=⟨_,rfl⟩;obtain⟨e2,b⟩:∃ e2,(zbV S).2=e2:=⟨_,rfl⟩;rw [j,b] at a;rw [j,b];have k0:=A.out.cell 0;clear c h j b;go_enter Tryz.func12,Tryz.ntmps12
 go_wp2_with fail
 refine a.out.mono ?_;rintro e w1 ⟨rfl,F1,p,t,y⟩;have z:Hid (zgb F g ⟨m,ps,[],e2⟩ q w (.returned (.tuple #[pointer (some ⟨g,0,none⟩),slice none 0 0,int i64 e2])) w1):=zhd
  ⟨g,F1,q,[],none,0,rfl,rfl,zfQ _ _ _,fun k d=>(p k d).imp (fun h=>h) (fun h=>Nat.le_trans r.out.size h),Nat.le_succ _,t,(Touch.ofBelow r.out).trans y fun k d=>Or.inl d⟩
 clear p t y a k0;go_wp2;go_ret3
 exact z.out
theorem zoA(F:Nat->Prop)(g q:Nat)(S:St8)(ps:zcS)(x:MV)(a b:Int)(i:a≠1)(z:a≠2)(t:a≠3)(j:b<0)(w:World)(h:SvAt w F g S ps q) :
 Calls Tryz.prog 12 #[pointer (some ⟨g,0,none⟩),.agg #[int i64 a,int i64 x.kind,int i64 x.fr,int i64 x.dst,int i64 x.ep,int i64 x.op,int i64 x.n,bool x.flag,.string ⟨x.e.1.k.toArray⟩,int i64 x.e.1.s,int i64 x.e.1.u,int i64 x.e.1.o,bool x.e.1.has,slice x.e.2.1 x.e.1.v.length x.e.2.2,slice x.lA x.l.length x.lc,slice x.rA x.ns.length x.rc,int i64 x.each,int i64 x.keep,int i64 b]] w (zgb F g ⟨S,ps,[],2⟩ q w):=by
 have c:Below w.heap.size w (w.alloc (.cells #[int i64 a,int i64 x.kind,int i64 x.fr,int i64 x.dst,int i64 x.ep,int i64 x.op,int i64 x.n,bool x.flag,.string ⟨x.e.1.k.toArray⟩,int i64 x.e.1.s,int i64 x.e.1.u,int i64 x.e.1.o,bool x.e.1.has,slice x.e.2.1 x.e.1.v.length x.e.2.2,slice x.lA x.l.length x.lc,slice x.rA x.ns.length x.rc,int i64 x.each,int i64 x.keep,int i64 b] 53)):=zbl;have p:=zhd (Blk.new w 53 #[int i64 a,int i64 x.kind,int i64 x.fr,int i64 x.dst,int i64 x.ep,int i64 x.op,int i64 x.n,bool x.flag,.string ⟨x.e.1.k.toArray⟩,int i64 x.e.1.s,int i64 x.e.1.u,int i64 x.e.1.o,bool x.e.1.has,slice x.e.2.1 x.e.1.v.length x.e.2.2,slice x.lA x.l.length x.lc,slice x.rA x.ns.length x.rc,int i64 x.each,int i64 x.keep,int i64 b]);have r:=zhd c;have I:(a==1)=false:=by simpa using i
 have G:(a==2)=false:=by simpa using z
 have E:(a==3)=false:=by simpa using t
 have k0:=p.out.cell 0;have A:=p.out.cell 18;have d:=zhd (zlX F g q S ps b j _ (h.below c));have D:=zhd h;clear c h i z t j;go_enter Tryz.func12,Tryz.ntmps12
 go_wp2_with fail
 refine d.out.mono ?_;rintro e w1 ⟨rfl,m⟩;have B:Hid (zgb F g ⟨S,ps,[],2⟩ q w (.returned (.tuple #[pointer (some ⟨g,0,none⟩),slice none 0 0,int i64 2])) w1):=zhd (by
  have y:=r.out.trans (m.mono r.out.size);exact⟨g,F,q,[],none,0,rfl,rfl,zfQ _ _ _,fun k C=>Or.inl C,Nat.le_succ _,D.out.below y,Touch.ofBelow y⟩)
 clear m d k0 A;go_wp2;go_ret3
 exact B.out
theorem zkK(F:Nat->Prop)(g q:Nat)(S:St8)(ps:zcS)(x:MV)(a b:Int)(y:a≠1)(r:a≠2)(C:a≠3)(z:0<=b)(w:World)(h:SvAt w F g S ps q) :
 Calls Tryz.prog 12 #[pointer (some ⟨g,0,none⟩),.agg #[int i64 a,int i64 x.kind,int i64 x.fr,int i64 x.dst,int i64 x.ep,int i64 x.op,int i64 x.n,bool x.flag,.string ⟨x.e.1.k.toArray⟩,int i64 x.e.1.s,int i64 x.e.1.u,int i64 x.e.1.o,bool x.e.1.has,slice x.e.2.1 x.e.1.v.length x.e.2.2,slice x.lA x.l.length x.lc,slice x.rA x.ns.length x.rc,int i64 x.each,int i64 x.keep,int i64 b]] w (zgb F g ⟨zaL S b.toNat,[],[],0⟩ q w):=by
 have j:Below w.heap.size w (w.alloc (.cells #[int i64 a,int i64 x.kind,int i64 x.fr,int i64 x.dst,int i64 x.ep,int i64 x.op,int i64 x.n,bool x.flag,.string ⟨x.e.1.k.toArray⟩,int i64 x.e.1.s,int i64 x.e.1.u,int i64 x.e.1.o,bool x.e.1.has,slice x.e.2.1 x.e.1.v.length x.e.2.2,slice x.lA x.l.length x.lc,slice x.rA x.ns.length x.rc,int i64 x.each,int i64 x.keep,int i64 b] 53)):=zbl;have B:=zhd (Blk.new w 53 #[int i64 a,int i64 x.kind,int i64 x.fr,int i64 x.dst,int i64 x.ep,int i64 x.op,int i64 x.n,bool x.flag,.string ⟨x.e.1.k.toArray⟩,int i64 x.e.1.s,int i64 x.e.1.u,int i64 x.e.1.o,bool x.e.1.has,slice x.e.2.1 x.e.1.v.length x.e.2.2,slice x.lA x.l.length x.lc,slice x.rA x.ns.length x.rc,int i64 x.each,int i64 x.keep,int i64 b]);have i:=zhd j;have M:(a==1)=false:=by simpa using y
 have K:(a==2)=false:=by simpa using r
 have L:(a==3)=false:=by simpa using C
 have k0:=B.out.cell 0;have E:=B.out.cell 18;have c:=zlW F g q b.toNat S ps _ (h.below j);rw [Int.toNat_of_nonneg z] at c;obtain⟨m,d⟩:∃ m,zaL S b.toNat=m:=⟨_,rfl⟩;rw [d] at c;rw [d];have t:=zhd c;clear j h y r C z c d;go_enter Tryz.func12,Tryz.ntmps12
 go_wp2_with fail
 refine t.out.mono ?_;rintro e w1 ⟨g1,F1,rfl,p,D,A⟩;have G:Hid (zgb F g ⟨m,[],[],0⟩ q w (.returned (.tuple #[pointer (some ⟨g1,0,none⟩),slice none 0 0,int i64 0])) w1):=zhd (by
  have J:=i.out.trans (A.mono i.out.size);exact⟨g1,F1,q,[],none,0,rfl,rfl,zfQ _ _ _,fun k I=>Or.inr (Nat.le_trans i.out.size (p k I)),Nat.le_succ _,D,Touch.ofBelow J⟩)
 simp only;clear p D A t k0 E;go_wp2;go_ret3
 exact G.out
theorem zoB(F:Nat->Prop)(g q:Nat)(S:St8)(ps:zcS)(r:O14)(hq:q<=4611686018427387904)(k:S.acks.length<=700000000000)(o:ps.length<=700000000000)(s:zrI S)(w:World)(ht:KT w)(h:SvAt w F g S ps q)(p:MsgM w r.m)(l:zaK F w r.m.e.2.1 (r.m.e.1.v.map zaa)) :
 Calls Tryz.prog 12 #[pointer (some ⟨g,0,none⟩),.agg ⟨oC r⟩] w (zgb F g (opS S ps r.kind (mP r.m) r.kept) q w):=by
 obtain⟨b,x,a⟩:=r;unfold opS;by_cases c:b=1
 ·subst c;rw [if_pos rfl];exact zoz F g q S ps x a (by omega) o w ht h p l
 rw [if_neg c];by_cases i:b=2
 ·subst i;rw [if_pos rfl];exact zmj F g q S ps x a hq k s w h
 rw [if_neg i];by_cases d:b=3
 ·subst d;rw [if_pos rfl];exact zmk F g q S ps x a w h
 rw [if_neg d];by_cases j:a<0
 ·rw [if_pos j];exact zoA F g q S ps x b a c i d j w h
 ·rw [if_neg j];exact zkK F g q S ps x b a c i d (by omega) w h
end
section
open Go.RowKit Mem Be Word Frm Go.Maps Rg
structure Sv1 (w0 w:World) (F:Nat->Prop) (g:Nat) (S:St8) (ps:zcS) (q:Nat):Prop where
 new:∀ k,F k->w0.heap.size<=k
 at_:SvAt w F g S ps q
 bel:Below w0.heap.size w0 w
section
variable {w0 w w1 : World} {F F' G : Nat → Prop} {g g' q q' : Nat} {S S' : St8} {ps ps' : zcS}
theorem Sv1.below(h:Sv1 w0 w F g S ps q)(hb:Below w.heap.size w w1):Sv1 w0 w1 F g S ps q:=⟨h.new,h.at_.below hb,h.bel.trans (hb.mono h.bel.size)⟩
theorem Sv1.to(h:Sv1 w0 w F g S ps q)(hf:∀ k,F' k->F k\/w.heap.size<=k)(hl:SvAt w1 F' g' S' ps' q')(ht:Touch F w w1):Sv1 w0 w1 F' g' S' ps' q':=
 ⟨fun k hk=>(by
  rcases hf k hk with h1|h1
  ·exact h.new k h1
  ·exact Nat.le_trans h.bel.size h1),hl,h.bel.trans (ht.below h.bel.size h.new)⟩
theorem Sv1.touch(h:Sv1 w0 w F g S ps q)(ht:Touch G w w1)(hd:∀ k,F k->¬ G k)(hG:∀ k,G k->w0.heap.size<=k):Sv1 w0 w1 F g S ps q:=⟨h.new,h.at_.touch ht hd,h.bel.trans (ht.below h.bel.size hG)⟩
theorem Sv1.lt(h:Sv1 w0 w F g S ps q):g<w.heap.size:=by
 obtain⟨K,FS,hs⟩:=h.at_.stAt;exact zc1 hs
theorem SvAt.ok(h:SvAt w F g S ps q):Ok8 S:=by
 obtain⟨K,FS,hs⟩:=h.stAt;exact hs.ok
theorem SvAt.short(h:SvAt w F g S ps q):zca S.rs:=by
 obtain⟨K,FS,hs⟩:=h.stAt;obtain⟨h0,FL,FS,lm,fm,TL,TF,A,c,h1,h2,hfl,h⟩:=hs;exact h.lg.short
end
def zoD(k:List UInt8):MV:=⟨7,9,1,0,4,0,false,(⟨k,0,0,0,false,[]⟩,none,0),none,[],0,none,[],0,0,0⟩
theorem zwy(k:List UInt8)(b:k.length<=maxLen)(w:World):MsgM w (zoD k):=⟨⟨Row.nil _ _ _,by show(0:Nat)<=_;omega,b,by show(0:Nat)<=_;omega⟩,⟨Row.nil _ _ _,by intro x a;cases a⟩,by show(0:Nat)<=_;omega,Row.nil _ _ _,by show(0:Nat)<=_;omega⟩
theorem ztu(k:List UInt8)(g:0<k.length)(d:k.length<=250):zbr (mP (zoD k))=0:=by
 have c:okE (⟨k,0,0,0,false,[]⟩:EntP):=by
  unfold okE;show zav k.length 0 0 0 0 false=0
  rw [zbt ⟨g,d,by omega,Or.inr rfl,by simp⟩];rfl
 have a:rE (mP (zoD k))=true:=decide_eq_true c;have b:okM (mP (zoD k))=true:=by
  unfold okM;rw [show zcI (zh5 (mP (zoD k)).kind) (rE (mP (zoD k))) (bE (mP (zoD k)))=true from a];rfl
 unfold zbr;rw [if_pos b]
theorem ztX(k:List UInt8)(w:World) :
 Calls Tryz.prog 21 #[.string ⟨k.toArray⟩] w fun e w'=>e=.returned (.agg #[int i64 7,int i64 9,int i64 1,int i64 0,int i64 4,int i64 0,bool false,.string ⟨k.toArray⟩,int i64 0,int i64 0,int i64 0,bool false,slice none 0 0,slice none 0 0,slice none 0 0,int i64 0,int i64 0])/\Below w.heap.size w w':=by
 have b:Hid (Below w.heap.size w (w.alloc (.cells #[int i64 7,int i64 9,int i64 1,int i64 0,int i64 4,int i64 0,bool false,.string ⟨k.toArray⟩,int i64 0,int i64 0,int i64 0,bool false,slice none 0 0,slice none 0 0,slice none 0 0,int i64 0,int i64 0] 51))):=zhd (zbl);have a:Hid (Blk (w.alloc (.cells #[int i64 7,int i64 9,int i64 1,int i64 0,int i64 4,int i64 0,bool false,.string ⟨k.toArray⟩,int i64 0,int i64 0,int i64 0,bool false,slice none 0 0,slice none 0 0,slice none 0 0,int i64 0,int i64 0] 51)) w.heap.size 51 #[int i64 7,int i64 9,int i64 1,int i64 0,int i64 4,int i64 0,bool false,.string ⟨k.toArray⟩,int i64 0,int i64 0,int i64 0,bool false,slice none 0 0,slice none 0 0,slice none 0 0,int i64 0,int i64 0]):=zhd (Blk.new w _ _);go_enter Tryz.func21,Tryz.ntmps21
 go_wp2;exact bodyPost_ret (v:=.agg #[int i64 7,int i64 9,int i64 1,int i64 0,int i64 4,int i64 0,bool false,.string ⟨k.toArray⟩,int i64 0,int i64 0,int i64 0,bool false,slice none 0 0,slice none 0 0,slice none 0 0,int i64 0,int i64 0]) (results_cell_row (p:=2) (ty:=51) Tryz.results21 _ _ w.heap.size 51 #[int i64 7,int i64 9,int i64 1,int i64 0,int i64 4,int i64 0,bool false,.string ⟨k.toArray⟩,int i64 0,int i64 0,int i64 0,bool false,slice none 0 0,slice none 0 0,slice none 0 0,int i64 0,int i64 0] (0,0) _ rfl a.out Tryz.underlying51 rfl (by kernel_rfl)) rfl ⟨rfl,b.out⟩
theorem zoE(F:Nat->Prop)(g q:Nat)(S:St8)(ps:zcS)(k:List UInt8)(b:0<k.length)(a:k.length<=250)(w:World)(ht:KT w)(h:SvAt w F g S ps q) :
 Calls Tryz.prog 20 #[pointer (some ⟨g,0,none⟩),.agg #[int i64 7,int i64 9,int i64 1,int i64 0,int i64 4,int i64 0,bool false,.string ⟨k.toArray⟩,int i64 0,int i64 0,int i64 0,bool false,slice none 0 0,slice none 0 0,slice none 0 0,int i64 0,int i64 0]] w (zhx F g S ps q [zdd S (mP (zoD k))] S ps w):=
 zg9 F g q S ps (zoD k) rfl (ztu k b a) rfl w ht h (zwy k (by unfold maxLen;omega) w)
def ztv:MV:=⟨10,7,1,0,0,0,false,(⟨[107],2,0,0,false,[]⟩,none,0),none,[],0,none,[],0,0,0⟩
theorem zwz(w:World):MsgM w ztv:=⟨⟨Row.nil _ _ _,by decide,by decide,by decide⟩,⟨Row.nil _ _ _,by intro x a;cases a⟩,by decide,Row.nil _ _ _,by decide⟩
def zoF:St8:=⟨[(1,zbe e2)],0,[],[e2],[⟨7,[107],2,0,0⟩]⟩
theorem zhh:zce st0 e2 7=(zoF,0):=by
 have c:zhr e2 7:=⟨zxb,by decide,by decide,by decide⟩;have b:0<zeu e2 (ofT st0.N e2.k):=by decide
 have d:(zac (st0.rs++[(1,zbe e2)])).length<=4194304:=by
  have:=zcN zxb;show(zac [(1,zbe e2)]).length<=_
  rw [zlB,zcJ];simp only;omega
 have a:zbq st0 e2=(⟨st0.rs++[(1,zbe e2)],st0.m,st0.L,zbZ kE st0.N e2,st0.acks⟩,0):=if_pos d;unfold zce;rw [if_pos c,if_pos b,a,if_pos rfl];rfl
theorem zvj(F:Nat->Prop)(g q:Nat)(w:World)(ht:KT w)(h:SvAt w F g st0 [] q) :
 Calls Tryz.prog 20 #[pointer (some ⟨g,0,none⟩),.agg #[int i64 10,int i64 7,int i64 1,int i64 0,int i64 0,int i64 0,bool false,.string ⟨#[107]⟩,int i64 2,int i64 0,int i64 0,bool false,slice none 0 0,slice none 0 0,slice none 0 0,int i64 0,int i64 0]] w (zhx F g st0 [] q [] zoF [(e2,7)] w):=by
 have hc:zbr (mP ztv)=0:=by decide+kernel
 have:=zf4 F g q st0 [] ztv rfl hc rfl (by simp [st0]) (by simp) w ht h (zwz w) (Or.inl rfl);have a:(zce st0 ztv.e.1 ztv.fr).1=zoF:=by show(zce st0 e2 7).1=_;rw [zhh]
 have e3:zi5 st0 [] ztv.e.1 ztv.fr=[(e2,7)]:=by show zi5 st0 [] e2 7=_;unfold zi5;rw [zhh];rfl
 rw [a,e3] at this;have b:ztv.e.1.k=[107]:=rfl;unfold ztv at this;simp only [List.length_nil] at this;exact this
theorem zns(F:Nat->Prop)(g q:Nat)(S:St8)(ps:zcS)(w:World)(ht:KT w)(h:SvAt w F g S ps q) :
 Calls Tryz.prog 20 #[pointer (some ⟨g,0,none⟩),.agg #[int i64 7,int i64 9,int i64 1,int i64 0,int i64 4,int i64 0,bool false,.string ⟨#[107]⟩,int i64 0,int i64 0,int i64 0,bool false,slice none 0 0,slice none 0 0,slice none 0 0,int i64 0,int i64 0]] w (zhx F g S ps q [zdd S (mP (zoD [107]))] S ps w):=zoE F g q S ps [107] (by decide) (by decide) w ht h
theorem zjm{F:Nat->Prop}{w:World}{A:Option Addr}{c:List MV}{m:MsgP}(h:MsN F w A c)(d:c.map mP=[m]) :
 c.length=1/\∃ b o,A=some ⟨b,o,none⟩/\w.cell? ⟨b,o,none⟩=some (int i64 m.kind)/\w.cell? ⟨b,o+1,none⟩=some (int i64 m.fr)/\w.cell? ⟨b,o+2,none⟩=some (int i64 m.dst)/\w.cell? ⟨b,o+7,none⟩=some (.string ⟨m.e.k.toArray⟩)/\w.cell? ⟨b,o+8,none⟩=some (int i64 m.e.s)/\w.cell? ⟨b,o+9,none⟩=some (int i64 m.e.u)/\w.cell? ⟨b,o+10,none⟩=some (int i64 m.e.o):=by
 have hl:c.length=1:=by simpa using congrArg List.length d
 obtain⟨u,rfl⟩:=List.length_eq_one_iff.1 hl;have q:mP u=m:=by simpa using d
 obtain⟨b,o,i,_,hc⟩:=zl6 h.row.row (by simp);have a:=hc 0 (by simp);simp only [Nat.zero_mul,Nat.add_zero,List.getElem_cons_zero] at a;have k0:=a 0 (int i64 u.kind) rfl;rw [Nat.add_zero] at k0;have k1:=a 1 (int i64 u.fr) rfl;have r:=a 2 (int i64 u.dst) rfl;have g:=a 7 (.string ⟨u.e.1.k.toArray⟩) rfl;have j:=a 8 (int i64 u.e.1.s) rfl;have l:=a 9 (int i64 u.e.1.u) rfl;have p:=a 10 (int i64 u.e.1.o) rfl;subst q;exact⟨rfl,b,o,i,k0,k1,r,g,j,l,p⟩
theorem ztw{F:Nat->Prop}{w:World}{A:Option Addr}{b:List MV}(c:b.map mP=[]):b=[]:=by
 cases b with
 | nil=>rfl
 | cons a l=>cases c
def zvk(w:World)(e:Ending)(w':World):Prop:=e=.returned (bool true)/\Below w.heap.size w w'
end
section
open Go.RowKit Mem Be Word Frm Go.Maps Rg
theorem zmp(w:World)(ht:KT w):Calls Tryz.prog 10 #[] w (zvk w):=by
 have q:=zhd ht;clear ht;go_enter Tryz.func10,Tryz.ntmps10
 go_wp2_with fail
 refine(zkv w).mono ?_;rintro e w1 ⟨g,F,rfl,L,x,I⟩;have S:=zhd (show Sv1 w w1 F g st0 [] 0 from⟨L,x,I⟩);simp only [id];clear L x I;have p:=zhd (S.out.below ((Below.refl _ _).alloc (Nat.le_refl _) (.cells #[.string ⟨#[107]⟩,int i64 2,int i64 0,int i64 0,bool false,slice none 0 0] 46)));clear S;go_wp2_with fail
 refine(zvj F g 0 _ (q.out.below p.out.bel) p.out.at_).mono ?_;rintro e D ⟨y,us,A2,c2,rfl,h,i,c,d,b⟩;have O:=zhd (p.out.to c d b);obtain rfl:=ztw (F:=y) (w:=D) (A:=A2) h;clear h i c d b p;go_wp2_with fail
 refine(ztX [107] D).mono ?_;rintro e W ⟨rfl,Q⟩;have j:=zhd (O.out.below Q);clear Q O;go_wp2_with fail
 refine(zns y g 0 zoF _ W (q.out.below j.out.bel) j.out.at_).mono ?_;rintro e w4 ⟨F4,ua,A4,c4,rfl,h,i,c,d,b⟩;have r:=zhd (j.out.to c d b);have E:=zhd h;have G:=zhd (i.mono fun k hk=>Or.inl hk);have hl:=(zjm i h).1;rw [hl];clear h i c d b hl j;go_wp2_with fail
 refine(zh4 F4 g 0 zoF _ (by omega) (by simp [zoF]) w4 r.out.at_).mono ?_;rintro e N ⟨t,A5,c5,q5,rfl,C,U,c,hq,d,b⟩;have M:=zhd (r.out.to c d b);have ab:=zhd hq;have u:=zhd (G.out.to c b);have v:Hid (MsN t N A5 (zoF.acks.map zvf)):=zhd (ztV (znp C U) fun a V=>by
  obtain rfl:a=⟨7,[107],2,0,0⟩:=by simpa [zoF] using V
  decide)
 simp only [zoF,List.length_cons,List.length_nil];clear C U c hq d b r G;go_wp2_with fail
 refine(ztX [107] N).mono ?_;rintro e X ⟨rfl,o⟩;have l:=zhd (M.out.below o);have J:=zhd (u.out.below o);have R:=zhd (v.out.below o);clear o M u v;go_wp2_with fail
 refine(zns t g q5 (zc4 zoF) _ X (q.out.below l.out.bel) l.out.at_).mono ?_;rintro e w7 ⟨F7,uc,A7,c7,rfl,h,i,c,d,b⟩;have aa:=zhd (l.out.to c d b);obtain⟨B,bc,oc,rfl,Y,_,_,_,Z,_,_⟩:=zjm i h;obtain⟨_,ba,oa,rfl,_,_,_,_,y8,_,_⟩:=zjm (J.out.to c b) E.out;obtain⟨_,bb,ob,rfl,z0,_,z2,_,_,_,_⟩:=zjm (R.out.to c b) (m:=zg3 ⟨7,[107],2,0,0⟩) (by rw [zmi];rfl);have K:(zdd (zc4 zoF) (mP (zoD [107]))).kind=8:=rfl;have e2:(zdd (zc4 zoF) (mP (zoD [107]))).e.s=2:=by decide+kernel
 have e3:(zdd zoF (mP (zoD [107]))).e.s=0:=by decide+kernel
 have T:(zg3 ⟨7,[107],2,0,0⟩).kind=11:=rfl;have z:(zg3 ⟨7,[107],2,0,0⟩).dst=7:=rfl;rw [K] at Y;rw [e2] at Z;rw [e3] at y8;rw [T] at z0;rw [z] at z2;rw [B];clear h i c d b l J R K e2 e3 T z B E;go_wp2_with fail
 refine(zi4 w7).mono ?_;rintro e w8 ⟨rfl,rfl⟩;go_wp2;go_ret;exact⟨rfl,aa.out.bel⟩
end
section
open Go.RowKit Mem Be Word Frm Go.Maps
end
section
open Go.RowKit Mem Be Rg
theorem zoG(n c:Nat)(A:Option Addr)(rs:List O14)(y:n=rs.length)(t:n<=maxLen)(w:World)(h:InO w A rs) :
 Calls Tryz.prog 9 #[slice A n c] w (zrv w):=by
 have p:=zhd h;have U:=zhd y;have Z:(n:Int)<=9223372036854775807:=by unfold maxLen at t;omega
 have ae:(0:Int)<=(n:Int):=by omega
 clear h y t;go_enter Tryz.func9,Tryz.ntmps9
 go_wp2;go_loopw [3,4] (fun z i wr=>∃ k:Nat,k<=n/\i=int i64 k/\(∃ q:Int,z=int i64 q)/\Hid (Below w.heap.size w wr)) (fun _ i _=>n - (intOf i).toNat)
 case atStart=>exact⟨0,by omega,rfl,⟨0,rfl⟩,zhd (Below.refl _ _)⟩
 case round=>
  obtain⟨k,hk,rfl,⟨q,rfl⟩,a⟩:=hrel;by_cases L:k<n
  ·have g:k<rs.length:=by rw [<-U.out];exact L
   obtain⟨b,o,rfl,hb,j⟩:=zmg (p.out.rowAt a.out) (by omega);have hc:=j k g;have d:=p.out.msg a.out g;obtain⟨⟨Y,x,kp⟩,C⟩:∃ r,rs[k]'g=r:=⟨_,rfl⟩;rw [C] at hc d;simp only at d;have B:=zhd (zrw x wr d);have d1:=hc 1 (int i64 x.kind) rfl;have d2:=hc 2 (int i64 x.fr) rfl;have X:=hc 3 (int i64 x.dst) rfl;have N:=hc 4 (int i64 x.ep) rfl;have T:=hc 5 (int i64 x.op) rfl;have S:=hc 6 (int i64 x.n) rfl;have V:=hc 7 (bool x.flag) rfl;have Q:=hc 8 (.string ⟨x.e.1.k.toArray⟩) rfl;have M:=hc 9 (int i64 x.e.1.s) rfl;have W:=hc 10 (int i64 x.e.1.u) rfl;have O:=hc 11 (int i64 x.e.1.o) rfl;have R:=hc 12 (bool x.e.1.has) rfl;have E:=hc 13 (slice x.e.2.1 x.e.1.v.length x.e.2.2) rfl;have I:=hc 14 (slice x.lA x.l.length x.lc) rfl;have F:=hc 15 (slice x.rA x.ns.length x.rc) rfl;have K:=hc 16 (int i64 x.each) rfl;have J:=hc 17 (int i64 x.keep) rfl;have aa:(0:Int)<=(k:Int):=by omega
   have ab:(k:Int)<(n:Int):=by omega
   clear hc j C d;go_wp2_with fail
   refine B.out.mono ?_;rintro e w2 ⟨m,rfl,D⟩;have G:=zhd (a.out.trans (D.mono a.out.size));clear D B d1 d2 X N T S V Q M W O R E I F K J;go_wp2;go_roundw
   case rel=>exact⟨k+1,by omega,by go_num,⟨_,rfl⟩,G⟩
   case measure=>simp [intOf];omega
  ·obtain rfl:k=n:=by omega
   go_wp2;go_ret;exact⟨_,rfl,a.out⟩
end
section
open Go.RowKit Go.ChangeShapes Mem Be Word Frm Go.Maps Rg
theorem InO.move{w w1:World}{A:Option Addr}{rs:List O14}(h:InO w A rs)(hb:Below w.heap.size w w1):InO w1 A rs:=
 ⟨(h.row.below hb).more hb.size,fun r hr=>⟨(h.ok r hr).m.below hb,(h.ok r hr).k0,(h.ok r hr).k1,(h.ok r hr).p0,(h.ok r hr).p1⟩⟩
structure RunI (S:St8) (ps:zcS) (k:Nat):Prop where
 acks:S.acks.length<=k
 put:ps.length<=k
 keys:zrI S
 cp:CpI S ps
theorem ztx:RunI st0 [] 0:=⟨by decide,by decide,zts,zwg⟩
theorem zrB{w w1:World}{F F1:Nat->Prop}{g g1 q q1 k:Nat}{S:St8}{ps:zcS}(h:RunI S ps k)(kind:Int)(m:MsgP)(kept:Int)(a:SvAt w F g S ps q)(b:SvAt w1 F1 g1 (opS S ps kind m kept).S (opS S ps kind m kept).ps q1):RunI (opS S ps kind m kept).S (opS S ps kind m kept).ps (k+1):=by
 have c:=zwh S ps kind m kept;exact⟨by have:=h.acks;omega,by have:=h.put;omega,zvg h.keys kind m kept,zwi h.cp a.ok a.short b.ok b.short⟩
theorem zkM{a w:World}{A:Option Addr}{rs:List O14}(d:InO a A rs)(ht:KT a){F:Nat->Prop}{g q k j:Nat}{S:St8}{ps:zcS}(h:Sv1 a w F g S ps q)(c:k<rs.length)(hq:q<=4611686018427387904)(b:RunI S ps j)(i:j<=700000000000) :
 Calls Tryz.prog 12 #[pointer (some ⟨g,0,none⟩),.agg ⟨oC rs[k]⟩] w (zgb F g (opS S ps rs[k].kind (mP rs[k].m) rs[k].kept) q w):=
 zoB F g q S ps rs[k] hq (by have:=b.acks;omega) (by have:=b.put;omega) b.keys w (ht.below h.bel) h.at_ (d.msg h.bel c) (d.apart h.bel c h.new)
theorem znt{w:World}{F:Nat->Prop}{g q:Nat}{S:St8}{ps:zcS}(h:SvAt w F g S ps q):S.L.length<=8388608:=by
 obtain⟨K,FS,a⟩:=h.stAt;exact(zfl a).1
theorem zrC{w w1:World}{F:Nat->Prop}{g q:Nat}{S:St8}{ps:zcS}{e:Ending}(h:SvAt w F g S ps q)(k:zpy S.L w e w1) :
 ∃ a A n c,e=.returned (slice A n c)/\n=a.length/\a.map Prod.fst=S.L/\n<=1073741824/\EnV w1 A a/\Below w.heap.size w w1:=by
 obtain⟨a,A,c,b,m,i,d,l⟩:=k;refine⟨a,A,a.length,c,m,rfl,b,?_,zvI i d (zs0 h.ok.lOk b),l⟩;have j:=congrArg List.length b;rw [List.length_map] at j;have:=znt h;omega
end
end Go.Proofs.YtahnjkkgojfdmaaGreatDoor
