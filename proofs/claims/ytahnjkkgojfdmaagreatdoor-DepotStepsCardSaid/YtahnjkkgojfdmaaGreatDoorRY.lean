import Derived.Test.YtahnjkkgojfdmaaGreatDoorRZc
import Derived.Laws.Rows
set_option maxRecDepth 100000
set_option maxHeartbeats 2000000
set_option linter.unusedVariables false
set_option linter.unusedSimpArgs false
namespace Go.Proofs.YtahnjkkgojfdmaaGreatDoor
open Go.IntKind(i64)
open Go.Value(int slice bool pointer)
section
open Go.RowKit Go.ChangeShapes Mem Be Word Frm Go.Maps Rg
theorem zed{F:Nat->Prop}{w w':World}{A:Option Addr}{a:List MV}(h:MsN F w A a)(ht:Touch F w w'):MsN F w' A a:=⟨h.row.touch ht,fun x b=>⟨(h.val x b).1.touch ht,(h.val x b).2⟩⟩
theorem zdS{F G:Nat->Prop}{w:World}{A:Option Addr}{a:List MV}(h:MsN F w A a)(c:∀ k,G k->F k):MsN G w A a:=⟨zhe h.row c,fun x b=>⟨zhe (h.val x b).1 c,(h.val x b).2⟩⟩
theorem znr{w c i w8 o:World}{A:Option Addr}{g:List MV}{b:Nat}{t:TypeId}{d:Array Value}(h:zwx c i A g)(x:Below w.heap.size w c)(p:Blk c b t d)(r:d.toList.all zrz=true)(ht:Touch (zam (fun _=>False) b) i w8)(l:Below w8.heap.size w8 o):zwx w o A g:=by
 have j:MsN (zam (fun _=>False) b) i A g:=zdS (h.2 b t d p r) fun k a=>a.elim (fun h=>h.elim) fun h=>h;refine⟨((zed j ht).below l).msR,fun q u s m v=>?_⟩;have y:=ztW (h.2 q u s (m.below x m.lt) v) j;exact zdS ((zed y (ht.mono fun k a=>Or.inr a)).below l) fun k a=>Or.inl a
def zjh(F:Nat->Prop)(S:St8)(out:List MsgP)(er:Int)(q:Nat)(w:World)(e:Ending)(w':World):Prop:=
 ∃ v us A c q',e=.returned (.tuple #[v,slice A us.length c,int i64 er])/\q'<=q+1/\us.map mP=out/\zwx w w' A us/\zbD F S q' w' v/\Below w.heap.size w w'
theorem zji(F:Nat->Prop)(S:St8)(q:Nat)(x:MV)(m:q<=4611686018427387904/\Ok8 S/\(zac S.rs).length<=4194304/\OkT S.N/\S.N.length<=8388608/\S.acks.length<=1466015503701)(r:S.L.length<=8388608)(w:World)(d:∀ k,F k->k<w.heap.size)(g:MsgM w x)(p:zaK F w x.e.2.1 (x.e.1.v.map zaa))(v:Value)(h:zbD F S q w v) :
 Calls Tryz.prog 36 #[v,.agg #[int i64 x.kind,int i64 x.fr,int i64 x.dst,int i64 x.ep,int i64 x.op,int i64 x.n,bool x.flag,.string ⟨x.e.1.k.toArray⟩,int i64 x.e.1.s,int i64 x.e.1.u,int i64 x.e.1.o,bool x.e.1.has,slice x.e.2.1 x.e.1.v.length x.e.2.2,slice x.lA x.l.length x.lc,slice x.rA x.ns.length x.rc,int i64 x.each,int i64 x.keep]] w (zmo F (zbI S [] (mP x)).1 (zea S (mP x)) q w):=by
 by_cases b:x.dst=1
 ·rcases zha (mP x) with hc|hc
  ·by_cases j:x.kind=7
   ·have c:zea S (mP x)=[zdd S (mP x)]:=if_pos ⟨hc,b,j⟩;have e2:(zbI S [] (mP x)).1=S:=by rw [show zbI S [] (mP x)=(S,[]) from if_neg (fun a=>by have t:x.kind=10:=a.2.2;omega)]
    rw [c,e2];exact zhA F S q x hc b j r m.2.1.lOk w d g v h
   ·have c:zea S (mP x)=[]:=if_neg (fun a=>j a.2.2);by_cases i:x.kind=10
    ·have e2:(zbI S [] (mP x)).1=(zce S x.e.1 x.fr).1:=by rw [show zbI S [] (mP x)=((zce S x.e.1 x.fr).1,zi5 S [] x.e.1 x.fr) from if_pos ⟨hc,b,i⟩]
     rw [c,e2];exact zhf F S q x hc b i m w d g p v h
    ·have e2:(zbI S [] (mP x)).1=S:=by rw [show zbI S [] (mP x)=(S,[]) from if_neg (fun a=>i a.2.2)]
     rw [c,e2];exact zhz F S q x hc b j i w d g v h
  ·have c:zea S (mP x)=[]:=if_neg (fun a=>by have:=a.1;omega);have e2:(zbI S [] (mP x)).1=S:=by rw [show zbI S [] (mP x)=(S,[]) from if_neg (fun a=>by have:=a.1;omega)]
   rw [c,e2];exact zfs F S q x hc w d g v h
 ·have c:zea S (mP x)=[]:=if_neg (fun a=>b a.2.1);have e2:(zbI S [] (mP x)).1=S:=by rw [show zbI S [] (mP x)=(S,[]) from if_neg (fun a=>b a.2.1)]
  rw [c,e2];rcases zha (mP x) with hc|hc
  ·exact zjd F S q x hc b w d g v h
  ·exact zfs F S q x hc w d g v h
theorem zjj(F:Nat->Prop)(S:St8)(q:Nat)(U kp:Int)(x:MV)(g:U=1)(ax:S.L.length<=8388608)(t:q<=4611686018427387904/\Ok8 S/\(zac S.rs).length<=4194304/\OkT S.N/\S.N.length<=8388608/\S.acks.length<=700000000000)(w:World)(hF:∀ k,F k->k<w.heap.size)(hm:MsgM w x)(hN:zaK F w x.e.2.1 (x.e.1.v.map zaa))(v:Value)(h:zbD F S q w v) :
 Calls Tryz.prog 13 #[v,.agg ⟨oC ⟨U,x,kp⟩⟩] w (zjh F (zbI S [] (mP x)).1 (zea S (mP x)) 0 q w):=by
 obtain⟨V,X,AT,cT,R,c,vs,AU,cU,us,AV,cV,ls,AC,cC,rfl,h⟩:=h;obtain⟨K,aB,O,ak,af,Z⟩:=zbM w 36 53 36 #[slice V (zac (S.rs.take S.m)).length X,slice AT (zac (S.rs.drop S.m)).length cT,int i64 (q:Int),slice R vs.length c,int i64 (S.m:Int),slice AU us.length cU,slice AV ls.length cV,slice AC S.acks.length cC] ⟨oC ⟨U,x,kp⟩⟩ #[slice none 0 0,slice none 0 0,int i64 0,slice none 0 0,int i64 0,slice none 0 0,slice none 0 0,slice none 0 0];have h0:=h.wide O (b:=w.heap.size+1+1) (by omega);have ai:∀ k,zam F (w.heap.size+1+1) k->k<K.heap.size:=fun k g=>by
  have h1:=Z.lt;rcases g with g|g
  ·have:=hF k g;omega
  ·omega
 have ao:zaK (zam F (w.heap.size+1+1)) K x.e.2.1 (x.e.1.v.map zaa):=hN.grow (fun k g=>by
  rcases g with g|g
  ·exact Or.inl g
  ·exact Or.inr (by omega)) (Touch.ofBelow O)
 have aE:zbD (zam F (w.heap.size+1+1)) S q K (.agg #[slice V (zac (S.rs.take S.m)).length X,slice AT (zac (S.rs.drop S.m)).length cT,int i64 (q:Int),slice R vs.length c,int i64 (S.m:Int),slice AU us.length cU,slice AV ls.length cV,slice AC S.acks.length cC]):=⟨V,X,AT,cT,R,c,vs,AU,cU,us,AV,cV,ls,AC,cC,rfl,h0⟩;have ab:=zji (zam F (w.heap.size+1+1)) S q x ⟨t.1,t.2.1,t.2.2.1,t.2.2.2.1,t.2.2.2.2.1,by have:=t.2.2.2.2.2;omega⟩ ax K ai (hm.below O) ao _ aE;obtain⟨a,az⟩:∃ a,(zbI S [] (mP x)).1=a:=⟨_,rfl⟩;obtain⟨aP,an⟩:∃ o,zea S (mP x)=o:=⟨_,rfl⟩;rw [az,an] at ab ⊢;have aJ:=zhd g;have aG:=zhd (ab);have Y:=zhd O;have j:=zhd ak;have au:=zhd af;have ae:=zhd Z;have aI:=zhd aB;have al:Hid (K.rangeAt (w.heap.size+1) 1 (mL x)):=zhd fun i v hv=>by
  rw [show 1+i=i+1 from Nat.add_comm 1 i];rw [af.cell (i+1)];have hi:i<17:=(List.getElem?_eq_some_iff.1 hv).1;rw [List.getElem?_toArray];show(mL x++[int i64 kp])[i]?=some v
  rw [List.getElem?_append_left (by exact hi)];exact hv
 have k0:K.cell? ⟨w.heap.size+1,0,none⟩=some (int i64 1):=(au.out.cell 0).trans (by rw [aJ.out];rfl);have aL:=au.out.cell 18;have f0:=j.out.cell 0;have f1:=j.out.cell 1;have f2:=j.out.cell 2;have f3:=j.out.cell 3;have f4:=j.out.cell 4;have f5:=j.out.cell 5;have f6:=j.out.cell 6;have f7:=j.out.cell 7;clear az an ab hF h hm hN O ak af Z h0 aB aE ai ao t g ax;go_enter Tryz.func13,Tryz.ntmps13
 go_upto_region 1 with fail
 rw [aI.out];go_wp2_with (refine wpList_load_mid rfl 51 _ rfl (w.heap.size+1) 1 rfl (mL x) _ (show _ from al.out) Tryz.underlying51 rfl (by kernel_rfl) ?_)
 refine aG.out.mono ?_;rintro e M ⟨v2,aj,A3,c3,rfl,aD,aA,⟨z,u,r,J,p,c2,y,E,G,I,C,A,s,B,D,rfl,h6⟩,ag⟩;obtain⟨n3,aa⟩:∃ n3,aj.length=n3:=⟨_,rfl⟩;have aK:=zhd aa;have aN:=zhd aD;have aO:=zhd aA;rw [aa];clear aa aD aA;have d:=zhd (ae.out.below ag ae.out.lt);have aQ:w.heap.size+1+1<M.heap.size:=d.out.lt;have aH:=zhd h6;have r0:=d.out.cell 0;have z0:=d.out.frozen 0;have r1:=d.out.cell 1;have z1:=d.out.frozen 1;have r2:=d.out.cell 2;have z2:=d.out.frozen 2;have r3:=d.out.cell 3;have z3:=d.out.frozen 3;have r4:=d.out.cell 4;have z4:=d.out.frozen 4;have r5:=d.out.cell 5;have z5:=d.out.frozen 5;have r6:=d.out.cell 6;have z6:=d.out.frozen 6;have r7:=d.out.cell 7;have z7:=d.out.frozen 7;have Q:=zhd (zay d.out (slice z (zac (a.rs.take a.m)).length u) (slice r (zac (a.rs.drop a.m)).length J) (int i64 (q:Int)) (slice p y.length c2) (int i64 (a.m:Int)) (slice E I.length G) (slice C s.length A) (slice B a.acks.length D));have aw:Hid (Touch (zam F (w.heap.size+1+1)) M (zaQ M (w.heap.size+1+1) (slice z (zac (a.rs.take a.m)).length u) (slice r (zac (a.rs.drop a.m)).length J) (int i64 (q:Int)) (slice p y.length c2) (int i64 (a.m:Int)) (slice E I.length G) (slice C s.length A) (slice B a.acks.length D))):=zhd (zai _ _ _ _ _ _ _ _);have ay:Hid (Touch (zam (fun _=>False) (w.heap.size+1+1)) M (zaQ M (w.heap.size+1+1) (slice z (zac (a.rs.take a.m)).length u) (slice r (zac (a.rs.drop a.m)).length J) (int i64 (q:Int)) (slice p y.length c2) (int i64 (a.m:Int)) (slice E I.length G) (slice C s.length A) (slice B a.acks.length D))):=zhd (zai _ _ _ _ _ _ _ _);have aq:=zhd (Y.out.trans (ag.mono Y.out.size));clear ag h6 k0 aL aG al f0 f1 f2 f3 f4 f5 f6 f7;go_wp2;obtain⟨W8,ah⟩:∃ W,zaQ M (w.heap.size+1+1) (slice z (zac (a.rs.take a.m)).length u) (slice r (zac (a.rs.drop a.m)).length J) (int i64 (q:Int)) (slice p y.length c2) (int i64 (a.m:Int)) (slice E I.length G) (slice C s.length A) (slice B a.acks.length D)=W:=⟨_,rfl⟩;rw [ah] at Q aw ay;unfold zaQ at ah;rw [ah];obtain⟨W9,am⟩:∃ W,W8.alloc (.cells #[slice z (zac (a.rs.take a.m)).length u,slice r (zac (a.rs.drop a.m)).length J,int i64 (q:Int),slice p y.length c2,int i64 (a.m:Int),slice E I.length G,slice C s.length A,slice B a.acks.length D] 36)=W:=⟨_,rfl⟩;have T:Below W8.heap.size W8 W9:=by rw [<-am];exact zbl
 have l:=zhd (Q.out.1.below T Q.out.1.lt);have aM:Below w.heap.size w W9:=(Q.out.2.2.1 _ aq.out (by omega)).trans (T.mono (Q.out.2.2.1 _ aq.out (by omega)).size);rw [am];have g0:=l.out.cell 0;have g1:=l.out.cell 1;have g2:=l.out.cell 2;have g3:=l.out.cell 3;have g4:=l.out.cell 4;have g5:=l.out.cell 5;have g6:=l.out.cell 6;have g7:=l.out.cell 7;refine bodyPost_ret (v:=.tuple #[.agg #[slice z (zac (a.rs.take a.m)).length u,slice r (zac (a.rs.drop a.m)).length J,int i64 (q:Int),slice p y.length c2,int i64 (a.m:Int),slice E I.length G,slice C s.length A,slice B a.acks.length D],slice A3 n3 c3,int i64 0]) (by simp [results,Tryz.results13,go_sem,g0,g1,g2,g3,g4,g5,g6,g7]) rfl ?_;exact⟨_,aj,A3,c3,q,by rw [aK.out],Nat.le_succ q,aN.out,znr aO.out Y.out ae.out rfl ay.out T,⟨z,u,r,J,p,c2,y,E,G,I,C,A,s,B,D,rfl,(aH.out.step aw.out (F':=F) (fun k g=>Or.inl (Or.inl g))).below T⟩,aM⟩
theorem zhB(F:Nat->Prop)(S:St8)(q:Nat)(V kp:Int)(x:MV)(j:V=2)(aA:∀ a∈S.acks,a.k.length<=maxLen)(U:q<=4611686018427387904/\Ok8 S/\(zac S.rs).length<=4194304/\OkT S.N/\S.N.length<=8388608/\S.acks.length<=700000000000)(w:World)(hF:∀ k,F k->k<w.heap.size)(hm:MsgM w x)(hN:zaK F w x.e.2.1 (x.e.1.v.map zaa))(v:Value)(h:zbD F S q w v) :
 Calls Tryz.prog 13 #[v,.agg ⟨oC ⟨V,x,kp⟩⟩] w (zjh F (zc4 S) (S.acks.map zg3) 0 q w):=by
 obtain⟨X,Y,AT,cT,R,c,vs,AU,cU,us,AV,cV,ls,AC,cC,rfl,h⟩:=h;obtain⟨L,aB,Q,al,ag,aa⟩:=zbM w 36 53 36 #[slice X (zac (S.rs.take S.m)).length Y,slice AT (zac (S.rs.drop S.m)).length cT,int i64 (q:Int),slice R vs.length c,int i64 (S.m:Int),slice AU us.length cU,slice AV ls.length cV,slice AC S.acks.length cC] ⟨oC ⟨V,x,kp⟩⟩ #[slice none 0 0,slice none 0 0,int i64 0,slice none 0 0,int i64 0,slice none 0 0,slice none 0 0,slice none 0 0];have h0:=h.wide Q (b:=w.heap.size+1+1) (by omega);have aj:∀ k,zam F (w.heap.size+1+1) k->k<L.heap.size:=fun k j=>by
  have h1:=aa.lt;rcases j with j|j
  ·have:=hF k j;omega
  ·omega
 have aO:zaK (zam F (w.heap.size+1+1)) L x.e.2.1 (x.e.1.v.map zaa):=hN.grow (fun k j=>by
  rcases j with j|j
  ·exact Or.inl j
  ·exact Or.inr (by omega)) (Touch.ofBelow Q)
 have aE:zbD (zam F (w.heap.size+1+1)) S q L (.agg #[slice X (zac (S.rs.take S.m)).length Y,slice AT (zac (S.rs.drop S.m)).length cT,int i64 (q:Int),slice R vs.length c,int i64 (S.m:Int),slice AU us.length cU,slice AV ls.length cV,slice AC S.acks.length cC]):=⟨X,Y,AT,cT,R,c,vs,AU,cU,us,AV,cV,ls,AC,cC,rfl,h0⟩;have ae:=zje (zam F (w.heap.size+1+1)) S q U.1 U.2.2.1 U.2.2.2.2.2 aA L aj _ aE;obtain⟨d,ay⟩:∃ d,zc4 S=d:=⟨_,rfl⟩;obtain⟨aS,an⟩:∃ o,S.acks.map zg3=o:=⟨_,rfl⟩;rw [ay,an] at ae ⊢;have aJ:=zhd j;have aG:=zhd (ae);have Z:=zhd Q;have l:=zhd al;have aq:=zhd ag;have af:=zhd aa;have aI:=zhd aB;have aM:Hid (L.rangeAt (w.heap.size+1) 1 (mL x)):=zhd fun i v hv=>by
  rw [show 1+i=i+1 from Nat.add_comm 1 i];rw [ag.cell (i+1)];have hi:i<17:=(List.getElem?_eq_some_iff.1 hv).1;rw [List.getElem?_toArray];show(mL x++[int i64 kp])[i]?=some v
  rw [List.getElem?_append_left (by exact hi)];exact hv
 have k0:L.cell? ⟨w.heap.size+1,0,none⟩=some (int i64 2):=(aq.out.cell 0).trans (by rw [aJ.out];rfl);have aN:=aq.out.cell 18;have f0:=l.out.cell 0;have f1:=l.out.cell 1;have f2:=l.out.cell 2;have f3:=l.out.cell 3;have f4:=l.out.cell 4;have f5:=l.out.cell 5;have f6:=l.out.cell 6;have f7:=l.out.cell 7;clear ay an ae hF h hm hN Q al ag aa h0 aB aE aj aO U j aA;go_enter Tryz.func13,Tryz.ntmps13
 go_upto_region 1 with fail
 rw [aI.out];go_wp2_with fail
 refine aG.out.mono ?_;rintro e M ⟨C,aw,v2,ak,A3,c3,rfl,aD,az,⟨z,u,s,K,r,c2,y,G,I,J,D,A,t,B,E,rfl,h6⟩,ah⟩;have aL:=zhd aw;clear aw;obtain⟨n3,ab⟩:∃ n3,ak.length=n3:=⟨_,rfl⟩;have aK:=zhd ab;have aQ:=zhd aD;have aR:=zhd az;rw [ab];clear ab aD az;have g:=zhd (af.out.below ah af.out.lt);have aT:w.heap.size+1+1<M.heap.size:=g.out.lt;have aH:=zhd h6;have r0:=g.out.cell 0;have z0:=g.out.frozen 0;have r1:=g.out.cell 1;have z1:=g.out.frozen 1;have r2:=g.out.cell 2;have z2:=g.out.frozen 2;have r3:=g.out.cell 3;have z3:=g.out.frozen 3;have r4:=g.out.cell 4;have z4:=g.out.frozen 4;have r5:=g.out.cell 5;have z5:=g.out.frozen 5;have r6:=g.out.cell 6;have z6:=g.out.frozen 6;have r7:=g.out.cell 7;have z7:=g.out.frozen 7;have O:=zhd (zay g.out (slice z (zac (d.rs.take d.m)).length u) (slice s (zac (d.rs.drop d.m)).length K) (int i64 (C:Int)) (slice r y.length c2) (int i64 (d.m:Int)) (slice G J.length I) (slice D t.length A) (slice B d.acks.length E));have au:Hid (Touch (zam F (w.heap.size+1+1)) M (zaQ M (w.heap.size+1+1) (slice z (zac (d.rs.take d.m)).length u) (slice s (zac (d.rs.drop d.m)).length K) (int i64 (C:Int)) (slice r y.length c2) (int i64 (d.m:Int)) (slice G J.length I) (slice D t.length A) (slice B d.acks.length E))):=zhd (zai _ _ _ _ _ _ _ _);have ax:Hid (Touch (zam (fun _=>False) (w.heap.size+1+1)) M (zaQ M (w.heap.size+1+1) (slice z (zac (d.rs.take d.m)).length u) (slice s (zac (d.rs.drop d.m)).length K) (int i64 (C:Int)) (slice r y.length c2) (int i64 (d.m:Int)) (slice G J.length I) (slice D t.length A) (slice B d.acks.length E))):=zhd (zai _ _ _ _ _ _ _ _);have ao:=zhd (Z.out.trans (ah.mono Z.out.size));clear ah h6 k0 aN aG aM f0 f1 f2 f3 f4 f5 f6 f7;go_wp2;obtain⟨W8,ai⟩:∃ W,zaQ M (w.heap.size+1+1) (slice z (zac (d.rs.take d.m)).length u) (slice s (zac (d.rs.drop d.m)).length K) (int i64 (C:Int)) (slice r y.length c2) (int i64 (d.m:Int)) (slice G J.length I) (slice D t.length A) (slice B d.acks.length E)=W:=⟨_,rfl⟩;rw [ai] at O au ax;unfold zaQ at ai;rw [ai];obtain⟨W9,am⟩:∃ W,W8.alloc (.cells #[slice z (zac (d.rs.take d.m)).length u,slice s (zac (d.rs.drop d.m)).length K,int i64 (C:Int),slice r y.length c2,int i64 (d.m:Int),slice G J.length I,slice D t.length A,slice B d.acks.length E] 36)=W:=⟨_,rfl⟩;have T:Below W8.heap.size W8 W9:=by rw [<-am];exact zbl
 have p:=zhd (O.out.1.below T O.out.1.lt);have aP:Below w.heap.size w W9:=(O.out.2.2.1 _ ao.out (by omega)).trans (T.mono (O.out.2.2.1 _ ao.out (by omega)).size);rw [am];have g0:=p.out.cell 0;have g1:=p.out.cell 1;have g2:=p.out.cell 2;have g3:=p.out.cell 3;have g4:=p.out.cell 4;have g5:=p.out.cell 5;have g6:=p.out.cell 6;have g7:=p.out.cell 7;refine bodyPost_ret (v:=.tuple #[.agg #[slice z (zac (d.rs.take d.m)).length u,slice s (zac (d.rs.drop d.m)).length K,int i64 (C:Int),slice r y.length c2,int i64 (d.m:Int),slice G J.length I,slice D t.length A,slice B d.acks.length E],slice A3 n3 c3,int i64 0]) (by simp [results,Tryz.results13,go_sem,g0,g1,g2,g3,g4,g5,g6,g7]) rfl ?_;exact⟨_,ak,A3,c3,C,by rw [aK.out],aL.out,aQ.out,znr aR.out Z.out af.out rfl ax.out T,⟨z,u,s,K,r,c2,y,G,I,J,D,A,t,B,E,rfl,(aH.out.step au.out (F':=F) (fun k j=>Or.inl (Or.inl j))).below T⟩,aP⟩
theorem zhC(F:Nat->Prop)(S:St8)(q:Nat)(O kp:Int)(x:MV)(g:O=3)(K:q<=4611686018427387904/\Ok8 S/\(zac S.rs).length<=4194304/\OkT S.N/\S.N.length<=8388608/\S.acks.length<=700000000000)(w:World)(hF:∀ k,F k->k<w.heap.size)(hm:MsgM w x)(hN:zaK F w x.e.2.1 (x.e.1.v.map zaa))(v:Value)(h:zbD F S q w v) :
 Calls Tryz.prog 13 #[v,.agg ⟨oC ⟨O,x,kp⟩⟩] w (zjh F (zbV S).1 [] (zbV S).2 q w):=by
 obtain⟨Q,T,AT,V,R,c,vs,AU,X,us,AV,cV,ls,Y,Z,rfl,h⟩:=h;obtain⟨I,aw,M,ai,ab,U⟩:=zbM w 36 53 36 #[slice Q (zac (S.rs.take S.m)).length T,slice AT (zac (S.rs.drop S.m)).length V,int i64 (q:Int),slice R vs.length c,int i64 (S.m:Int),slice AU us.length X,slice AV ls.length cV,slice Y S.acks.length Z] ⟨oC ⟨O,x,kp⟩⟩ #[slice none 0 0,slice none 0 0,int i64 0,slice none 0 0,int i64 0,slice none 0 0,slice none 0 0,slice none 0 0];have h0:=h.wide M (b:=w.heap.size+1+1) (by omega);have ah:∀ k,zam F (w.heap.size+1+1) k->k<I.heap.size:=fun k g=>by
  have h1:=U.lt;rcases g with g|g
  ·have:=hF k g;omega
  ·omega
 have aG:zaK (zam F (w.heap.size+1+1)) I x.e.2.1 (x.e.1.v.map zaa):=hN.grow (fun k g=>by
  rcases g with g|g
  ·exact Or.inl g
  ·exact Or.inr (by omega)) (Touch.ofBelow M)
 have ax:zbD (zam F (w.heap.size+1+1)) S q I (.agg #[slice Q (zac (S.rs.take S.m)).length T,slice AT (zac (S.rs.drop S.m)).length V,int i64 (q:Int),slice R vs.length c,int i64 (S.m:Int),slice AU us.length X,slice AV ls.length cV,slice Y S.acks.length Z]):=⟨Q,T,AT,V,R,c,vs,AU,X,us,AV,cV,ls,Y,Z,rfl,h0⟩;have aa:=zg1 (zam F (w.heap.size+1+1)) S q K.1 K.2.2.1 K.2.2.2.1 K.2.2.2.2.1 I ah _ ax;obtain⟨a,au⟩:∃ a,(zbV S).1=a:=⟨_,rfl⟩;obtain⟨er,al⟩:∃ er:Int,(zbV S).2=er:=⟨_,rfl⟩;rw [au,al] at aa ⊢;have aB:=zhd g;have ay:=zhd (aa);have aj:=zhd M;have j:=zhd ai;have ao:=zhd ab;have an:=zhd U;have aA:=zhd aw;have aD:Hid (I.rangeAt (w.heap.size+1) 1 (mL x)):=zhd fun i v hv=>by
  rw [show 1+i=i+1 from Nat.add_comm 1 i];rw [ab.cell (i+1)];have hi:i<17:=(List.getElem?_eq_some_iff.1 hv).1;rw [List.getElem?_toArray];show(mL x++[int i64 kp])[i]?=some v
  rw [List.getElem?_append_left (by exact hi)];exact hv
 have k0:I.cell? ⟨w.heap.size+1,0,none⟩=some (int i64 3):=(ao.out.cell 0).trans (by rw [aB.out];rfl);have aE:=ao.out.cell 18;have f0:=j.out.cell 0;have f1:=j.out.cell 1;have f2:=j.out.cell 2;have f3:=j.out.cell 3;have f4:=j.out.cell 4;have f5:=j.out.cell 5;have f6:=j.out.cell 6;have f7:=j.out.cell 7;clear au al aa hF h hm hN M ai ab U h0 aw ax ah aG K g;go_enter Tryz.func13,Tryz.ntmps13
 go_upto_region 1 with fail
 rw [aA.out];go_wp2_with fail
 refine ay.out.mono ?_;rintro e J ⟨v2,rfl,⟨y,s,p,G,o,c2,t,C,D,E,A,u,r,z,B,rfl,h6⟩,ae⟩;have d:=zhd (an.out.below ae an.out.lt);have aJ:w.heap.size+1+1<J.heap.size:=d.out.lt;have az:=zhd h6;have r0:=d.out.cell 0;have z0:=d.out.frozen 0;have r1:=d.out.cell 1;have z1:=d.out.frozen 1;have r2:=d.out.cell 2;have z2:=d.out.frozen 2;have r3:=d.out.cell 3;have z3:=d.out.frozen 3;have r4:=d.out.cell 4;have z4:=d.out.frozen 4;have r5:=d.out.cell 5;have z5:=d.out.frozen 5;have r6:=d.out.cell 6;have z6:=d.out.frozen 6;have r7:=d.out.cell 7;have z7:=d.out.frozen 7;have L:=zhd (zay d.out (slice y (zac (a.rs.take a.m)).length s) (slice p (zac (a.rs.drop a.m)).length G) (int i64 (q:Int)) (slice o t.length c2) (int i64 (a.m:Int)) (slice C E.length D) (slice A r.length u) (slice z a.acks.length B));have aq:Hid (Touch (zam F (w.heap.size+1+1)) J (zaQ J (w.heap.size+1+1) (slice y (zac (a.rs.take a.m)).length s) (slice p (zac (a.rs.drop a.m)).length G) (int i64 (q:Int)) (slice o t.length c2) (int i64 (a.m:Int)) (slice C E.length D) (slice A r.length u) (slice z a.acks.length B))):=zhd (zai _ _ _ _ _ _ _ _);have aI:Hid (Touch (zam (fun _=>False) (w.heap.size+1+1)) J (zaQ J (w.heap.size+1+1) (slice y (zac (a.rs.take a.m)).length s) (slice p (zac (a.rs.drop a.m)).length G) (int i64 (q:Int)) (slice o t.length c2) (int i64 (a.m:Int)) (slice C E.length D) (slice A r.length u) (slice z a.acks.length B))):=zhd (zai _ _ _ _ _ _ _ _);have am:=zhd (aj.out.trans (ae.mono aj.out.size));clear ae h6 k0 aE ay aD f0 f1 f2 f3 f4 f5 f6 f7;go_wp2;obtain⟨W8,ag⟩:∃ W,zaQ J (w.heap.size+1+1) (slice y (zac (a.rs.take a.m)).length s) (slice p (zac (a.rs.drop a.m)).length G) (int i64 (q:Int)) (slice o t.length c2) (int i64 (a.m:Int)) (slice C E.length D) (slice A r.length u) (slice z a.acks.length B)=W:=⟨_,rfl⟩;rw [ag] at L aq aI;unfold zaQ at ag;rw [ag];obtain⟨W9,ak⟩:∃ W,W8.alloc (.cells #[slice y (zac (a.rs.take a.m)).length s,slice p (zac (a.rs.drop a.m)).length G,int i64 (q:Int),slice o t.length c2,int i64 (a.m:Int),slice C E.length D,slice A r.length u,slice z a.acks.length B] 36)=W:=⟨_,rfl⟩;have af:Below W8.heap.size W8 W9:=by rw [<-ak];exact zbl
 have l:=zhd (L.out.1.below af L.out.1.lt);have aH:Below w.heap.size w W9:=(L.out.2.2.1 _ am.out (by omega)).trans (af.mono (L.out.2.2.1 _ am.out (by omega)).size);rw [ak];have g0:=l.out.cell 0;have g1:=l.out.cell 1;have g2:=l.out.cell 2;have g3:=l.out.cell 3;have g4:=l.out.cell 4;have g5:=l.out.cell 5;have g6:=l.out.cell 6;have g7:=l.out.cell 7;refine bodyPost_ret (v:=.tuple #[.agg #[slice y (zac (a.rs.take a.m)).length s,slice p (zac (a.rs.drop a.m)).length G,int i64 (q:Int),slice o t.length c2,int i64 (a.m:Int),slice C E.length D,slice A r.length u,slice z a.acks.length B],slice none 0 0,int i64 er]) (by simp [results,Tryz.results13,go_sem,g0,g1,g2,g3,g4,g5,g6,g7]) rfl ?_;exact⟨_,[],none,0,q,rfl,Nat.le_succ q,rfl,zdR _ _ _,⟨y,s,p,G,o,c2,t,C,D,E,A,u,r,z,B,rfl,(az.out.step aq.out (F':=F) (fun k g=>Or.inl (Or.inl g))).below af⟩,aH⟩
theorem zjk(F:Nat->Prop)(S:St8)(q:Nat)(C J:Int)(x:MV)(af:C≠1)(aa:C≠2)(am:C≠3)(ab:J<0)(aO:q<=4611686018427387904/\Ok8 S/\(zac S.rs).length<=4194304/\OkT S.N/\S.N.length<=8388608/\S.acks.length<=700000000000)(w:World)(hF:∀ k,F k->k<w.heap.size)(hm:MsgM w x)(hN:zaK F w x.e.2.1 (x.e.1.v.map zaa))(v:Value)(h:zbD F S q w v) :
 Calls Tryz.prog 13 #[v,.agg ⟨oC ⟨C,x,J⟩⟩] w (zjh F S [] 2 q w):=by
 obtain⟨j,l,AT,o,R,c,B,A,p,y,z,t,u,r,s,rfl,h⟩:=h;obtain⟨I,al,M,Y,T,O⟩:=zbM w 36 53 36 #[slice j (zac (S.rs.take S.m)).length l,slice AT (zac (S.rs.drop S.m)).length o,int i64 (q:Int),slice R B.length c,int i64 (S.m:Int),slice A y.length p,slice z u.length t,slice r S.acks.length s] ⟨oC ⟨C,x,J⟩⟩ #[slice none 0 0,slice none 0 0,int i64 0,slice none 0 0,int i64 0,slice none 0 0,slice none 0 0,slice none 0 0];have X:=h.wide M (b:=w.heap.size+1+1) (by omega);have aw:∀ k,zam F (w.heap.size+1+1) k->k<I.heap.size:=fun k d=>by
  have h1:=O.lt;rcases d with d|d
  ·have:=hF k d;omega
  ·omega
 have aJ:zaK (zam F (w.heap.size+1+1)) I x.e.2.1 (x.e.1.v.map zaa):=hN.grow (fun k d=>by
  rcases d with d|d
  ·exact Or.inl d
  ·exact Or.inr (by omega)) (Touch.ofBelow M)
 have an:zbD (zam F (w.heap.size+1+1)) S q I (.agg #[slice j (zac (S.rs.take S.m)).length l,slice AT (zac (S.rs.drop S.m)).length o,int i64 (q:Int),slice R B.length c,int i64 (S.m:Int),slice A y.length p,slice z u.length t,slice r S.acks.length s]):=⟨j,l,AT,o,R,c,B,A,p,y,z,t,u,r,s,rfl,X⟩;have e1:(C==1)=false:=by simpa using af
 have e2:(C==2)=false:=by simpa using aa
 have e3:(C==3)=false:=by simpa using am
 have ag:=zjg (zam F (w.heap.size+1+1)) S q J ab I _ an;have ao:=zhd (ag);have aA:=zhd X;have Z:=zhd M;have g:=zhd Y;have aj:=zhd T;have ai:=zhd O;have au:=zhd al;have aB:Hid (I.rangeAt (w.heap.size+1) 1 (mL x)):=zhd fun i v hv=>by
  rw [show 1+i=i+1 from Nat.add_comm 1 i];rw [T.cell (i+1)];have hi:i<17:=(List.getElem?_eq_some_iff.1 hv).1;rw [List.getElem?_toArray];show(mL x++[int i64 J])[i]?=some v
  rw [List.getElem?_append_left (by exact hi)];exact hv
 have k0:_=some (int i64 C):=aj.out.cell 0;have aD:_=some (int i64 J):=aj.out.cell 18;have f0:=g.out.cell 0;have f1:=g.out.cell 1;have f2:=g.out.cell 2;have f3:=g.out.cell 3;have f4:=g.out.cell 4;have f5:=g.out.cell 5;have f6:=g.out.cell 6;have f7:=g.out.cell 7;clear ag hF h hm hN M Y T O X al an aw aJ aO af aa am ab;go_enter Tryz.func13,Tryz.ntmps13
 go_upto_region 1 with fail
 rw [au.out];go_wp2_with fail
 refine ao.out.mono ?_;rintro e G ⟨v2,rfl,⟨aH,az,ax,aS,R2,c2,aE,aP,aQ,aR,aL,aG,ay,aI,aM,rfl,h6⟩,K⟩;have a:=zhd (ai.out.below K ai.out.lt);have aU:w.heap.size+1+1<G.heap.size:=a.out.lt;have aT:w.heap.size<G.heap.size:=by omega
 have aq:=zhd (aA.out.below K);have E:=zhd (g.out.below K g.out.lt);have l0:=E.out.cell 0;have l1:=E.out.cell 1;have l2:=E.out.cell 2;have l3:=E.out.cell 3;have l4:=E.out.cell 4;have l5:=E.out.cell 5;have l6:=E.out.cell 6;have l7:=E.out.cell 7;have r0:=a.out.cell 0;have z0:=a.out.frozen 0;have r1:=a.out.cell 1;have z1:=a.out.frozen 1;have r2:=a.out.cell 2;have z2:=a.out.frozen 2;have r3:=a.out.cell 3;have z3:=a.out.frozen 3;have r4:=a.out.cell 4;have z4:=a.out.frozen 4;have r5:=a.out.cell 5;have z5:=a.out.frozen 5;have r6:=a.out.cell 6;have z6:=a.out.frozen 6;have r7:=a.out.cell 7;have z7:=a.out.frozen 7;have L:=zhd (zay a.out (slice j (zac (S.rs.take S.m)).length l) (slice AT (zac (S.rs.drop S.m)).length o) (int i64 (q:Int)) (slice R B.length c) (int i64 (S.m:Int)) (slice A y.length p) (slice z u.length t) (slice r S.acks.length s));have ak:Hid (Touch (zam F (w.heap.size+1+1)) G (zaQ G (w.heap.size+1+1) (slice j (zac (S.rs.take S.m)).length l) (slice AT (zac (S.rs.drop S.m)).length o) (int i64 (q:Int)) (slice R B.length c) (int i64 (S.m:Int)) (slice A y.length p) (slice z u.length t) (slice r S.acks.length s))):=zhd (zai _ _ _ _ _ _ _ _);have aN:Hid (Touch (zam (fun _=>False) (w.heap.size+1+1)) G (zaQ G (w.heap.size+1+1) (slice j (zac (S.rs.take S.m)).length l) (slice AT (zac (S.rs.drop S.m)).length o) (int i64 (q:Int)) (slice R B.length c) (int i64 (S.m:Int)) (slice A y.length p) (slice z u.length t) (slice r S.acks.length s))):=zhd (zai _ _ _ _ _ _ _ _);have ah:=zhd (Z.out.trans (K.mono Z.out.size));clear K h6 k0 aD ao aB f0 f1 f2 f3 f4 f5 f6 f7;go_wp2;obtain⟨Q,V⟩:∃ W,zaQ G (w.heap.size+1+1) (slice j (zac (S.rs.take S.m)).length l) (slice AT (zac (S.rs.drop S.m)).length o) (int i64 (q:Int)) (slice R B.length c) (int i64 (S.m:Int)) (slice A y.length p) (slice z u.length t) (slice r S.acks.length s)=W:=⟨_,rfl⟩;rw [V] at L ak aN;unfold zaQ at V;rw [V];obtain⟨W9,ae⟩:∃ W,Q.alloc (.cells #[slice aH (zac (S.rs.take S.m)).length az,slice ax (zac (S.rs.drop S.m)).length aS,int i64 (q:Int),slice R2 aE.length c2,int i64 (S.m:Int),slice aP aR.length aQ,slice aL ay.length aG,slice aI S.acks.length aM] 36)=W:=⟨_,rfl⟩;have U:Below Q.heap.size Q W9:=by rw [<-ae];exact zbl
 have D:=zhd (L.out.1.below U L.out.1.lt);have aK:Below w.heap.size w W9:=(L.out.2.2.1 _ ah.out (by omega)).trans (U.mono (L.out.2.2.1 _ ah.out (by omega)).size);rw [ae];have g0:=D.out.cell 0;have g1:=D.out.cell 1;have g2:=D.out.cell 2;have g3:=D.out.cell 3;have g4:=D.out.cell 4;have g5:=D.out.cell 5;have g6:=D.out.cell 6;have g7:=D.out.cell 7;refine bodyPost_ret (v:=.tuple #[.agg #[slice j (zac (S.rs.take S.m)).length l,slice AT (zac (S.rs.drop S.m)).length o,int i64 (q:Int),slice R B.length c,int i64 (S.m:Int),slice A y.length p,slice z u.length t,slice r S.acks.length s],slice none 0 0,int i64 2]) (by simp [results,Tryz.results13,go_sem,g0,g1,g2,g3,g4,g5,g6,g7]) rfl ?_;exact⟨_,[],none,0,q,rfl,Nat.le_succ q,rfl,zdR _ _ _,⟨j,l,AT,o,R,c,B,A,p,y,z,t,u,r,s,rfl,(aq.out.step ak.out (F':=F) (fun k d=>Or.inl (Or.inl d))).below U⟩,aK⟩
theorem zhg(F:Nat->Prop)(S:St8)(q:Nat)(o l:Int)(x:MV)(au:o≠1)(an:o≠2)(aD:o≠3)(aN:¬ l<0)(aK:l<=9223372036854775807)(ai:zca S.rs)(U:q<=4611686018427387904/\Ok8 S/\(zac S.rs).length<=4194304/\OkT S.N/\S.N.length<=8388608/\S.acks.length<=700000000000)(w:World)(hF:∀ k,F k->k<w.heap.size)(hm:MsgM w x)(hN:zaK F w x.e.2.1 (x.e.1.v.map zaa))(v:Value)(h:zbD F S q w v) :
 Calls Tryz.prog 13 #[v,.agg ⟨oC ⟨o,x,l⟩⟩] w (zjh F (zaL S l.toNat) [] 0 q w):=by
 obtain⟨V,X,AT,Z,R,c,vs,AU,cU,us,AV,cV,ls,AC,cC,rfl,h⟩:=h;obtain⟨M,aB,T,aj,aa,Y⟩:=zbM w 36 53 36 #[slice V (zac (S.rs.take S.m)).length X,slice AT (zac (S.rs.drop S.m)).length Z,int i64 (q:Int),slice R vs.length c,int i64 (S.m:Int),slice AU us.length cU,slice AV ls.length cV,slice AC S.acks.length cC] ⟨oC ⟨o,x,l⟩⟩ #[slice none 0 0,slice none 0 0,int i64 0,slice none 0 0,int i64 0,slice none 0 0,slice none 0 0,slice none 0 0];have h0:=h.wide T (b:=w.heap.size+1+1) (by omega);have ah:∀ k,zam F (w.heap.size+1+1) k->k<M.heap.size:=fun k g=>by
  have h1:=Y.lt;rcases g with g|g
  ·have:=hF k g;omega
  ·omega
 have aO:zaK (zam F (w.heap.size+1+1)) M x.e.2.1 (x.e.1.v.map zaa):=hN.grow (fun k g=>by
  rcases g with g|g
  ·exact Or.inl g
  ·exact Or.inr (by omega)) (Touch.ofBelow T)
 have aE:zbD (zam F (w.heap.size+1+1)) S q M (.agg #[slice V (zac (S.rs.take S.m)).length X,slice AT (zac (S.rs.drop S.m)).length Z,int i64 (q:Int),slice R vs.length c,int i64 (S.m:Int),slice AU us.length cU,slice AV ls.length cV,slice AC S.acks.length cC]):=⟨V,X,AT,Z,R,c,vs,AU,cU,us,AV,cV,ls,AC,cC,rfl,h0⟩;have e1:(o==1)=false:=by simpa using au
 have e2:(o==2)=false:=by simpa using an
 have e3:(o==3)=false:=by simpa using aD
 obtain⟨k,ao⟩:∃ k:Nat,l=(k:Int):=⟨l.toNat,by omega⟩;obtain⟨TT,al⟩:=zh1 U.2.1 ai k;have O:=zjf (zam F (w.heap.size+1+1)) S q k U.1 (by omega) U.2.2.1 TT al M ah _ aE;rw [<-ao] at O;have ak:l.toNat=k:=by omega
 rw [ak];obtain⟨a,aA⟩:∃ a,zaL S k=a:=⟨_,rfl⟩;rw [aA] at O ⊢;obtain⟨j,ab⟩:∃ j,j=0:=⟨_,rfl⟩;rw [<-ab] at O;have aJ:=zhd ab;have aG:=zhd (O);have am:=zhd T;have p:=zhd aj;have ay:=zhd aa;have ax:=zhd Y;have aI:=zhd aB;have aL:Hid (M.rangeAt (w.heap.size+1) 1 (mL x)):=zhd fun i v hv=>by
  rw [show 1+i=i+1 from Nat.add_comm 1 i];rw [aa.cell (i+1)];have hi:i<17:=(List.getElem?_eq_some_iff.1 hv).1;rw [List.getElem?_toArray];show(mL x++[int i64 l])[i]?=some v
  rw [List.getElem?_append_left (by exact hi)];exact hv
 have k0:_=some (int i64 o):=ay.out.cell 0;have aM:_=some (int i64 l):=ay.out.cell 18;have f0:=p.out.cell 0;have f1:=p.out.cell 1;have f2:=p.out.cell 2;have f3:=p.out.cell 3;have f4:=p.out.cell 4;have f5:=p.out.cell 5;have f6:=p.out.cell 6;have f7:=p.out.cell 7;clear aA O ab al ao ak hF h hm hN T aj aa Y h0 aB aE ah aO U au an aD aN aK ai;go_enter Tryz.func13,Tryz.ntmps13
 go_upto_region 1 with fail
 rw [aI.out];go_wp2_with fail
 refine aG.out.mono ?_;rintro e L ⟨v2,rfl,⟨B,y,t,K,s,c2,z,G,I,J,D,A,u,C,E,rfl,h6⟩,ae⟩;have d:=zhd (ax.out.below ae ax.out.lt);have aR:w.heap.size+1+1<L.heap.size:=d.out.lt;have aH:=zhd h6;have r0:=d.out.cell 0;have z0:=d.out.frozen 0;have r1:=d.out.cell 1;have z1:=d.out.frozen 1;have r2:=d.out.cell 2;have z2:=d.out.frozen 2;have r3:=d.out.cell 3;have z3:=d.out.frozen 3;have r4:=d.out.cell 4;have z4:=d.out.frozen 4;have r5:=d.out.cell 5;have z5:=d.out.frozen 5;have r6:=d.out.cell 6;have z6:=d.out.frozen 6;have r7:=d.out.cell 7;have z7:=d.out.frozen 7;have Q:=zhd (zay d.out (slice B (zac (a.rs.take a.m)).length y) (slice t (zac (a.rs.drop a.m)).length K) (int i64 (j:Int)) (slice s z.length c2) (int i64 (a.m:Int)) (slice G J.length I) (slice D u.length A) (slice C a.acks.length E));have az:Hid (Touch (zam F (w.heap.size+1+1)) L (zaQ L (w.heap.size+1+1) (slice B (zac (a.rs.take a.m)).length y) (slice t (zac (a.rs.drop a.m)).length K) (int i64 (j:Int)) (slice s z.length c2) (int i64 (a.m:Int)) (slice G J.length I) (slice D u.length A) (slice C a.acks.length E))):=zhd (zai _ _ _ _ _ _ _ _);have aQ:Hid (Touch (zam (fun _=>False) (w.heap.size+1+1)) L (zaQ L (w.heap.size+1+1) (slice B (zac (a.rs.take a.m)).length y) (slice t (zac (a.rs.drop a.m)).length K) (int i64 (j:Int)) (slice s z.length c2) (int i64 (a.m:Int)) (slice G J.length I) (slice D u.length A) (slice C a.acks.length E))):=zhd (zai _ _ _ _ _ _ _ _);have aw:=zhd (am.out.trans (ae.mono am.out.size));clear ae h6 k0 aM aG aL f0 f1 f2 f3 f4 f5 f6 f7;go_wp2;obtain⟨W8,ag⟩:∃ W,zaQ L (w.heap.size+1+1) (slice B (zac (a.rs.take a.m)).length y) (slice t (zac (a.rs.drop a.m)).length K) (int i64 (j:Int)) (slice s z.length c2) (int i64 (a.m:Int)) (slice G J.length I) (slice D u.length A) (slice C a.acks.length E)=W:=⟨_,rfl⟩;rw [ag] at Q az aQ;unfold zaQ at ag;rw [ag];obtain⟨W9,aq⟩:∃ W,W8.alloc (.cells #[slice B (zac (a.rs.take a.m)).length y,slice t (zac (a.rs.drop a.m)).length K,int i64 (j:Int),slice s z.length c2,int i64 (a.m:Int),slice G J.length I,slice D u.length A,slice C a.acks.length E] 36)=W:=⟨_,rfl⟩;have af:Below W8.heap.size W8 W9:=by rw [<-aq];exact zbl
 have r:=zhd (Q.out.1.below af Q.out.1.lt);have aP:Below w.heap.size w W9:=(Q.out.2.2.1 _ aw.out (by omega)).trans (af.mono (Q.out.2.2.1 _ aw.out (by omega)).size);rw [aq];have g0:=r.out.cell 0;have g1:=r.out.cell 1;have g2:=r.out.cell 2;have g3:=r.out.cell 3;have g4:=r.out.cell 4;have g5:=r.out.cell 5;have g6:=r.out.cell 6;have g7:=r.out.cell 7;refine bodyPost_ret (v:=.tuple #[.agg #[slice B (zac (a.rs.take a.m)).length y,slice t (zac (a.rs.drop a.m)).length K,int i64 (j:Int),slice s z.length c2,int i64 (a.m:Int),slice G J.length I,slice D u.length A,slice C a.acks.length E],slice none 0 0,int i64 0]) (by simp [results,Tryz.results13,go_sem,g0,g1,g2,g3,g4,g5,g6,g7]) rfl ?_;exact⟨_,[],none,0,j,rfl,by have:=aJ.out;omega,rfl,zdR _ _ _,⟨B,y,t,K,s,c2,z,G,I,J,D,A,u,C,E,rfl,(aH.out.step az.out (F':=F) (fun k g=>Or.inl (Or.inl g))).below af⟩,aP⟩
theorem zjl(F:Nat->Prop)(S:St8)(ps:zcS)(q:Nat)(r:O14)(z:r.kept<=9223372036854775807)(t:zca S.rs)(A:zrI S)(y:S.L.length<=8388608)(i:q<=4611686018427387904/\Ok8 S/\(zac S.rs).length<=4194304/\OkT S.N/\S.N.length<=8388608/\S.acks.length<=700000000000)(w:World)(d:∀ k,F k->k<w.heap.size)(l:MsgM w r.m)(g:zaK F w r.m.e.2.1 (r.m.e.1.v.map zaa))(v:Value)(h:zbD F S q w v) :
 Calls Tryz.prog 13 #[v,.agg ⟨oC r⟩] w (zjh F (opS S ps r.kind (mP r.m) r.kept).S (opS S ps r.kind (mP r.m) r.kept).out (opS S ps r.kind (mP r.m) r.kept).err q w):=by
 obtain⟨b,x,c⟩:=r;have u:(zbI S ps (mP x)).1=(zbI S [] (mP x)).1:=by unfold zbI;split<;>rfl
 unfold opS;by_cases k1:b=1
 ·rw [if_pos k1];show Calls _ _ _ _ (zjh F (zbI S ps (mP x)).1 (zea S (mP x)) 0 q w)
  rw [u];exact zjj F S q b c x k1 y i w d l g v h
 ·rw [if_neg k1];by_cases o:b=2
  ·rw [if_pos o];exact zhB F S q b c x o (fun a s=>by have:=(A a s).2;unfold maxLen;omega) i w d l g v h
  ·rw [if_neg o];by_cases j:b=3
   ·rw [if_pos j];exact zhC F S q b c x j i w d l g v h
   ·rw [if_neg j];by_cases p:c<0
    ·rw [if_pos p];exact zjk F S q b c x k1 o j p i w d l g v h
    ·rw [if_neg p];exact zhg F S q b c x k1 o j p z t i w d l g v h
end
section
open Go.RowKit Go.ChangeShapes Mem Be Word Frm Go.Maps Rg
def zhi(N:List EntP)(w:World)(A:Option Addr):Prop:=∃ xs:List EV,xs.length=N.length/\xs.map Prod.fst=N/\EnV w A xs
theorem zh6{N:List EntP}{w1 a:World}{A:Option Addr}(h:zhi N w1 A)(c:Below w1.heap.size w1 a):zhi N a A:=by
 obtain⟨i,d,g,b⟩:=h;exact⟨i,d,g,b.below c⟩
theorem zkN{w1 a:World}{A:Option Addr}{b:List Value}(h:Row w1 w1.heap.size A b)(c:Below w1.heap.size w1 a):Row a a.heap.size A b:=(h.below c).more c.size
def zft(g y b nV cV nL cL nT cT:Nat)(TL:List EntP)(L T:List UInt8)(AV AL AT:Option Addr):Nat->Value->World->Prop
 | 0,v,_=>v=pointer (some ⟨g,0,none⟩)
 | 1,v,w=>∃ A' c',v=slice A' TL.length c'/\zhi TL w A'
 | 2,v,_=>v=pointer (some ⟨b,6,none⟩)
 | 3,v,_=>v=slice AV nV cV
 | 4,v,_=>v=bool true
 | 5,v,_=>v=bool true
 | 6,v,_=>v=pointer (some ⟨y,0,none⟩)
 | 7,v,w=>∃ A' c',v=slice A' L.length c'/\Row w w.heap.size A' (L.map zaa)
 | 8,v,_=>v=pointer (some ⟨b,0,none⟩)
 | 9,v,_=>v=pointer (some ⟨b,0,none⟩)
 | 10,v,_=>v=pointer (some ⟨b,0,none⟩)
 | 11,v,_=>v=slice AL nL cL
 | 12,v,_=>v=bool true
 | 13,v,_=>v=bool true
 | 14,v,_=>v=bool true
 | 15,v,_=>v=pointer (some ⟨y,0,none⟩)
 | 16,v,w=>∃ A' c',v=slice A' T.length c'/\Row w w.heap.size A' (T.map zaa)
 | 17,v,_=>v=pointer (some ⟨b,0,none⟩)
 | 18,v,_=>v=pointer (some ⟨b,0,none⟩)
 | 19,v,_=>v=pointer (some ⟨b,1,none⟩)
 | 20,v,_=>v=slice AT nT cT
 | 21,v,_=>v=bool true
 | 22,v,_=>v=bool true
 | _,v,_=>v=bool true
theorem zoH(g y b m s r o u k:Nat)(t:List EntP)(L T:List UInt8)(q l AT:Option Addr):∀ i v w1 j,zft g y b m s r o u k t L T q l AT i v w1->Below w1.heap.size w1 j->zft g y b m s r o u k t L T q l AT i v j:=by
 intro i v w1 j h d;unfold zft at h ⊢;split at h<;>first|exact h|(obtain⟨p,e,c⟩:=h;exact⟨p,e,c.below d c.lt⟩)|(obtain⟨a,b,e,c⟩:=h;exact⟨a,b,e,za5 c d⟩)|(obtain⟨a,b,e,c⟩:=h;exact⟨a,b,e,zh6 c d⟩)|(obtain⟨a,b,e,c⟩:=h;exact⟨a,b,e,zkN c d⟩)
theorem zoI(F:Nat->Prop)(g q t z k A B cR na cC nU cU u C:Nat)(S:St8)(ps:zcS)(L T:List UInt8)(i:List EV)(l AT R AU v AC:Option Addr)(qq mm:Int)(hL:zac (S.rs.take S.m)=L)(hT:zac (S.rs.drop S.m)=T)(hn:t=L.length)(hm:z=T.length)
 (hv:u=i.length) (aH:i.map Prod.fst=S.L) (w:World) (h:SvAt w F g S ps q) (hl:Row w w.heap.size l (L.map zaa)) (ht:Row w w.heap.size AT (T.map zaa)) (aK:EnV w v i) :
 Calls Tryz.prog 15 #[pointer (some ⟨g,0,none⟩),.agg #[slice l t A,slice AT z B,int i64 qq,slice R k cR,int i64 mm,slice AU nU cU,slice v u C,slice AC na cC]] w (zwF true w):=by
 have aB:=znt h;obtain⟨E,X⟩:∃ E,w.alloc (.cells #[slice l t A,slice AT z B,int i64 qq,slice R k cR,int i64 mm,slice AU nU cU,slice v u C,slice AC na cC] 36)=E:=⟨_,rfl⟩;have x:Below w.heap.size w E:=by rw [<-X];exact zbl
 have al:Blk E w.heap.size 36 #[slice l t A,slice AT z B,int i64 qq,slice R k cR,int i64 mm,slice AU nU cU,slice v u C,slice AC na cC]:=by rw [<-X];exact Blk.new _ _ _
 obtain⟨b,Z⟩:∃ b,w.heap.size=b:=⟨_,rfl⟩;have aq:=zol F g q S ps E (h.below x);rw [hL,hT] at aq;have aL:=zhd aq;rw [Z] at al;have aE:=zhd al;have ay:=zhd x;have aY:=zhd (h.below x);have bj:=zhd ((hl.below x).more x.size);have aP:=zhd ((ht.below x).more x.size);have aV:=zhd (aK.below x);have bn:=zhd hn;have bl:=zhd hm;have aZ:=zhd aH;have aU:=zhd hv;have aT:=zhd aB;have aM:=zhd X;have bm:=zhd Z;clear h hL hT hn hm aH hl ht aK hv x al X Z aq aB;go_enter Tryz.func15,Tryz.ntmps15
 go_wp2_with fail
 rw [aM.out];rw [bm.out];refine aL.out.mono ?_;rintro e j ⟨y,FY,rfl,bd,aw,M⟩;simp only [id];have bw:=zhd M;have az:Hid (∀ W,Below j.heap.size j W->zcV dk0 W FY y L T q):=zhd fun W d=>aw.below d;have D:Hid (∀ W,Below j.heap.size j W->Below E.heap.size E W):=zhd fun W d=>M.trans (d.mono M.size);have aD:Hid (∀ W,Below j.heap.size j W->SvAt W F g S ps q):=zhd fun W d=>aY.out.below (D.out W d);have HB:Hid (∀ W,Below j.heap.size j W->W.cell? ⟨b,6,none⟩=some (slice v u C)/\W.cell? ⟨b,0,none⟩=some (slice l t A)/\W.cell? ⟨b,1,none⟩=some (slice AT z B)):=zhd fun W d=>by
  have ae:=aE.out.below (D.out W d) aE.out.lt;exact⟨ae.cell 6,ae.cell 0,ae.cell 1⟩
 have bg:Hid (∀ W,Below j.heap.size j W->Row W W.heap.size l (L.map zaa)):=zhd fun W d=>(bj.out.below (D.out W d)).more (D.out W d).size;have aO:Hid (∀ W,Below j.heap.size j W->Row W W.heap.size AT (T.map zaa)):=zhd fun W d=>(aP.out.below (D.out W d)).more (D.out W d).size;obtain⟨o,aI⟩:∃ o,S.L=o:=⟨_,rfl⟩;have af:=zhd aI;have bh:Hid (∀ W,Below j.heap.size j W->Calls Tryz.prog 23 #[pointer (some ⟨g,0,none⟩)] W fun e w'=>∃ N c',e=.returned (slice N o.length c')/\zhi o w' N/\Below W.heap.size W w'):=zhd fun W p=>(zqR F g q S ps W (aD.out W p)).mono fun e w' c=>by
  obtain⟨V,N,n',c',he,aR,an,bH,bf,bu⟩:=zrC (aD.out W p) c;rw [af.out] at an;have aA:V.length=o.length:=by rw [<-an,List.length_map]
  exact⟨N,c',by rw [he,aR,aA],⟨V,aA,an,bf⟩,bu⟩
 have bq:Hid (∀ W,Below j.heap.size j W->∀ (a:Option Addr) (c':Nat),zhi o W a->Calls Tryz.prog 25 #[slice a o.length c',slice v u C] W (zwF true W)):=zhd fun W d a c' ⟨V,Q,O,U⟩=>
  zkm o.length c' u C a v V i Q.symm aU.out (O.trans (af.out.symm.trans aZ.out.symm)) (by have:=aT.out;rw [af.out] at this;omega) W U (aV.out.below (D.out W d))
 have bo:=zhd fun(W:World) (p:Below j.heap.size j W)=>zlm FY y q L T W (az.out W p);have bp:=zhd fun(W:World) (p:Below j.heap.size j W)=>zsf FY y q L T W (az.out W p);have aS:Hid (∀ W,Below j.heap.size j W->∀ (a:Option Addr) (c':Nat),Row W W.heap.size a (L.map zaa)->Calls Tryz.prog 29 #[slice a L.length c',slice l t A] W fun e w'=>e=.returned (bool true)/\W=w'):=zhd fun W p a c' hr=>
  zjw W.heap.size W.heap.size c' A L.length t a l L L rfl W hr (bg.out W p) rfl bn.out
 have aW:Hid (∀ W,Below j.heap.size j W->∀ (a:Option Addr) (c':Nat),Row W W.heap.size a (T.map zaa)->Calls Tryz.prog 29 #[slice a T.length c',slice AT z B] W fun e w'=>e=.returned (bool true)/\W=w'):=zhd fun W p a c' hr=>
  zjw W.heap.size W.heap.size c' B T.length z a AT T T rfl W hr (aO.out W p) rfl bl.out
 have aG:=zhd (ay.out.trans (M.mono ay.out.size));clear bd aw M aL aI;go_wp2_with fail
 refine Rely.wp_region_by [[],[(0,8)],[],[(2,10)],[(1,9),(3,11)],[(4,12)],[(5,13)],[(5,13),(6,14)],[(5,13)],[(5,13),(8,16)],[(5,13),(9,17)],[(5,13),(10,18)],[(5,13),(7,15),(11,19)],[(5,13),(12,20)],[(13,21)],[(14,22)],[(14,22),(15,23)],[(14,22)],[(14,22),(17,25)],[(14,22),(18,26)],[(14,22),(19,27)],[(14,22),(16,24),(20,28)],[(14,22),(21,29)],[(22,30)]] [(0,8),(1,9),(2,10),(3,11),(4,12),(5,13),(6,14),(7,15),(8,16),(9,17),(10,18),(11,19),(12,20),(13,21),(14,22),(15,23),(16,24),(17,25),(18,26),(19,27),(20,28),(21,29),(22,30),(23,4)] [] (zft g y b u C t A z B o L T v l AT) (by kernel_rfl) (by kernel_rfl) (by kernel_rfl) (by kernel_rfl) (by kernel_rfl) (by kernel_rfl) (zoH g y b u C t A z B o L T v l AT) ?_ ?_
 ·skip;refine Rely.stepsZ_cons (by
   intro i w' d c;simp only [Rely.Pre,zft] at c;unfold Rely.gives;simp only [Rely.sel,List.foldl_cons,List.foldl_nil];go_simp
   exact⟨Below.refl _ _,rfl⟩) ?_
  refine Rely.stepsZ_cons (by
   intro i w' d c;simp only [Rely.Pre,zft] at c;obtain⟨h8,_⟩:=c;unfold Rely.gives;simp only [Rely.sel,List.foldl_cons,List.foldl_nil];go_simp
   simp only [Rely.GivesR];refine(bh.out w' d).mono ?_;rintro e K ⟨J,c3,rfl,I,G⟩;exact⟨_,rfl,G,J,c3,rfl,I⟩) ?_
  refine Rely.stepsZ_cons (by
   intro i w' d c;simp only [Rely.Pre,zft] at c;unfold Rely.gives;simp only [Rely.sel,List.foldl_cons,List.foldl_nil];go_simp
   exact⟨Below.refl _ _,rfl⟩) ?_
  refine Rely.stepsZ_cons (by
   intro i w' d c;simp only [Rely.Pre,zft] at c;obtain⟨ao,_⟩:=c;have ax:=(HB.out w' d).1;unfold Rely.gives;simp only [Rely.sel,List.foldl_cons,List.foldl_nil];go_simp
   exact⟨Below.refl _ _,rfl⟩) ?_
  refine Rely.stepsZ_cons (by
   intro i w' d c;simp only [Rely.Pre,zft] at c;obtain⟨⟨a9,c9,e9,br⟩,aa,_⟩:=c;unfold Rely.gives;simp only [Rely.sel,List.foldl_cons,List.foldl_nil];go_simp
   simp only [Rely.GivesR];refine(bq.out w' d a9 c9 br).mono ?_;rintro e K ⟨rfl,G⟩;exact⟨_,rfl,G,rfl⟩) ?_
  refine Rely.stepsZ_cons (by
   intro i w' d c;simp only [Rely.Pre,zft] at c;obtain⟨am,_⟩:=c;unfold Rely.gives;simp only [Rely.sel,List.foldl_cons,List.foldl_nil];go_simp
   exact⟨Below.refl _ _,rfl⟩) ?_
  refine Rely.stepsZ_cons (by
   intro i w' d c;simp only [Rely.Pre,zft] at c;obtain⟨r,_⟩:=c;unfold Rely.gives;simp only [Rely.sel,List.foldl_cons,List.foldl_nil];go_simp
   exact⟨Below.refl _ _,rfl⟩) ?_
  refine Rely.stepsZ_cons (by
   intro i w' d c;simp only [Rely.Pre,zft] at c;obtain⟨r,ai,_⟩:=c;unfold Rely.gives;simp only [Rely.sel,List.foldl_cons,List.foldl_nil];go_simp
   simp only [Rely.GivesR];refine(bo.out w' d).mono ?_;rintro e K ⟨J,c3,rfl,I,G⟩;exact⟨_,rfl,G,J,c3,rfl,zcz I⟩) ?_
  refine Rely.stepsZ_cons (by
   intro i w' d c;simp only [Rely.Pre,zft] at c;obtain⟨r,_⟩:=c;unfold Rely.gives;simp only [Rely.sel,List.foldl_cons,List.foldl_nil];go_simp
   exact⟨Below.refl _ _,rfl⟩) ?_
  refine Rely.stepsZ_cons (by
   intro i w' d c;simp only [Rely.Pre,zft] at c;obtain⟨r,ab,_⟩:=c;unfold Rely.gives;simp only [Rely.sel,List.foldl_cons,List.foldl_nil];go_simp
   exact⟨Below.refl _ _,rfl⟩) ?_
  refine Rely.stepsZ_cons (by
   intro i w' d c;simp only [Rely.Pre,zft] at c;obtain⟨r,ah,_⟩:=c;unfold Rely.gives;simp only [Rely.sel,List.foldl_cons,List.foldl_nil];go_simp
   exact⟨Below.refl _ _,rfl⟩) ?_
  refine Rely.stepsZ_cons (by
   intro i w' d c;simp only [Rely.Pre,zft] at c;obtain⟨r,Y,_⟩:=c;have ax:=(HB.out w' d).2.1;unfold Rely.gives;simp only [Rely.sel,List.foldl_cons,List.foldl_nil];go_simp
   exact⟨Below.refl _ _,rfl⟩) ?_
  refine Rely.stepsZ_cons (by
   intro i w' d c;simp only [Rely.Pre,zft] at c;obtain⟨r,⟨bi,c15,bv,aQ⟩,aj,_⟩:=c;unfold Rely.gives;simp only [Rely.sel,List.foldl_cons,List.foldl_nil];go_simp
   simp only [Rely.GivesR];refine(aS.out w' d bi c15 aQ).mono ?_;rintro e K ⟨rfl,rfl⟩;exact⟨_,rfl,Below.refl _ _,rfl⟩) ?_
  refine Rely.stepsZ_cons (by
   intro i w' d c;simp only [Rely.Pre,zft] at c;obtain⟨r,au,_⟩:=c;unfold Rely.gives;simp only [Rely.sel,List.foldl_cons,List.foldl_nil];go_simp
   exact⟨Below.refl _ _,rfl⟩) ?_
  refine Rely.stepsZ_cons (by
   intro i w' d c;simp only [Rely.Pre,zft] at c;obtain⟨ag,_⟩:=c;unfold Rely.gives;simp only [Rely.sel,List.foldl_cons,List.foldl_nil];go_simp
   exact⟨Below.refl _ _,rfl⟩) ?_
  refine Rely.stepsZ_cons (by
   intro i w' d c;simp only [Rely.Pre,zft] at c;obtain⟨s,_⟩:=c;unfold Rely.gives;simp only [Rely.sel,List.foldl_cons,List.foldl_nil];go_simp
   exact⟨Below.refl _ _,rfl⟩) ?_
  refine Rely.stepsZ_cons (by
   intro i w' d c;simp only [Rely.Pre,zft] at c;obtain⟨s,ak,_⟩:=c;unfold Rely.gives;simp only [Rely.sel,List.foldl_cons,List.foldl_nil];go_simp
   simp only [Rely.GivesR];refine(bp.out w' d).mono ?_;rintro e K ⟨J,c3,rfl,I,G⟩;exact⟨_,rfl,G,J,c3,rfl,zcz I⟩) ?_
  refine Rely.stepsZ_cons (by
   intro i w' d c;simp only [Rely.Pre,zft] at c;obtain⟨s,_⟩:=c;unfold Rely.gives;simp only [Rely.sel,List.foldl_cons,List.foldl_nil];go_simp
   exact⟨Below.refl _ _,rfl⟩) ?_
  refine Rely.stepsZ_cons (by
   intro i w' d c;simp only [Rely.Pre,zft] at c;obtain⟨s,bD,_⟩:=c;unfold Rely.gives;simp only [Rely.sel,List.foldl_cons,List.foldl_nil];go_simp
   exact⟨Below.refl _ _,rfl⟩) ?_
  refine Rely.stepsZ_cons (by
   intro i w' d c;simp only [Rely.Pre,zft] at c;obtain⟨s,bA,_⟩:=c;unfold Rely.gives;simp only [Rely.sel,List.foldl_cons,List.foldl_nil];go_simp
   exact⟨Below.refl _ _,rfl⟩) ?_
  refine Rely.stepsZ_cons (by
   intro i w' d c;simp only [Rely.Pre,zft] at c;obtain⟨s,bO,_⟩:=c;have ax:=(HB.out w' d).2.2;unfold Rely.gives;simp only [Rely.sel,List.foldl_cons,List.foldl_nil];go_simp
   exact⟨Below.refl _ _,rfl⟩) ?_
  refine Rely.stepsZ_cons (by
   intro i w' d c;simp only [Rely.Pre,zft] at c;obtain⟨s,⟨a24,aX,bC,aN⟩,bI,_⟩:=c;unfold Rely.gives;simp only [Rely.sel,List.foldl_cons,List.foldl_nil];go_simp
   simp only [Rely.GivesR];refine(aW.out w' d a24 aX aN).mono ?_;rintro e K ⟨rfl,rfl⟩;exact⟨_,rfl,Below.refl _ _,rfl⟩) ?_
  refine Rely.stepsZ_cons (by
   intro i w' d c;simp only [Rely.Pre,zft] at c;obtain⟨s,bz,_⟩:=c;unfold Rely.gives;simp only [Rely.sel,List.foldl_cons,List.foldl_nil];go_simp
   exact⟨Below.refl _ _,rfl⟩) ?_
  refine Rely.stepsZ_cons (by
   intro i w' d c;simp only [Rely.Pre,zft] at c;obtain⟨bJ,_⟩:=c;unfold Rely.gives;simp only [Rely.sel,List.foldl_cons,List.foldl_nil];go_simp
   exact⟨Below.refl _ _,rfl⟩) ?_
  exact Rely.stepsZ_nil
 intro i w1 bk c _;simp only [Rely.Pre,zft] at c;obtain⟨h0,⟨a1,b1,Q,bx⟩,O,U,h4,h5,h6,⟨a7,b7,h7,bM⟩,h8,h9,ao,aa,am,r,ai,aJ,⟨bK,bG,ab,bP⟩,ah,Y,aj,au,ag,s,ak,_⟩:=c;simp only [Rely.sel,List.foldl_cons,List.foldl_nil,h0,Q,O,U,h4,h5,h6,h7,h8,h9,ao,aa,am,r,ai,aJ,ab,ah,Y,aj,au,ag,s,ak];clear h0 Q O U h4 h5 h6 h7 h8 h9 ao aa am r ai aJ ab ah Y aj au ag s ak;simp only [Act.put,List.setIfInBounds_toArray,List.set_cons_succ,List.set_cons_zero];go_wp2;go_ret;exact⟨rfl,aG.out.trans (bk.mono aG.out.size)⟩
end
section
open Go.RowKit Mem
theorem zjn{P:Program}{o:Oper}{a:Act}{w:World}{R:Value->World->Prop}(ty:TypeId)(x:Operand)(c:o.op=.load ty x)(g:Nat)(j:a.eval x=pointer (some ⟨g,0,none⟩)){b:Array Value}{t:TypeId}(h:Blk w g t b){d:TypeDesc}
 (k:P.underlying ty=some d) (i:(match d with|.struct _|.array _ _=>true|_=>false)=true) (m:(P.info? ty).map (·.size)=some b.size) (l:R (.agg b) w):Rely.gives P o a w R:=by
 unfold Rely.gives execOp;simp only [c,j,Instr.loadAt,Instr.sureAddr,Sem.run_bind,Sem.run_pure,Result.andThen_ok,run_loadVar_row w g t ty b (0,0) d h k i m];exact l
end
end Go.Proofs.YtahnjkkgojfdmaaGreatDoor
