import Derived.Test.YtahnjkkgojfdmaaGreatDoorRY
set_option maxRecDepth 100000
set_option maxHeartbeats 3000000
set_option linter.unusedVariables false
set_option linter.unusedSimpArgs false
namespace Go.Proofs.YtahnjkkgojfdmaaGreatDoor
open Go.IntKind(i64)
open Go.Value(int slice bool)
section
open Go.RowKit Go.ChangeShapes Mem Be Word Frm Go.Maps Rg
def zee(g bt N2 c2 N3 c4 nL cL nT cT qn nR cR mm nU cU nV cV nC cC:Nat)(er:Int)(key:List UInt8)(x:EntP)(A2 A3 AL AT R AU AV AC:Option Addr):Nat->Value->World->Prop
 | 0,v,_=>v=.pointer (some ⟨g,0,none⟩)
 | 1,v,_=>v=bool false
 | 2,v,_=>v=bool false
 | 3,v,_=>v=slice A2 N2 c2
 | 4,v,_=>v=slice A3 N3 c4
 | 5,v,_=>v=bool true
 | 6,v,_=>v=bool false
 | 7,v,_=>v=bool false
 | 8,v,_=>v=bool false
 | 9,v,_=>v=int i64 er
 | 10,v,_=>v=int i64 er
 | 11,v,_=>v=bool false
 | 12,v,_=>v=bool false
 | 13,v,_=>v=bool false
 | 14,v,_=>v=.pointer (some ⟨g,0,none⟩)
 | 15,v,_=>v=.agg #[slice AL nL cL,slice AT nT cT,int i64 (qn:Int),slice R nR cR,int i64 (mm:Int),slice AU nU cU,slice AV nV cV,slice AC nC cC]
 | 16,v,_=>v=bool true
 | 17,v,_=>v=bool false
 | 18,v,_=>v=bool false
 | 19,v,_=>v=bool false
 | 20,v,_=>v=.pointer (some ⟨g,0,none⟩)
 | 21,v,_=>v=.string ⟨key.toArray⟩
 | 22,v,w=>∃ A' c',v=.agg #[.string ⟨key.toArray⟩,int i64 x.s,int i64 x.u,int i64 x.o,bool x.has,slice A' x.v.length c']/\ValOk w x.has A' x.v c'
 | 23,v,_=>v=.pointer (some ⟨bt,6,none⟩)
 | 24,v,_=>v=slice AV nV cV
 | 25,v,_=>v=.string ⟨key.toArray⟩
 | 26,v,w=>∃ A' c',v=.agg #[.string ⟨key.toArray⟩,int i64 x.s,int i64 x.u,int i64 x.o,bool x.has,slice A' x.v.length c']/\ValOk w x.has A' x.v c'
 | 27,v,_=>v=bool true
 | 28,v,_=>v=bool false
 | _,v,_=>v=bool false
theorem zoJ(g G l c2 k c4 L u N C I D F r B E t M m K:Nat)(z:Int)(key:List UInt8)(x:EntP)(q o s AT R A y J:Option Addr):∀ i v w1 j,zee g G l c2 k c4 L u N C I D F r B E t M m K z key x q o s AT R A y J i v w1->Below w1.heap.size w1 j->zee g G l c2 k c4 L u N C I D F r B E t M m K z key x q o s AT R A y J i v j:=by
 intro i v w1 j h d;unfold zee at h ⊢;split at h<;>first|exact h|(obtain⟨p,e,c⟩:=h;exact⟨p,e,c.below d c.lt⟩)|(obtain⟨a,b,e,c⟩:=h;exact⟨a,b,e,c.below d⟩)|(obtain⟨a,b,e,c⟩:=h;exact⟨a,b,e,zh6 c d⟩)|(obtain⟨a,b,e,c⟩:=h;exact⟨a,b,e,zkN c d⟩)
theorem zrD{w:World}{b:Nat}{u0 u1 u2 u3 u4 u5 u6 u7:Value}{p:Addr}(a:p.block≠b):(zaQ w b u0 u1 u2 u3 u4 u5 u6 u7).cell? p=w.cell? p:=by
 have ht:=(zai (F:=fun _=>False) (w:=w) (b:=b) u0 u1 u2 u3 u4 u5 u6 u7);by_cases hl:p.block<w.heap.size
 ·exact World.cell?_of_block (ht.block p.block hl (fun h=>by rcases h with h|h;exact h;exact a h))
 ·have d:(zaQ w b u0 u1 u2 u3 u4 u5 u6 u7).heap.size=w.heap.size:=by unfold zaQ;simp [World.setCell]
  have c:w.heap[p.block]?=none:=Array.getElem?_eq_none (by omega);have e2:(zaQ w b u0 u1 u2 u3 u4 u5 u6 u7).heap[p.block]?=none:=Array.getElem?_eq_none (by omega);unfold World.cell?;rw [c,e2]
def zrJ(w:World)(F:Nat->Prop)(bt:Nat)(S:St8)(nq:Nat):Prop:=
 ∃ (AL:Option Addr) (cL:Nat) (AT:Option Addr) (cT:Nat) (R:Option Addr) (c:Nat) (vs:List za3) (AU:Option Addr) (cU:Nat) (us:List EV) (AV:Option Addr) (cV:Nat) (ls:List EV) (AC:Option Addr) (cC:Nat),
  Blk w bt 36 #[slice AL (zac (S.rs.take S.m)).length cL,slice AT (zac (S.rs.drop S.m)).length cT,int i64 (nq:Int),slice R vs.length c,int i64 (S.m:Int),slice AU us.length cU,slice AV ls.length cV,slice AC S.acks.length cC]/\RefTR w (zam F bt) S AL cL AT cT R c vs AU cU us AV cV ls AC cC/\¬ F bt
theorem zrJ.to{w w1:World}{F F':Nat->Prop}{bt nq:Nat}{S:St8}(h:zrJ w F bt S nq)(hf:∀ k,F' k->F k\/w.heap.size<=k)(ht:Touch F w w1):zrJ w1 F' bt S nq:=by
 obtain⟨AL,cL,AT,cT,R,c,vs,AU,cU,us,AV,cV,ls,AC,cC,h1,h2,h3⟩:=h;refine⟨AL,cL,AT,cT,R,c,vs,AU,cU,us,AV,cV,ls,AC,cC,zi0 h1 ht h3,h2.step (ht.mono fun k hk=>Or.inl hk) (fun k hk=>?_),fun hx=>?_⟩
 ·rcases hk with h4|h4
  ·rcases hf k h4 with h5|h5
   ·exact Or.inl (Or.inl h5)
   ·exact Or.inr h5
  ·exact Or.inl (Or.inr h4)
 ·rcases hf bt hx with h4|h4
  ·exact h3 h4
  ·have:=h1.lt;omega
theorem zrJ.below{w w1:World}{F:Nat->Prop}{bt nq:Nat}{S:St8}(h:zrJ w F bt S nq)(hb:Below w.heap.size w w1):zrJ w1 F bt S nq:=h.to (fun k hk=>Or.inl hk) (Touch.ofBelow hb)
theorem zw9{w:World}{b i g:Nat}{x:Option Value}{u0 u1 u2 u3 u4 u5 u6 u7:Value}(h:w.cell? ⟨b,i,none⟩=x)(c:b≠g):(((((((((w).setCell ⟨g,0,none⟩ (u0)).setCell ⟨g,1,none⟩ (u1)).setCell ⟨g,2,none⟩ (u2)).setCell ⟨g,3,none⟩ (u3)).setCell ⟨g,4,none⟩ (u4)).setCell ⟨g,5,none⟩ (u5)).setCell ⟨g,6,none⟩ (u6)).setCell ⟨g,7,none⟩ (u7)).cell? ⟨b,i,none⟩=x:=by
 have a:=(zrD (w:=w) (b:=g) (u0:=u0) (u1:=u1) (u2:=u2) (u3:=u3) (u4:=u4) (u5:=u5) (u6:=u6) (u7:=u7) (p:=⟨b,i,none⟩) c);unfold zaQ at a;exact a.trans h
theorem zf5{w:World}{b o:Nat}{a:List Value}(d:Obj)(h:w.rangeAt b o a):(w.alloc d).rangeAt b o a:=fun i v c=>zdN _ (h i v c)
theorem zh7{w:World}{b o:Nat}{a:List Value}(h:w.rangeAt b o a):w.drew.rangeAt b o a:=fun i v c=>h i v c
theorem zwA{w:World}{b o g:Nat}{a:List Value}{u0 u1 u2 u3 u4 u5 u6 u7:Value}(h:w.rangeAt b o a)(c:b≠g):(((((((((w).setCell ⟨g,0,none⟩ (u0)).setCell ⟨g,1,none⟩ (u1)).setCell ⟨g,2,none⟩ (u2)).setCell ⟨g,3,none⟩ (u3)).setCell ⟨g,4,none⟩ (u4)).setCell ⟨g,5,none⟩ (u5)).setCell ⟨g,6,none⟩ (u6)).setCell ⟨g,7,none⟩ (u7)).rangeAt b o a:=fun i v d=>zw9 (h i v d) c
theorem zmq{w:World}{b:Nat}{k g a l c j d m:Value}(h:Blk w b 36 #[k,g,a,l,c,j,d,m]):w.rangeAt b 0 [k,g,a,l,c,j,d,m]:=fun i v o=>by
 rw [Nat.zero_add,h.cell i];simpa using o
theorem zmr{C B W:World}{F:Nat->Prop}{g d q q3:Nat}{S a:St8}{ps:zcS}{M R K Q O J I T:Value}{s i u z h p:Option Addr}{o t c3 l x r:Nat}{v:List za3}{j A:List EV}(L:Sv1 C B F g S ps q)(G:Below B.heap.size B W)(E:Blk B d 36 #[M,R,K,Q,O,J,I,T])(D:¬ F d)(N:C.heap.size<=d)
 (hl:RefTR W (zam F d) a s o i t u c3 v z l j h x A p r) :
 Sv1 C (zaQ W d (slice s (zac (a.rs.take a.m)).length o) (slice i (zac (a.rs.drop a.m)).length t) (int i64 (q3:Int)) (slice u v.length c3) (int i64 (a.m:Int)) (slice z j.length l) (slice h A.length x) (slice p a.acks.length r)) F g S ps q/\zrJ (zaQ W d (slice s (zac (a.rs.take a.m)).length o) (slice i (zac (a.rs.drop a.m)).length t) (int i64 (q3:Int)) (slice u v.length c3) (int i64 (a.m:Int)) (slice z j.length l) (slice h A.length x) (slice p a.acks.length r)) F d a q3:=by
 have ht:=(zai (F:=fun _=>False) (w:=W) (b:=d) (slice s (zac (a.rs.take a.m)).length o) (slice i (zac (a.rs.drop a.m)).length t) (int i64 (q3:Int)) (slice u v.length c3) (int i64 (a.m:Int)) (slice z j.length l) (slice h A.length x) (slice p a.acks.length r));refine⟨(L.below G).touch ht (fun k c y=>?_) (fun k c=>?_),⟨s,o,i,t,u,c3,v,z,l,j,h,x,A,p,r,(zay (E.below G E.lt) _ _ _ _ _ _ _ _).1,hl.step (zai _ _ _ _ _ _ _ _) (fun k c=>Or.inl c),D⟩⟩
 ·rcases y with y|y
  ·exact y
  ·exact D (y▸c)
 ·rcases c with c|c
  ·exact c.elim
  ·rw [c];exact N
theorem zrE{w w':World}{b:Nat}{A:Option Addr}{c:List MV}(h:MsN (fun k=>k=b) w A c)(ht:Touch (zam (fun _=>False) b) w w'):MsN (fun k=>k=b) w' A c:=
 zdS (zed (zdS h (G:=zam (fun _=>False) b) fun k a=>a.elim (fun h=>h.elim) fun h=>h) ht) fun k a=>Or.inr a
def zwB(w wr:World)(bt g k:Nat):Prop:=
 ∃ (F:Nat->Prop) (S:St8) (ps:zcS) (q nq:Nat),q<=k/\nq<=k/\RunI S ps k/\Sv1 w wr F g S ps q/\zrJ wr F bt S nq/\w.heap.size<=bt
theorem zkO(S:St8)(ps:zcS)(kind:Int)(m:MsgP)(kept:Int):(opS S ps kind m kept).out.length<=S.acks.length+1:=by
 unfold opS;split
 ·unfold zea;split
  ·show 1<=_;omega
  ·exact Nat.zero_le _
 split
 ·show(S.acks.map zg3).length<=_
  rw [List.length_map];omega
 split
 ·exact Nat.zero_le _
 split
 ·exact Nat.zero_le _
 ·exact Nat.zero_le _
theorem steps14_walk(A:Option Addr)(rs:List O14)(n c:Nat)(key:List UInt8)(ce:key.length<=maxLen)(hn:n=rs.length)(cG:n<=676622540150)(w:World)(ht:KT w)(h:InO w A rs) :
 Calls Tryz.prog 3 #[slice A n c,.string ⟨key.toArray⟩] w (zvk w):=by
 have dm:=zhd (zoG n c A rs hn (by unfold maxLen;omega) w h);have dM:=zhd h;have cY:=zhd ht;have HN:=zhd hn;have bd:=zhd cG;have dQ:=zhd ce;have eY:(n:Int)<=676622540150:=by omega
 have fk:(0:Int)<=(n:Int):=by omega
 have fc:(key.length:Int)<=9223372036854775807:=by unfold maxLen at ce;omega
 have da:∀ w1,Below w.heap.size w w1->Calls Tryz.prog 10 #[] w1 (zvk w):=fun w1 p=>(zmp w1 (ht.below p)).mono fun e l ⟨he,hb2⟩=>⟨he,p.trans (hb2.mono p.size)⟩;have cq:=zhd da;clear h hn cG ce da ht;go_enter Tryz.func3,Tryz.ntmps3
 go_wp2_with fail
 refine dm.out.mono ?_;rintro e w0 ⟨lb,rfl,p⟩;have aL:=zhd p;clear dm p;by_cases df:2000<lb
 ·go_wp2_with fail
  refine(cq.out _ aL.out).mono ?_;rintro e w1 ⟨rfl,p⟩;have HB:=zhd p;clear p;go_wp2;go_ret;exact⟨rfl,HB.out⟩
 have ec:decide (2000<lb)=false:=decide_eq_false df;clear df;by_cases aq:(300:Int)<(key.length:Int)
 ·have fz:decide ((300:Int)<(key.length:Int))=true:=decide_eq_true aq;go_wp2_with fail
  refine(cq.out _ aL.out).mono ?_;rintro e w1 ⟨rfl,p⟩;have HB:=zhd p;clear p;go_wp2;go_ret;exact⟨rfl,HB.out⟩
 have dY:decide ((300:Int)<(key.length:Int))=false:=decide_eq_false aq;clear aq;have aJ:=zhd (dM.out.move aL.out);have HT:=zhd (cY.out.below aL.out);clear dM cY;go_wp2_with fail
 refine(zkv w0).mono ?_;rintro e w1 ⟨g0,F0,rfl,hF,hd,p⟩;have bv:Hid (Sv1 w0 w1 F0 g0 st0 [] 0):=zhd ⟨hF,hd,p⟩;simp only [id];clear hF hd p ec dY;have dw:Hid (Sv1 w0 (w1.alloc (.cells #[slice none 0 0,slice none 0 0,int i64 0,slice none 0 0,int i64 0,slice none 0 0,slice none 0 0,slice none 0 0] 36)) F0 g0 st0 [] 0):=zhd (bv.out.below (zbl));have ax:Hid (zrJ (w1.alloc (.cells #[slice none 0 0,slice none 0 0,int i64 0,slice none 0 0,int i64 0,slice none 0 0,slice none 0 0,slice none 0 0] 36)) F0 w1.heap.size st0 0):=zhd
  ⟨none,0,none,0,none,0,[],none,0,[],none,0,[],none,0,Blk.new _ _ _,⟨rfl,⟨Nat.le_refl _,Nat.le_refl _,Nat.le_refl _,Or.inl rfl,Or.inl rfl,Or.inl rfl,fun v hv=>by cases hv⟩,rfl,Nat.le_refl _,⟨Or.inl rfl,fun y hy=>by cases hy⟩,rfl,Nat.le_refl _,⟨Or.inl rfl,fun y hy=>by cases hy⟩,Or.inl rfl,Nat.le_refl _⟩,fun hf=>by have:=bv.out.at_.lt _ hf;omega⟩
 have bg:Hid (w0.heap.size<=w1.heap.size):=zhd bv.out.bel.size;obtain⟨E,dH⟩:∃ E,w1.heap.size=E:=⟨_,rfl⟩;rw [dH] at ax bg;clear bv;go_wp2_with fail
 clear dH;go_loopw [5,7] (fun z i wr=>∃ k:Nat,k<=n/\i=int i64 k/\∃ g,z=.pointer (some ⟨g,0,none⟩)/\Hid (zwB w0 wr E g k)) (fun _ i _=>n - (intOf i).toNat)
 case atStart=>exact⟨0,by omega,rfl,g0,rfl,zhd ⟨F0,st0,[],0,0,by omega,by omega,ztx,dw.out,ax.out,bg.out⟩⟩
 case round=>
  obtain⟨k,hk,rfl,g,rfl,HK⟩:=hrel;obtain⟨F,S,ps,q,nq,hq,di,dK,hd,he,_⟩:=HK.out;have HD:=zhd hd;have HE:=zhd he;have HQ:=zhd (And.intro hq di);have aN:=zhd dK;clear HK hd he hq di dK dw ax;by_cases eF:k<n
  ·have aS:k<rs.length:=by rw [<-HN.out];exact eF
   obtain⟨b,o,rfl,ew,_⟩:=zmg (aJ.out.rowAt (Below.refl _ _)) (by omega);have bV:∀ W,Below w0.heap.size w0 W->W.rangeAt b (o+k*19) (oC rs[k]):=fun W p i v hv=>by
    obtain⟨b',o',e,_,hc⟩:=zmg (aJ.out.rowAt p) (by omega);injection e with e;injection e with e1 e2;subst e1;subst e2;exact hc k aS i v hv
   have C:=zkM aJ.out HT.out HD.out aS (by have:=HQ.out;have:=bd.out;omega) aN.out (by have:=bd.out;omega);have cb:∀ W,Below w0.heap.size w0 W->MsgM W rs[k].m:=fun W p=>aJ.out.msg p aS;have cm:=(aJ.out.ok rs[k] (List.getElem_mem aS)).p1;have cj:∀ W,Below w0.heap.size w0 W->Row W w0.heap.size rs[k].m.e.2.1 (rs[k].m.e.1.v.map zaa):=fun W p=>(aJ.out.ok rs[k] (List.getElem_mem aS)).m.ev.row.below p;obtain⟨r,du⟩:∃ y,rs[k]=y:=⟨_,rfl⟩;rw [du] at bV C cb cm cj;have bY:∀ W (G:Nat->Prop) v,(∀ j,G j->j<W.heap.size)->Below w0.heap.size w0 W->zbD G S nq W v->zaK G W r.m.e.2.1 (r.m.e.1.v.map zaa)->Calls Tryz.prog 13 #[v,.agg ⟨oC r⟩] W (zjh G (opS S ps r.kind (mP r.m) r.kept).S (opS S ps r.kind (mP r.m) r.kept).out (opS S ps r.kind (mP r.m) r.kept).err nq W):=fun W G v hG dZ hv ej=>by
    obtain⟨K,FS,hs⟩:=HD.out.at_.stAt;have hm:=zfl hs;exact zjl G S ps nq r cm HD.out.at_.short aN.out.keys (znt HD.out.at_) ⟨by have:=HQ.out;have:=bd.out;omega,hs.ok,hs.mx,hs.ok.nOk,hm.2,by have:=aN.out.acks;have:=bd.out;omega⟩ W hG (cb W dZ) ej v hv
   have bT:=fun w1 F1 g1 q1 h=>zrB (w1:=w1) (F1:=F1) (g1:=g1) (q1:=q1) aN.out r.kind (mP r.m) r.kept HD.out.at_ h;have bU:(opS S ps r.kind (mP r.m) r.kept).out.length<=676622540151:=by
    have B:=zkO S ps r.kind (mP r.m) r.kept;have h2:=aN.out.acks;have h3:=bd.out;omega
   obtain⟨⟨a,p2,eD,er⟩,hR⟩:∃ R,opS S ps r.kind (mP r.m) r.kept=R:=⟨_,rfl⟩;rw [hR] at C bY bT bU;simp only at bY bT bU;have cN:=zhd bT;have dD:=zhd bY;have HC:=zhd C;have eA:=zhd bU;have cM:Hid (wr.rangeAt b (o+k*19) (oC r)):=zhd (bV wr HD.out.bel);have aV:Hid (∀ W,Below w0.heap.size w0 W->W.rangeAt b (o+k*19) (oC r)):=zhd bV;have ek:=zhd cj;have fa:(0:Int)<=(k:Int):=by omega
   have fw:(k:Int)<(n:Int):=by omega
   clear C ew hR du bV cb cm cj bY bT bU;go_wp2_with (refine wpList_load_mid rfl 53 _ rfl b (o+k*19) rfl (oC r) _ (show _ from cM.out) Tryz.underlying53 rfl (by kernel_rfl) ?_)
   refine HC.out.mono ?_;rintro e l ⟨g2,F2,q2,um,A2,c2,rfl,hu,hn,hf,eC,hs,aI⟩;have dq:=zhd (HE.out.to hf aI);have am:=zhd (HD.out.to hf hs aI);have dn:=zhd (cN.out _ _ _ _ hs);simp only at am dn ⊢;obtain⟨AL,cL,AT,cT,R,c,I,AU,cU,us,AV,cV,ls,AC,cC,aq,aK,aU⟩:=dq.out;have eG:E<wr.heap.size:=by obtain⟨_,_,_,_,_,_,_,_,_,_,_,_,_,_,_,B,_⟩:=HE.out;exact B.lt
   obtain⟨X0,bp⟩:∃ X:Value,X=slice AL (zac (S.rs.take S.m)).length cL:=⟨_,rfl⟩;obtain⟨X1,bw⟩:∃ X:Value,X=slice AT (zac (S.rs.drop S.m)).length cT:=⟨_,rfl⟩;obtain⟨X2,bz⟩:∃ X:Value,X=int i64 (nq:Int):=⟨_,rfl⟩;obtain⟨X3,bG⟩:∃ X:Value,X=slice R I.length c:=⟨_,rfl⟩;obtain⟨X4,bx⟩:∃ X:Value,X=int i64 (S.m:Int):=⟨_,rfl⟩;obtain⟨X5,bA⟩:∃ X:Value,X=slice AU us.length cU:=⟨_,rfl⟩;obtain⟨X6,bq⟩:∃ X:Value,X=slice AV ls.length cV:=⟨_,rfl⟩;obtain⟨X7,bM⟩:∃ X:Value,X=slice AC S.acks.length cC:=⟨_,rfl⟩;rw [<-bp,<-bw,<-bz,<-bG,<-bx,<-bA,<-bq,<-bM] at aq;have dj:Hid ((#[X0,X1,X2,X3,X4,X5,X6,X7]:Array Value).toList.all zrz=true):=zhd (by rw [bp,bw,bz,bG,bx,bA,bq,bM];rfl);have t:=zhd aq;have eb:=zhd aK;have ef:=zhd aU;have dG:Hid (q2<=k+1):=zhd (by have:=HQ.out;omega);have dB:Hid (nq<=k):=zhd HQ.out.2;obtain⟨N2,bZ⟩:∃ N,um.length=N:=⟨_,rfl⟩;have dX:=zhd bZ;have cf:=zhd hu;simp only at cf;have eo:Hid (N2<=676622540151):=zhd (by
    have B:=congrArg List.length cf.out;rw [List.length_map,bZ] at B;rw [B];exact eA.out)
   have dx:Hid (MsN (fun j=>j=E) l A2 um):=zhd (hn.mono fun j T=>Or.inr (show j<wr.heap.size from by have B:j=E:=T;omega));rw [bZ];have bD:(∀ W (G:Nat->Prop),Below l.heap.size l W->(∀ j,G j->zam F2 E j\/l.heap.size<=j)->(∀ j,G j->j<W.heap.size)->Calls Tryz.prog 13 #[.agg #[slice AL (zac (S.rs.take S.m)).length cL,slice AT (zac (S.rs.drop S.m)).length cT,int i64 (nq:Int),slice R I.length c,int i64 (S.m:Int),slice AU us.length cU,slice AV ls.length cV,slice AC S.acks.length cC],.agg (oC r).toArray] W (zjh G a eD er nq W)):=fun W G p hG dO=>by
    have dP:∀ j,G j->w0.heap.size<=j:=fun j T=>by
     rcases hG j T with B|B
     ·rcases B with B|B
      ·exact am.out.new j B
      ·have:=bg.out;omega
     ·exact Nat.le_trans am.out.bel.size B
    have ca:=am.out.bel.trans (p.mono am.out.bel.size);exact dD.out W G _ dO ca ⟨AL,cL,AT,cT,R,c,I,AU,cU,us,AV,cV,ls,AC,cC,rfl,eb.out.step (Touch.ofBelow p) hG⟩ (zaK.of_low (ek.out W ca) ca.size dP)
   rw [<-bp,<-bw,<-bz,<-bG,<-bx,<-bA,<-bq,<-bM] at bD;have dJ:(Tryz.prog.info? 53).map (·.size)=some (oC r).length:=by kernel_rfl
   have ct:∀ W:World,W.rangeAt b (o+k*19) (oC r)->b<W.heap.size:=fun W h=>zaq (h 0 _ rfl);have cu:=aV.out;obtain⟨CC,de⟩:∃ C,oC r=C:=⟨_,rfl⟩;rw [de] at bD cu dJ ct;have HS:=zhd bD;replace aV:=zhd cu;clear bD cu de bp bw bz bG bx bA bq bM;have d0:=aV.out l am.out.bel;have t0:=zmq t.out;obtain⟨e1,aM⟩:∃ n,(zac (a.rs.take a.m)).length=n:=⟨_,rfl⟩;obtain⟨e2,aO⟩:∃ n,(zac (a.rs.drop a.m)).length=n:=⟨_,rfl⟩;obtain⟨e3,aG⟩:∃ n,a.m=n:=⟨_,rfl⟩;obtain⟨e4,aH⟩:∃ n,a.acks.length=n:=⟨_,rfl⟩;have ax:=zhd aM;have bW:=zhd aO;have br:=zhd aG;have bH:=zhd aH;clear aM aO aG aH;have bO:Hid (Below l.heap.size l l.drew):=zhd (Below.refl _ _).drew;have bm:Hid (Below l.heap.size l (l.alloc (.cells #[slice none 0 0,slice none 0 0,int i64 0,slice none 0 0,int i64 0,slice none 0 0,slice none 0 0,slice none 0 0] 36)).drew):=zhd (zbl).drew;have bI:Hid (Blk (l.alloc (.cells #[slice none 0 0,slice none 0 0,int i64 0,slice none 0 0,int i64 0,slice none 0 0,slice none 0 0,slice none 0 0] 36)).drew l.heap.size 36 #[slice none 0 0,slice none 0 0,int i64 0,slice none 0 0,int i64 0,slice none 0 0,slice none 0 0,slice none 0 0]):=zhd (Blk.new _ _ _).drew;have cD:Hid (∀ j,zam F2 E j->j<l.drew.heap.size):=zhd fun j T=>by
    rcases T with B|B
    ·exact am.out.at_.lt j B
    ·subst B;exact t.out.lt
   have dR:Hid (∀ j,zam (zam F2 E) l.heap.size j->j<(l.alloc (.cells #[slice none 0 0,slice none 0 0,int i64 0,slice none 0 0,int i64 0,slice none 0 0,slice none 0 0,slice none 0 0] 36)).drew.heap.size):=zhd fun j T=>by
    rcases T with B|B
    ·exact Nat.lt_of_lt_of_le (cD.out j B) bm.out.size
    ·subst B;exact bI.out.lt
   have fo:E<l.heap.size:=t.out.lt;have eV:b<l.heap.size:=ct l d0;clear ct;clear hu hn hf eC hs aI eG bZ HC HD HE dq HQ dD cN cM aq aK aU;go_wp2_with fail
   refine wp_region_held_drew (S:=(fun w'=>w'.rangeAt E 0 [X0,X1,X2,X3,X4,X5,X6,X7]/\w'.rangeAt b (o+k*19) CC)) (by kernel_rfl) ⟨zh7 t0,zh7 d0⟩ (fun ai=>?_);refine wpAnyH_take (i:=0) rfl (by kernel_rfl) (by kernel_rfl) (by kernel_rfl) (fun _ _ _ h=>h) (yieldsIf_load_mid (by rfl) _ _ rfl E (0) rfl [X0,X1,X2,X3,X4,X5,X6,X7] _ (fun _ h=>h.1) Tryz.underlying36 rfl (by kernel_rfl)) ai ?_
   (try simp only [Act.put,List.setIfInBounds_toArray,List.set_cons_zero,List.set_cons_succ])
   refine wpAnyH_take (i:=1) (v:=?v1) rfl (by kernel_rfl) (by kernel_rfl) (by kernel_rfl) (fun _ _ _ h=>h) (Or.inl ⟨by rfl,?y1⟩) ai ?r1
   case y1=>(intro w al;go_simp<;>with_reducible rfl)
   (try simp only [Act.put,List.setIfInBounds_toArray,List.set_cons_zero,List.set_cons_succ])
   refine wpAnyH_take (i:=2) (v:=?v2) rfl (by kernel_rfl) (by kernel_rfl) (by kernel_rfl) (fun _ _ _ h=>h) (Or.inl ⟨by rfl,?y2⟩) ai ?r2
   case y2=>(intro w al;go_simp<;>with_reducible rfl)
   (try simp only [Act.put,List.setIfInBounds_toArray,List.set_cons_zero,List.set_cons_succ])
   refine wpAnyH_take (i:=3) (v:=?v3) rfl (by kernel_rfl) (by kernel_rfl) (by kernel_rfl) (fun _ _ _ h=>h) (Or.inl ⟨by rfl,?y3⟩) ai ?r3
   case y3=>(intro w al;go_simp<;>with_reducible rfl)
   (try simp only [Act.put,List.setIfInBounds_toArray,List.set_cons_zero,List.set_cons_succ])
   refine wpAnyH_take (i:=4) rfl (by kernel_rfl) (by kernel_rfl) (by kernel_rfl) (fun _ _ _ h=>h) (yieldsIf_load_mid (by rfl) _ _ rfl b (o+k*19) rfl CC _ (fun _ h=>h.2) Tryz.underlying53 rfl dJ) ai ?_
   (try simp only [Act.put,List.setIfInBounds_toArray,List.set_cons_zero,List.set_cons_succ])
   refine wpAnyH_ready (rs:=[5,10]) (by kernel_rfl) (by simp) ?_;refine AllReadyH.cons rfl (fun K hK=>?_) (AllReadyH.cons rfl (fun K hK=>?_) (AllReadyH.nil))
   focus
    go_simp
    go_at_call 13;refine(HS.out _ (zam F2 E) bO.out (fun j T=>Or.inl T) cD.out).mono ?_;rintro e D ⟨v3,aA,A3,c4,q3,rfl,aX,aY,ao,⟨af,Z,Q,aa,R3,c3,ag,ab,Y,M,V,O,ah,ae,U,rfl,aW⟩,ak⟩;rw [ax.out,bW.out,br.out,bH.out];obtain⟨N3,ay⟩:∃ N,aA.length=N:=⟨_,rfl⟩;rw [ay];have dA:=zhd ay;have dv:=zhd aY;have bk:=zhd ao;have cx:=zhd aX;have bJ:=zhd aW;have an:=zhd (bO.out.trans (ak.mono bO.out.size));have f0:D.rangeAt E 0 [X0,X1,X2,X3,X4,X5,X6,X7]:=zmq (t.out.below an.out t.out.lt);have f1:=aV.out D (am.out.bel.trans (an.out.mono am.out.bel.size));clear aW ak aY ao aX ay
    go_wp2_with fail
    refine hK.out _ _ ⟨f0,f1⟩ (fun ai=>?_);clear hK K
    (try simp only [Act.put,List.setIfInBounds_toArray,List.set_cons_zero,List.set_cons_succ])
    refine wpAnyH_take (i:=6) (v:=?v6) rfl (by kernel_rfl) (by kernel_rfl) (by kernel_rfl) (fun _ _ _ h=>h) (Or.inl ⟨by rfl,?y6⟩) ai ?r6
    case y6=>(intro w al;go_simp<;>with_reducible rfl)
    (try simp only [Act.put,List.setIfInBounds_toArray,List.set_cons_zero,List.set_cons_succ])
    refine wpAnyH_take (i:=7) (v:=?v7) rfl (by kernel_rfl) (by kernel_rfl) (by kernel_rfl) (fun _ _ _ h=>h) (Or.inl ⟨by rfl,?y7⟩) ai ?r7
    case y7=>(intro w al;go_simp<;>with_reducible rfl)
    (try simp only [Act.put,List.setIfInBounds_toArray,List.set_cons_zero,List.set_cons_succ])
    refine wpAnyH_take (i:=8) (v:=?v8) rfl (by kernel_rfl) (by kernel_rfl) (by kernel_rfl) (fun _ _ _ h=>h) (Or.inl ⟨by rfl,?y8⟩) ai ?r8
    case y8=>(intro w al;go_simp<;>with_reducible rfl)
    (try simp only [Act.put,List.setIfInBounds_toArray,List.set_cons_zero,List.set_cons_succ])
    refine wpAnyH_take (i:=9) (v:=?v9) rfl (by kernel_rfl) (by kernel_rfl) (by kernel_rfl) (fun _ _ _ h=>h) (Or.inl ⟨by rfl,?y9⟩) ai ?r9
    case y9=>(intro w al;go_simp<;>with_reducible rfl)
    (try simp only [Act.put,List.setIfInBounds_toArray,List.set_cons_zero,List.set_cons_succ])
    refine wpAnyH_ready (rs:=[10]) (by kernel_rfl) (by simp) ?_;refine AllReadyH.cons rfl (fun K hK=>?_) (AllReadyH.nil);go_simp
    refine hK.out _ _ ⟨zf5 _ f0,zf5 _ f1⟩ (fun ai=>?_);clear hK K
    (try simp only [Act.put,List.setIfInBounds_toArray,List.set_cons_zero,List.set_cons_succ])
    refine wpAnyH_ready (rs:=[11]) (by kernel_rfl) (by simp) ?_;refine AllReadyH.cons rfl (fun K hK=>?_) (AllReadyH.nil);go_simp
    refine hK.out _ _ ⟨zf5 _ f0,zf5 _ f1⟩ (fun ai=>?_);clear hK K
    (try simp only [Act.put,List.setIfInBounds_toArray,List.set_cons_zero,List.set_cons_succ])
    refine wpAnyH_take (i:=12) (v:=?v12) rfl (by kernel_rfl) (by kernel_rfl) (by kernel_rfl) (fun _ _ _ h=>h) (Or.inl ⟨by rfl,?y12⟩) ai ?r12
    case y12=>(intro w al;go_simp<;>with_reducible rfl)
    (try simp only [Act.put,List.setIfInBounds_toArray,List.set_cons_zero,List.set_cons_succ])
    refine wpAnyH_take (i:=13) (v:=?v13) rfl (by kernel_rfl) (by kernel_rfl) (by kernel_rfl) (fun _ _ _ h=>h) (Or.inl ⟨by rfl,?y13⟩) ai ?r13
    case y13=>(intro w al;go_simp<;>with_reducible rfl)
    (try simp only [Act.put,List.setIfInBounds_toArray,List.set_cons_zero,List.set_cons_succ])
    refine wpAnyH_done (by kernel_rfl) ?_ _;have aM:=ax.out;have aO:=bW.out;have aG:=br.out;have aH:=bH.out;subst aH;subst aM;subst aO;subst aG;obtain⟨W5,bP⟩:∃ W,D.alloc (.cells #[slice af (zac (a.rs.take a.m)).length Z,slice Q (zac (a.rs.drop a.m)).length aa,int i64 (q3:Int),slice R3 ag.length c3,int i64 (a.m:Int),slice ab M.length Y,slice V ah.length O,slice ae a.acks.length U] 36)=W:=⟨_,rfl⟩;have cd:Hid (q2<=k+1/\q3<=k+1):=zhd ⟨dG.out,by have:=dB.out;have:=cx.out;omega⟩;have J:Hid (Blk (D.alloc (.cells #[slice af (zac (a.rs.take a.m)).length Z,slice Q (zac (a.rs.drop a.m)).length aa,int i64 (q3:Int),slice R3 ag.length c3,int i64 (a.m:Int),slice ab M.length Y,slice V ah.length O,slice ae a.acks.length U] 36)) D.heap.size 36 #[slice af (zac (a.rs.take a.m)).length Z,slice Q (zac (a.rs.drop a.m)).length aa,int i64 (q3:Int),slice R3 ag.length c3,int i64 (a.m:Int),slice ab M.length Y,slice V ah.length O,slice ae a.acks.length U]/\Below l.heap.size l (D.alloc (.cells #[slice af (zac (a.rs.take a.m)).length Z,slice Q (zac (a.rs.drop a.m)).length aa,int i64 (q3:Int),slice R3 ag.length c3,int i64 (a.m:Int),slice ab M.length Y,slice V ah.length O,slice ae a.acks.length U] 36))/\RefTR (D.alloc (.cells #[slice af (zac (a.rs.take a.m)).length Z,slice Q (zac (a.rs.drop a.m)).length aa,int i64 (q3:Int),slice R3 ag.length c3,int i64 (a.m:Int),slice ab M.length Y,slice V ah.length O,slice ae a.acks.length U] 36)) (zam F2 E) a af Z Q aa R3 c3 ag ab Y M V O ah ae U/\MsN (fun j=>j=E) (D.alloc (.cells #[slice af (zac (a.rs.take a.m)).length Z,slice Q (zac (a.rs.drop a.m)).length aa,int i64 (q3:Int),slice R3 ag.length c3,int i64 (a.m:Int),slice ab M.length Y,slice V ah.length O,slice ae a.acks.length U] 36)) A2 um/\MsN (fun j=>j=E) (D.alloc (.cells #[slice af (zac (a.rs.take a.m)).length Z,slice Q (zac (a.rs.drop a.m)).length aa,int i64 (q3:Int),slice R3 ag.length c3,int i64 (a.m:Int),slice ab M.length Y,slice V ah.length O,slice ae a.acks.length U] 36)) A3 aA):=zhd (by
     have bu:Below D.heap.size D (D.alloc (.cells #[slice af (zac (a.rs.take a.m)).length Z,slice Q (zac (a.rs.drop a.m)).length aa,int i64 (q3:Int),slice R3 ag.length c3,int i64 (a.m:Int),slice ab M.length Y,slice V ah.length O,slice ae a.acks.length U] 36)):=zbl;exact⟨Blk.new _ _ _,an.out.trans (bu.mono an.out.size),bJ.out.below bu,(dx.out.below an.out).below bu,(bk.out.2 E _ _ (t.out.below bO.out t.out.lt) dj.out).below bu⟩)
   rotate_left
   focus
    go_simp
    refine hK.out _ _ (by first|exact⟨zf5 _ (zh7 t0),zf5 _ (zh7 d0)⟩|exact⟨zh7 (zf5 _ t0),zh7 (zf5 _ d0)⟩) (fun ai=>?_);clear hK K
    (try simp only [Act.put,List.setIfInBounds_toArray,List.set_cons_zero,List.set_cons_succ])
    refine wpAnyH_ready (rs:=[5]) (by kernel_rfl) (by simp) ?_;refine AllReadyH.cons rfl (fun K hK=>?_) (AllReadyH.nil);go_simp
    go_at_call 13;refine(HS.out _ (zam (zam F2 E) l.heap.size) bm.out (fun j T=>by rcases T with B|B;exact Or.inl B;exact Or.inr (by omega)) dR.out).mono ?_;rintro e D ⟨v3,aA,A3,c4,q3,rfl,aX,aY,ao,⟨af,Z,Q,aa,R3,c3,ag,ab,Y,M,V,O,ah,ae,U,rfl,aW⟩,ak⟩;rw [ax.out,bW.out,br.out,bH.out];obtain⟨N3,ay⟩:∃ N,aA.length=N:=⟨_,rfl⟩;rw [ay];have dA:=zhd ay;have dv:=zhd aY;have bk:=zhd ao;have cx:=zhd aX;have bJ:=zhd aW;have an:=zhd (bm.out.trans (ak.mono bm.out.size));have aj:=zhd (bI.out.below ak bI.out.lt);have eN:=zhd ak;have f0:D.rangeAt E 0 [X0,X1,X2,X3,X4,X5,X6,X7]:=zmq (t.out.below an.out t.out.lt);have f1:=aV.out D (am.out.bel.trans (an.out.mono am.out.bel.size));have x0:=aj.out.cell 0;have y0:=aj.out.frozen 0;have x1:=aj.out.cell 1;have y1:=aj.out.frozen 1;have x2:=aj.out.cell 2;have y2:=aj.out.frozen 2;have x3:=aj.out.cell 3;have y3:=aj.out.frozen 3;have x4:=aj.out.cell 4;have y4:=aj.out.frozen 4;have x5:=aj.out.cell 5;have y5:=aj.out.frozen 5;have x6:=aj.out.cell 6;have y6:=aj.out.frozen 6;have x7:=aj.out.cell 7;have y7:=aj.out.frozen 7;clear aW ak aY ao aX ay
    go_wp2_with fail
    refine hK.out _ _ ⟨f0,f1⟩ (fun ai=>?_);clear hK K
    (try simp only [Act.put,List.setIfInBounds_toArray,List.set_cons_zero,List.set_cons_succ])
    refine wpAnyH_take (i:=6) (v:=?v6a) rfl (by kernel_rfl) (by kernel_rfl) (by kernel_rfl) (fun _ _ _ h=>h) (Or.inl ⟨by rfl,?y6a⟩) ai ?r6a
    case y6a=>(intro w al;go_simp<;>with_reducible rfl)
    (try simp only [Act.put,List.setIfInBounds_toArray,List.set_cons_zero,List.set_cons_succ])
    refine wpAnyH_take (i:=7) (v:=?v7a) rfl (by kernel_rfl) (by kernel_rfl) (by kernel_rfl) (fun _ _ _ h=>h) (Or.inl ⟨by rfl,?y7a⟩) ai ?r7a
    case y7a=>(intro w al;go_simp<;>with_reducible rfl)
    (try simp only [Act.put,List.setIfInBounds_toArray,List.set_cons_zero,List.set_cons_succ])
    refine wpAnyH_take (i:=8) (v:=?v8a) rfl (by kernel_rfl) (by kernel_rfl) (by kernel_rfl) (fun _ _ _ h=>h) (Or.inl ⟨by rfl,?y8a⟩) ai ?r8a
    case y8a=>(intro w al;go_simp<;>with_reducible rfl)
    (try simp only [Act.put,List.setIfInBounds_toArray,List.set_cons_zero,List.set_cons_succ])
    refine wpAnyH_take (i:=9) (v:=?v9a) rfl (by kernel_rfl) (by kernel_rfl) (by kernel_rfl) (fun _ _ _ h=>h) (Or.inl ⟨by rfl,?y9a⟩) ai ?r9a
    case y9a=>(intro w al;go_simp<;>with_reducible rfl)
    (try simp only [Act.put,List.setIfInBounds_toArray,List.set_cons_zero,List.set_cons_succ])
    refine wpAnyH_ready (rs:=[11]) (by kernel_rfl) (by simp) ?_;refine AllReadyH.cons rfl (fun K hK=>?_) (AllReadyH.nil);go_simp
    refine hK.out _ _ ⟨zwA f0 (by omega),zwA f1 (by omega)⟩ (fun ai=>?_);clear hK K
    (try simp only [Act.put,List.setIfInBounds_toArray,List.set_cons_zero,List.set_cons_succ])
    refine wpAnyH_take (i:=12) (v:=?v12a) rfl (by kernel_rfl) (by kernel_rfl) (by kernel_rfl) (fun _ _ _ h=>h) (Or.inl ⟨by rfl,?y12a⟩) ai ?r12a
    case y12a=>(intro w al;go_simp<;>with_reducible rfl)
    (try simp only [Act.put,List.setIfInBounds_toArray,List.set_cons_zero,List.set_cons_succ])
    refine wpAnyH_take (i:=13) (v:=?v13a) rfl (by kernel_rfl) (by kernel_rfl) (by kernel_rfl) (fun _ _ _ h=>h) (Or.inl ⟨by rfl,?y13a⟩) ai ?r13a
    case y13a=>(intro w al;go_simp<;>with_reducible rfl)
    (try simp only [Act.put,List.setIfInBounds_toArray,List.set_cons_zero,List.set_cons_succ])
    refine wpAnyH_done (by kernel_rfl) ?_ _;have aM:=ax.out;have aO:=bW.out;have aG:=br.out;have aH:=bH.out;subst aH;subst aM;subst aO;subst aG;obtain⟨W5,bP⟩:∃ W,(((((((((D).setCell ⟨l.heap.size,0,none⟩ (slice af (zac (a.rs.take a.m)).length Z)).setCell ⟨l.heap.size,1,none⟩ (slice Q (zac (a.rs.drop a.m)).length aa)).setCell ⟨l.heap.size,2,none⟩ (int i64 (q3:Int))).setCell ⟨l.heap.size,3,none⟩ (slice R3 ag.length c3)).setCell ⟨l.heap.size,4,none⟩ (int i64 (a.m:Int))).setCell ⟨l.heap.size,5,none⟩ (slice ab M.length Y)).setCell ⟨l.heap.size,6,none⟩ (slice V ah.length O)).setCell ⟨l.heap.size,7,none⟩ (slice ae a.acks.length U))=W:=⟨_,rfl⟩;have cd:Hid (q2<=k+1/\q3<=k+1):=zhd ⟨dG.out,by have:=dB.out;have:=cx.out;omega⟩;have J:Hid (Blk (((((((((D).setCell ⟨l.heap.size,0,none⟩ (slice af (zac (a.rs.take a.m)).length Z)).setCell ⟨l.heap.size,1,none⟩ (slice Q (zac (a.rs.drop a.m)).length aa)).setCell ⟨l.heap.size,2,none⟩ (int i64 (q3:Int))).setCell ⟨l.heap.size,3,none⟩ (slice R3 ag.length c3)).setCell ⟨l.heap.size,4,none⟩ (int i64 (a.m:Int))).setCell ⟨l.heap.size,5,none⟩ (slice ab M.length Y)).setCell ⟨l.heap.size,6,none⟩ (slice V ah.length O)).setCell ⟨l.heap.size,7,none⟩ (slice ae a.acks.length U)) l.heap.size 36 #[slice af (zac (a.rs.take a.m)).length Z,slice Q (zac (a.rs.drop a.m)).length aa,int i64 (q3:Int),slice R3 ag.length c3,int i64 (a.m:Int),slice ab M.length Y,slice V ah.length O,slice ae a.acks.length U]/\Below l.heap.size l (((((((((D).setCell ⟨l.heap.size,0,none⟩ (slice af (zac (a.rs.take a.m)).length Z)).setCell ⟨l.heap.size,1,none⟩ (slice Q (zac (a.rs.drop a.m)).length aa)).setCell ⟨l.heap.size,2,none⟩ (int i64 (q3:Int))).setCell ⟨l.heap.size,3,none⟩ (slice R3 ag.length c3)).setCell ⟨l.heap.size,4,none⟩ (int i64 (a.m:Int))).setCell ⟨l.heap.size,5,none⟩ (slice ab M.length Y)).setCell ⟨l.heap.size,6,none⟩ (slice V ah.length O)).setCell ⟨l.heap.size,7,none⟩ (slice ae a.acks.length U))/\RefTR (((((((((D).setCell ⟨l.heap.size,0,none⟩ (slice af (zac (a.rs.take a.m)).length Z)).setCell ⟨l.heap.size,1,none⟩ (slice Q (zac (a.rs.drop a.m)).length aa)).setCell ⟨l.heap.size,2,none⟩ (int i64 (q3:Int))).setCell ⟨l.heap.size,3,none⟩ (slice R3 ag.length c3)).setCell ⟨l.heap.size,4,none⟩ (int i64 (a.m:Int))).setCell ⟨l.heap.size,5,none⟩ (slice ab M.length Y)).setCell ⟨l.heap.size,6,none⟩ (slice V ah.length O)).setCell ⟨l.heap.size,7,none⟩ (slice ae a.acks.length U)) (zam F2 E) a af Z Q aa R3 c3 ag ab Y M V O ah ae U/\MsN (fun j=>j=E) (((((((((D).setCell ⟨l.heap.size,0,none⟩ (slice af (zac (a.rs.take a.m)).length Z)).setCell ⟨l.heap.size,1,none⟩ (slice Q (zac (a.rs.drop a.m)).length aa)).setCell ⟨l.heap.size,2,none⟩ (int i64 (q3:Int))).setCell ⟨l.heap.size,3,none⟩ (slice R3 ag.length c3)).setCell ⟨l.heap.size,4,none⟩ (int i64 (a.m:Int))).setCell ⟨l.heap.size,5,none⟩ (slice ab M.length Y)).setCell ⟨l.heap.size,6,none⟩ (slice V ah.length O)).setCell ⟨l.heap.size,7,none⟩ (slice ae a.acks.length U)) A2 um/\MsN (fun j=>j=E) (((((((((D).setCell ⟨l.heap.size,0,none⟩ (slice af (zac (a.rs.take a.m)).length Z)).setCell ⟨l.heap.size,1,none⟩ (slice Q (zac (a.rs.drop a.m)).length aa)).setCell ⟨l.heap.size,2,none⟩ (int i64 (q3:Int))).setCell ⟨l.heap.size,3,none⟩ (slice R3 ag.length c3)).setCell ⟨l.heap.size,4,none⟩ (int i64 (a.m:Int))).setCell ⟨l.heap.size,5,none⟩ (slice ab M.length Y)).setCell ⟨l.heap.size,6,none⟩ (slice V ah.length O)).setCell ⟨l.heap.size,7,none⟩ (slice ae a.acks.length U)) A3 aA):=zhd (by
     have hf:=zay aj.out (slice af (zac (a.rs.take a.m)).length Z) (slice Q (zac (a.rs.drop a.m)).length aa) (int i64 (q3:Int)) (slice R3 ag.length c3) (int i64 (a.m:Int)) (slice ab M.length Y) (slice V ah.length O) (slice ae a.acks.length U);have aI:=zai (F:=zam F2 E) (w:=D) (b:=l.heap.size) (slice af (zac (a.rs.take a.m)).length Z) (slice Q (zac (a.rs.drop a.m)).length aa) (int i64 (q3:Int)) (slice R3 ag.length c3) (int i64 (a.m:Int)) (slice ab M.length Y) (slice V ah.length O) (slice ae a.acks.length U);have dd:=zai (F:=fun _=>False) (w:=D) (b:=l.heap.size) (slice af (zac (a.rs.take a.m)).length Z) (slice Q (zac (a.rs.drop a.m)).length aa) (int i64 (q3:Int)) (slice R3 ag.length c3) (int i64 (a.m:Int)) (slice ab M.length Y) (slice V ah.length O) (slice ae a.acks.length U);unfold zaQ at hf aI dd;have dV:MsN (fun j=>j=E\/zam (fun _=>False) l.heap.size j) D A2 um:=dx.out.to (fun j T=>by
      rcases T with B|B|B
      ·exact Or.inl B
      ·exact B.elim
      ·exact Or.inr (by omega)) (Touch.ofBelow an.out)
     have dN:MsN (fun j=>j=E\/zam (fun _=>False) l.heap.size j) D A3 aA:=ztW (bk.out.2 E _ _ (t.out.below bm.out t.out.lt) dj.out) (zdS (bk.out.2 l.heap.size _ _ bI.out rfl) fun j T=>T.elim (fun h=>h.elim) fun h=>h);have dC:=dd.mono (G:=fun j=>j=E\/zam (fun _=>False) l.heap.size j) fun j T=>Or.inr T;exact⟨hf.1,hf.2.2.1 l an.out (Nat.le_refl _),bJ.out.step aI (F':=zam F2 E) (fun j T=>Or.inl (Or.inl T)),zdS (zed dV dC) fun j T=>Or.inl T,zdS (zed dN dC) fun j T=>Or.inl T⟩)
    clear x0 y0 x1 y1 x2 y2 x3 y3 x4 y4 x5 y5 x6 y6 x7 y7
   all_goals
    rw [bP] at J;rw [bP];have u0:=J.out.1.cell 0;have u1:=J.out.1.cell 1;have u2:=J.out.1.cell 2;have u3:=J.out.1.cell 3;have u4:=J.out.1.cell 4;have u5:=J.out.1.cell 5;have u6:=J.out.1.cell 6;have u7:=J.out.1.cell 7;have v0:=(t.out.below J.out.2.1 t.out.lt).cell 0;have z0:=(t.out.below J.out.2.1 t.out.lt).frozen 0;have v1:=(t.out.below J.out.2.1 t.out.lt).cell 1;have z1:=(t.out.below J.out.2.1 t.out.lt).frozen 1;have v2:=(t.out.below J.out.2.1 t.out.lt).cell 2;have z2:=(t.out.below J.out.2.1 t.out.lt).frozen 2;have v3:=(t.out.below J.out.2.1 t.out.lt).cell 3;have z3:=(t.out.below J.out.2.1 t.out.lt).frozen 3;have v4:=(t.out.below J.out.2.1 t.out.lt).cell 4;have z4:=(t.out.below J.out.2.1 t.out.lt).frozen 4;have v5:=(t.out.below J.out.2.1 t.out.lt).cell 5;have z5:=(t.out.below J.out.2.1 t.out.lt).frozen 5;have v6:=(t.out.below J.out.2.1 t.out.lt).cell 6;have z6:=(t.out.below J.out.2.1 t.out.lt).frozen 6;have v7:=(t.out.below J.out.2.1 t.out.lt).cell 7;have z7:=(t.out.below J.out.2.1 t.out.lt).frozen 7;have HP:=zhd (zmr (q3:=q3) am.out J.out.2.1 t.out ef.out bg.out J.out.2.2.1);have ch:=zai (F:=fun _=>False) (w:=W5) (b:=E) (slice af (zac (a.rs.take a.m)).length Z) (slice Q (zac (a.rs.drop a.m)).length aa) (int i64 (q3:Int)) (slice R3 ag.length c3) (int i64 (a.m:Int)) (slice ab M.length Y) (slice V ah.length O) (slice ae a.acks.length U);have ck:=zhd (zrE J.out.2.2.2.1 ch);have cr:=zhd (zrE J.out.2.2.2.2 ch);obtain⟨W6,aE⟩:∃ W,zaQ W5 E (slice af (zac (a.rs.take a.m)).length Z) (slice Q (zac (a.rs.drop a.m)).length aa) (int i64 (q3:Int)) (slice R3 ag.length c3) (int i64 (a.m:Int)) (slice ab M.length Y) (slice V ah.length O) (slice ae a.acks.length U)=W:=⟨_,rfl⟩;rw [aE] at HP ck cr;have dU:=zhd aE;clear ch bP aE f0 f1 an bJ bk d0 t0;have fv:(er != er)=false:=by simp
    go_wp2_with fail
    have aE:=dU.out;unfold zaQ at aE;rw [aE];obtain⟨bl,bn,bi,aQ,R4,c5,aT,bj,bf,aZ,aD,aB,au,aP,bh,aq,aK,aU⟩:=HP.out.2;have az:=zhd HP.out.1;have aR:=zhd aq;have bo:=zhd aK;have dS:=zhd aU;have eB:=znt az.out.at_;have dl:au.length<=8388608:=by
     have B:=congrArg List.length aK.ln;rw [List.length_map] at B;omega
    have dT:=zhd dl;have co:Hid (∀ W,Below W6.heap.size W6 W->Blk W E 36 #[slice bl (zac (a.rs.take a.m)).length bn,slice bi (zac (a.rs.drop a.m)).length aQ,int i64 (q3:Int),slice R4 aT.length c5,int i64 (a.m:Int),slice bj aZ.length bf,slice aD au.length aB,slice aP a.acks.length bh]):=zhd fun W hW=>aR.out.below hW aR.out.lt;have dg:Hid (∀ W,Below W6.heap.size W6 W->Calls Tryz.prog 14 #[slice A2 N2 c2,slice A3 N3 c4] W (IsB true W)):=zhd fun W hW=>zl7 N2 c2 N3 c4 A2 A3 um aA dX.out.symm dA.out.symm (by have:=eo.out;unfold maxLen;omega) (cf.out.trans dv.out.symm) W (ck.out.msR.below hW) (cr.out.msR.below hW);have cX:Hid (∀ W,Below W6.heap.size W6 W->Calls Tryz.prog 15 #[.pointer (some ⟨g2,0,none⟩),.agg #[slice bl (zac (a.rs.take a.m)).length bn,slice bi (zac (a.rs.drop a.m)).length aQ,int i64 (q3:Int),slice R4 aT.length c5,int i64 (a.m:Int),slice bj aZ.length bf,slice aD au.length aB,slice aP a.acks.length bh]] W (zwF true W)):=zhd fun W hW=>by
     have bK:=bo.out.below hW;exact zoI F2 g2 q2 _ _ _ _ _ _ _ _ _ _ _ _ a p2 _ _ au _ _ _ _ _ _ _ _ rfl rfl rfl rfl rfl bK.ln W (az.out.at_.below hW) bK.log.rl.row bK.log.rt.row bK.le.env
    have bC:=ziD a.L key;have cn:=zlL az.out.at_.ok.lOk key;have cg:=fun w' (p:Below W6.heap.size W6 w')=>zkw F2 g2 q2 a p2 key dQ.out w' (az.out.at_.below p);have ao:=fun w' (p:Below W6.heap.size W6 w')=>zdw au.length aB aD au key rfl (by have:=dT.out;omega) w' (bo.out.le.below p).env;rw [bo.out.ln] at ao;obtain⟨x,hx⟩:∃ x,ofT a.L key=x:=⟨_,rfl⟩;rw [hx] at cg ao bC cn;have dy:Hid (∀ w',Below W6.heap.size W6 w'->Calls Tryz.prog 17 #[.pointer (some ⟨g2,0,none⟩),.string ⟨key.toArray⟩] w' (fun e D=>∃ A' c',e=.returned (.agg #[.string ⟨key.toArray⟩,int i64 x.s,int i64 x.u,int i64 x.o,bool x.has,slice A' x.v.length c'])/\ValOk D x.has A' x.v c'/\Below w'.heap.size w' D)):=zhd fun w' p=>(cg w' p).mono fun e D h=>by
     obtain⟨A,c,B,h2,h3,h4⟩:=zqC bC cn h;exact⟨A,c,B,h2,h4⟩
    have dz:Hid (∀ w',Below W6.heap.size W6 w'->Calls Tryz.prog 18 #[slice aD au.length aB,.string ⟨key.toArray⟩] w' (fun e D=>∃ A' c',e=.returned (.agg #[.string ⟨key.toArray⟩,int i64 x.s,int i64 x.u,int i64 x.o,bool x.has,slice A' x.v.length c'])/\ValOk D x.has A' x.v c'/\Below w'.heap.size w' D)):=zhd fun w' p=>(ao w' p).mono fun e D h=>by
     obtain⟨A,c,B,h2,h3⟩:=h;rw [bC] at B;exact⟨A,c,B,h2,h3⟩
    have dh:=zhd fun w' A c (B:ValOk w' x.has A x.v c) A' c' (h2:ValOk w' x.has A' x.v c')=>zfY ⟨key.toArray⟩ x.s x.u x.o x.has A A' x.v c c' x.v.length x.v.length rfl rfl w' B h2;have eT:g2<W6.heap.size:=az.out.lt;have eP:E<W6.heap.size:=aR.out.lt;clear aE aq aK aU eB dl bC cn cg ao hx HP ck cr u0 v0 z0 u1 v1 z1 u2 v2 z2 u3 v3 z3 u4 v4 z4 u5 v5 z5 u6 v6 z6 u7 v7 z7;refine Rely.wp_region_by [[],[(0,53)],[(1,54)],[(2,55)],[(2,55)],[(2,55),(3,56),(4,57)],[(2,55),(5,58)],[(2,55),(6,59)],[(7,60)],[(8,61)],[(8,61)],[(8,61),(9,62),(10,63)],[(8,61),(11,64)],[(12,65)],[(13,66)],[(13,66)],[(13,66),(14,67),(15,68)],[(13,66),(16,69)],[(13,66),(17,70)],[(18,71)],[(19,72)],[(19,72)],[(19,72),(20,73),(21,74)],[(19,72)],[(19,72),(23,76)],[(19,72)],[(19,72),(24,77),(25,78)],[(19,72),(22,75),(26,79)],[(19,72),(27,80)],[(19,72),(28,81)]] [(0,53),(1,54),(2,55),(3,56),(4,57),(5,58),(6,59),(7,60),(8,61),(9,62),(10,63),(11,64),(12,65),(13,66),(14,67),(15,68),(16,69),(17,70),(18,71),(19,72),(20,73),(21,74),(22,75),(23,76),(24,77),(25,78),(26,79),(27,80),(28,81),(29,82)] [] (zee g2 E N2 c2 N3 c4 (zac (a.rs.take a.m)).length bn (zac (a.rs.drop a.m)).length aQ q3 aT.length c5 a.m aZ.length bf au.length aB a.acks.length bh er key x A2 A3 bl bi R4 bj aD aP) (by kernel_rfl) (by kernel_rfl) (by kernel_rfl) (by kernel_rfl) (by kernel_rfl) (by kernel_rfl) (zoJ g2 E N2 c2 N3 c4 (zac (a.rs.take a.m)).length bn (zac (a.rs.drop a.m)).length aQ q3 aT.length c5 a.m aZ.length bf au.length aB a.acks.length bh er key x A2 A3 bl bi R4 bj aD aP) ?_ ?_
    ·skip;refine Rely.stepsZ_cons (by
      intro I w' p d;simp only [Rely.Pre,zee] at d;unfold Rely.gives;simp only [Rely.sel,List.foldl_cons,List.foldl_nil];go_simp
      exact⟨Below.refl _ _,rfl⟩) ?_
     refine Rely.stepsZ_cons (by
      intro I w' p d;simp only [Rely.Pre,zee] at d;obtain⟨fy,_⟩:=d;unfold Rely.gives;simp only [Rely.sel,List.foldl_cons,List.foldl_nil];go_simp
      exact⟨Below.refl _ _,rfl⟩) ?_
     refine Rely.stepsZ_cons (by
      intro I w' p d;simp only [Rely.Pre,zee] at d;obtain⟨eW,_⟩:=d;unfold Rely.gives;simp only [Rely.sel,List.foldl_cons,List.foldl_nil];go_simp
      exact⟨Below.refl _ _,rfl⟩) ?_
     refine Rely.stepsZ_cons (by
      intro I w' p d;simp only [Rely.Pre,zee] at d;obtain⟨bS,_⟩:=d;unfold Rely.gives;simp only [Rely.sel,List.foldl_cons,List.foldl_nil];go_simp
      exact⟨Below.refl _ _,rfl⟩) ?_
     refine Rely.stepsZ_cons (by
      intro I w' p d;simp only [Rely.Pre,zee] at d;obtain⟨bS,_⟩:=d;unfold Rely.gives;simp only [Rely.sel,List.foldl_cons,List.foldl_nil];go_simp
      exact⟨Below.refl _ _,rfl⟩) ?_
     refine Rely.stepsZ_cons (by
      intro I w' p d;simp only [Rely.Pre,zee] at d;obtain⟨bS,eI,fx,_⟩:=d;unfold Rely.gives;simp only [Rely.sel,List.foldl_cons,List.foldl_nil];go_simp
      simp only [Rely.GivesR];refine(dg.out w' p).mono ?_;rintro e D ⟨rfl,ak⟩;exact⟨_,rfl,ak,rfl⟩) ?_
     refine Rely.stepsZ_cons (by
      intro I w' p d;simp only [Rely.Pre,zee] at d;obtain⟨bS,eX,_⟩:=d;unfold Rely.gives;simp only [Rely.sel,List.foldl_cons,List.foldl_nil];go_simp
      exact⟨Below.refl _ _,rfl⟩) ?_
     refine Rely.stepsZ_cons (by
      intro I w' p d;simp only [Rely.Pre,zee] at d;obtain⟨bS,fj,_⟩:=d;unfold Rely.gives;simp only [Rely.sel,List.foldl_cons,List.foldl_nil];go_simp
      exact⟨Below.refl _ _,rfl⟩) ?_
     refine Rely.stepsZ_cons (by
      intro I w' p d;simp only [Rely.Pre,zee] at d;obtain⟨eH,_⟩:=d;unfold Rely.gives;simp only [Rely.sel,List.foldl_cons,List.foldl_nil];go_simp
      exact⟨Below.refl _ _,rfl⟩) ?_
     refine Rely.stepsZ_cons (by
      intro I w' p d;simp only [Rely.Pre,zee] at d;obtain⟨cw,_⟩:=d;unfold Rely.gives;simp only [Rely.sel,List.foldl_cons,List.foldl_nil];go_simp
      exact⟨Below.refl _ _,rfl⟩) ?_
     refine Rely.stepsZ_cons (by
      intro I w' p d;simp only [Rely.Pre,zee] at d;obtain⟨cw,_⟩:=d;unfold Rely.gives;simp only [Rely.sel,List.foldl_cons,List.foldl_nil];go_simp
      exact⟨Below.refl _ _,rfl⟩) ?_
     refine Rely.stepsZ_cons (by
      intro I w' p d;simp only [Rely.Pre,zee] at d;obtain⟨cw,eO,eS,_⟩:=d;unfold Rely.gives;simp only [Rely.sel,List.foldl_cons,List.foldl_nil];go_simp
      exact⟨Below.refl _ _,rfl⟩) ?_
     refine Rely.stepsZ_cons (by
      intro I w' p d;simp only [Rely.Pre,zee] at d;obtain⟨cw,fq,_⟩:=d;unfold Rely.gives;simp only [Rely.sel,List.foldl_cons,List.foldl_nil];go_simp
      exact⟨Below.refl _ _,rfl⟩) ?_
     refine Rely.stepsZ_cons (by
      intro I w' p d;simp only [Rely.Pre,zee] at d;obtain⟨eK,_⟩:=d;unfold Rely.gives;simp only [Rely.sel,List.foldl_cons,List.foldl_nil];go_simp
      exact⟨Below.refl _ _,rfl⟩) ?_
     refine Rely.stepsZ_cons (by
      intro I w' p d;simp only [Rely.Pre,zee] at d;obtain⟨bQ,_⟩:=d;unfold Rely.gives;simp only [Rely.sel,List.foldl_cons,List.foldl_nil];go_simp
      exact⟨Below.refl _ _,rfl⟩) ?_
     refine Rely.stepsZ_cons (by
      intro I w' p d;simp only [Rely.Pre,zee] at d;obtain⟨bQ,_⟩:=d;split
      rotate_left
      ·rename_i hw;exact absurd (by simp only [Rely.sel,List.foldl_cons,List.foldl_nil];go_simp) hw
      simp only [Rely.sel,List.foldl_cons,List.foldl_nil];refine zjn 36 (.tmp 6) ?_ (E) ?_ ((co.out w' p)) Tryz.underlying36 ?_ ?_ ?_
      ·rfl
      ·rfl
      ·rfl
      ·kernel_rfl
      ·exact⟨Below.refl _ _,rfl⟩) ?_
     refine Rely.stepsZ_cons (by
      intro I w' p d;simp only [Rely.Pre,zee] at d;obtain⟨bQ,eU,fC,_⟩:=d;unfold Rely.gives;simp only [Rely.sel,List.foldl_cons,List.foldl_nil];go_simp
      simp only [Rely.GivesR];refine(cX.out w' p).mono ?_;rintro e D ⟨rfl,ak⟩;exact⟨_,rfl,ak,rfl⟩) ?_
     refine Rely.stepsZ_cons (by
      intro I w' p d;simp only [Rely.Pre,zee] at d;obtain⟨bQ,fb,_⟩:=d;unfold Rely.gives;simp only [Rely.sel,List.foldl_cons,List.foldl_nil];go_simp
      exact⟨Below.refl _ _,rfl⟩) ?_
     refine Rely.stepsZ_cons (by
      intro I w' p d;simp only [Rely.Pre,zee] at d;obtain⟨bQ,eM,_⟩:=d;unfold Rely.gives;simp only [Rely.sel,List.foldl_cons,List.foldl_nil];go_simp
      exact⟨Below.refl _ _,rfl⟩) ?_
     refine Rely.stepsZ_cons (by
      intro I w' p d;simp only [Rely.Pre,zee] at d;obtain⟨fd,_⟩:=d;unfold Rely.gives;simp only [Rely.sel,List.foldl_cons,List.foldl_nil];go_simp
      exact⟨Below.refl _ _,rfl⟩) ?_
     refine Rely.stepsZ_cons (by
      intro I w' p d;simp only [Rely.Pre,zee] at d;obtain⟨aw,_⟩:=d;unfold Rely.gives;simp only [Rely.sel,List.foldl_cons,List.foldl_nil];go_simp
      exact⟨Below.refl _ _,rfl⟩) ?_
     refine Rely.stepsZ_cons (by
      intro I w' p d;simp only [Rely.Pre,zee] at d;obtain⟨aw,_⟩:=d;unfold Rely.gives;simp only [Rely.sel,List.foldl_cons,List.foldl_nil];go_simp
      exact⟨Below.refl _ _,rfl⟩) ?_
     refine Rely.stepsZ_cons (by
      intro I w' p d;simp only [Rely.Pre,zee] at d;obtain⟨aw,fA,fp,_⟩:=d;unfold Rely.gives;simp only [Rely.sel,List.foldl_cons,List.foldl_nil];go_simp
      simp only [Rely.GivesR];refine(dy.out w' p).mono ?_;rintro e D ⟨A3,c3,rfl,ci,ak⟩;exact⟨_,rfl,ak,A3,c3,rfl,ci⟩) ?_
     refine Rely.stepsZ_cons (by
      intro I w' p d;simp only [Rely.Pre,zee] at d;obtain⟨aw,_⟩:=d;unfold Rely.gives;simp only [Rely.sel,List.foldl_cons,List.foldl_nil];go_simp
      exact⟨Below.refl _ _,rfl⟩) ?_
     refine Rely.stepsZ_cons (by
      intro I w' p d;simp only [Rely.Pre,zee] at d;obtain⟨aw,eR,_⟩:=d;have eZ:=(co.out w' p).cell 6;unfold Rely.gives;simp only [Rely.sel,List.foldl_cons,List.foldl_nil];go_simp
      exact⟨Below.refl _ _,rfl⟩) ?_
     refine Rely.stepsZ_cons (by
      intro I w' p d;simp only [Rely.Pre,zee] at d;obtain⟨aw,_⟩:=d;unfold Rely.gives;simp only [Rely.sel,List.foldl_cons,List.foldl_nil];go_simp
      exact⟨Below.refl _ _,rfl⟩) ?_
     refine Rely.stepsZ_cons (by
      intro I w' p d;simp only [Rely.Pre,zee] at d;obtain⟨aw,ff,eQ,_⟩:=d;unfold Rely.gives;simp only [Rely.sel,List.foldl_cons,List.foldl_nil];go_simp
      simp only [Rely.GivesR];refine(dz.out w' p).mono ?_;rintro e D ⟨A3,c3,rfl,ci,ak⟩;exact⟨_,rfl,ak,A3,c3,rfl,ci⟩) ?_
     refine Rely.stepsZ_cons (by
      intro I w' p d;simp only [Rely.Pre,zee] at d;obtain⟨aw,⟨eu,et,eL,el⟩,⟨ee,eE,fh,dW⟩,_⟩:=d;unfold Rely.gives;simp only [Rely.sel,List.foldl_cons,List.foldl_nil];go_simp
      simp only [Rely.GivesR];refine(dh.out w' eu et el ee eE dW).mono ?_;rintro e D ⟨rfl,ak⟩;exact⟨_,rfl,ak,rfl⟩) ?_
     refine Rely.stepsZ_cons (by
      intro I w' p d;simp only [Rely.Pre,zee] at d;obtain⟨aw,fB,_⟩:=d;unfold Rely.gives;simp only [Rely.sel,List.foldl_cons,List.foldl_nil];go_simp
      exact⟨Below.refl _ _,rfl⟩) ?_
     refine Rely.stepsZ_cons (by
      intro I w' p d;simp only [Rely.Pre,zee] at d;obtain⟨aw,fi,_⟩:=d;unfold Rely.gives;simp only [Rely.sel,List.foldl_cons,List.foldl_nil];go_simp
      exact⟨Below.refl _ _,rfl⟩) ?_
     exact Rely.stepsZ_nil
    intro tvs wx cl d _;simp only [Rely.Pre,zee] at d;obtain⟨h0,B,h2,h3,h4,h5,h6,h7,h8,h9,dF,cE,cZ,dE,cJ,db,cH,dr,cz,cO,dc,dp,⟨fE,fD,dL,fu⟩,cW,cQ,cP,⟨a26,eJ,dt,fe⟩,dI,cS,cI,_⟩:=d;simp only [Rely.sel,List.foldl_cons,List.foldl_nil,h0,B,h2,h3,h4,h5,h6,h7,h8,h9,dF,cE,cZ,dE,cJ,db,cH,dr,cz,cO,dc,dp,dL,cW,cQ,cP,dt,dI,cS,cI];clear h0 B h2 h3 h4 h5 h6 h7 h8 h9 dF cE cZ dE cJ db cH dr cz cO dc dp dL cW cQ cP dt dI cS cI;simp only [Act.put,List.setIfInBounds_toArray,List.set_cons_succ,List.set_cons_zero];have eh:Hid (zwB w0 wx E g2 (k+1)):=zhd ⟨F2,a,p2,q2,q3,cd.out.1,cd.out.2,dn.out,az.out.below cl,zrJ.below ⟨bl,bn,bi,aQ,R4,c5,aT,bj,bf,aZ,aD,aB,au,aP,bh,aR.out,bo.out,dS.out⟩ cl,bg.out⟩;clear cl dg cX dy dz dh co az aR bo;go_wp2;go_roundw
    case rel=>exact⟨k+1,by omega,by go_num,g2,rfl,eh⟩
    case measure=>simp [intOf];omega
  ·obtain rfl:k=n:=by omega
   clear HQ aN HE;go_wp2_with fail
   refine(cq.out _ (aL.out.trans (HD.out.bel.mono aL.out.size))).mono ?_;rintro e w8 ⟨rfl,p⟩;have ei:=zhd p;clear p;go_wp2;go_ret;exact⟨rfl,ei.out⟩
end
end Go.Proofs.YtahnjkkgojfdmaaGreatDoor
