import Derived.Test.YtahnjkkgojfdmaaGreatDoorSto
import Derived.Test.YtahnjkkgojfdmaaGreatDoorMsZ
set_option maxRecDepth 10000
set_option maxHeartbeats 4000000
set_option linter.unusedVariables false
namespace Go.Proofs.YtahnjkkgojfdmaaGreatDoor
open Go.Obj(cells)
open Go.IntKind(i64)
open Go.Value(int slice pointer)
section
open Go.RowKit Mem Be Word Frm Go.Maps
variable {KS KS' : StK}
theorem zm6{F F1:Nat->Prop}{g q:Nat}{b:St8}{a:AckP}{w W w4 l:World}{v FS:Nat->Prop}{t s:Option Nat}{p j:List EV}{A d:Option Addr}{c c':Nat}
 (r:∀ k,F1 k->F k\/w.heap.size<=k) (u:Touch F w W) (i:Ok8 b) (C:zcO p=b.L) (y:zbm kE b.L (zcO j)=b.N) (D:j.length<=b.rs.length)
 (h:StB KS W F1 v FS g b.rs b.m q t s p j A c b.acks) (G:Below W.heap.size W w4)
 (z:l.ownsRow 0 130 5 (slice d (b.acks.length+1) c') (b.acks.length+1) (zaE (b.acks++[a]))) (I:w4.grownBy l (Value.slice A b.acks.length c).ownBlock)
 (x:(Value.slice d (b.acks.length+1) c').ownBlock=(Value.slice A b.acks.length c).ownBlock\/(Value.slice d (b.acks.length+1) c').ownBlock=some w4.heap.size) :
 zqf KS (int i64 0) F g (zdv b a) q w (.returned (int i64 0)) (l.setCell ⟨g,7,none⟩ (slice d (b.acks.length+1) c')):=by
 obtain⟨B,E,_,_⟩:=zqn h G z I x;refine⟨rfl,_,fun k J=>?_,⟨⟨i.le,i.newer,i.lasts,i.told⟩,v,_,t,s,p,j,d,c',C,y,D,B⟩,u.trans E r⟩;rcases J.1 with o|o
 ·exact r k o
 ·exact Or.inr (Nat.le_trans u.size o)
theorem zd8{x:EV}{r:Int}(h:zav x.1.k.length x.1.v.length x.1.s x.1.u x.1.o x.1.has=r)(hl:(x.1.v.length:Int)<=9223372036854775807)(b:(x.1.k.length:Int)<=9223372036854775807)(W:World):Calls Tryz.prog 107 #[zaT ⟨x.1.k.toArray⟩ x.1.s x.1.u x.1.o x.1.has x.2.1 x.1.v.length x.2.2] W (IsI r W):=by
 have a:(⟨x.1.k.toArray⟩:ByteArray).size=x.1.k.length:=by show x.1.k.toArray.size=_;simp
 have:=zkj ⟨x.1.k.toArray⟩ x.1.s x.1.u x.1.o x.1.has x.2.1 x.1.v.length x.2.2 hl (by rw [a];exact b) W;rw [a,h] at this;exact this
theorem zfn{v:Value}{F:Nat->Prop}{g q:Nat}{S:St8}{w w1:World}(h:zci KS w F g S q)(a:Below w.heap.size w w1):zqf KS v F g S q w (.returned v) w1:=⟨rfl,F,fun k b=>Or.inl b,h.below a,Touch.ofBelow a⟩
theorem zlI(F:Nat->Prop)(g q:Nat)(S:St8)(x:EV)(who:Int)(t:¬ zhr x.1 who)(hl:(x.1.v.length:Int)<=9223372036854775807)(r:(x.1.k.length:Int)<=9223372036854775807)(w:World)(h:zci KS w F g S q) :
 Calls Tryz.prog 81 #[pointer (some ⟨g,0,none⟩),evV x,int i64 who] w (zqf KS (int i64 2) F g S q w):=by
 have y:=zhd h;have j:=zhd (Blk.new w 46 ⟨zbf x⟩);have d:Hid (Below w.heap.size w (w.alloc (cells ⟨zbf x⟩ 46))):=zhd (zbl);rcases zdo x.1.k.length x.1.v.length x.1.s x.1.u x.1.o x.1.has with i|i
 ·have p:=zhd (zd8 i hl r);cases hs:(x.1.s==0)
  ·have hne:x.1.s≠0:=by simpa using hs
   have z:=zhd hs;have D:Hid (who<0\/1048575<who):=zhd (by
    by_cases C:who<0
    ·exact Or.inl C
    ·refine Or.inr ?_;by_cases E:1048575<who
     ·exact E
     ·exact absurd ⟨i,hne,by omega,by omega⟩ t)
   clear h t i hl r hs hne;unfold evV;rcases D.out with G|G
   ·go_enter Tryz.func81,Tryz.ntmps81
    go_wp2_with (first
     | (go_at_call 107;refine(p.out _).mono ?_;rintro e w1 ⟨rfl,a⟩;(have c:Hid (Below w.heap.size w w1):=zhd (d.out.trans (a.mono d.out.size)));(have b:=zhd (j.out.below a j.out.lt));(obtain⟨_,B,A,t3,_⟩:=ent_cells b.out);clear a)
     | (go_at_call 113;refine(zbB _ _ _ _ z _).mono ?_;rintro e m ⟨rfl,a⟩;(have l:Hid (Below w.heap.size w m):=zhd (c.out.trans (a.mono c.out.size)));clear a))
    go_ret;exact zfn y.out l.out
   ·have I:(0:Int)<=who:=by omega
    go_enter Tryz.func81,Tryz.ntmps81
    go_wp2_with (first
     | (go_at_call 107;refine(p.out _).mono ?_;rintro e w1 ⟨rfl,a⟩;(have c:Hid (Below w.heap.size w w1):=zhd (d.out.trans (a.mono d.out.size)));(have b:=zhd (j.out.below a j.out.lt));(obtain⟨_,B,A,t3,_⟩:=ent_cells b.out);clear a)
     | (go_at_call 113;refine(zbB _ _ _ _ z _).mono ?_;rintro e m ⟨rfl,a⟩;(have l:Hid (Below w.heap.size w m):=zhd (c.out.trans (a.mono c.out.size)));clear a))
    go_ret;exact zfn y.out l.out
  ·have z:=zhd hs;clear h t i hl r hs;unfold evV;go_enter Tryz.func81,Tryz.ntmps81
   go_wp2_with (first
    | (go_at_call 107;refine(p.out _).mono ?_;rintro e w1 ⟨rfl,a⟩;(have c:Hid (Below w.heap.size w w1):=zhd (d.out.trans (a.mono d.out.size)));(have b:=zhd (j.out.below a j.out.lt));(obtain⟨_,B,A,t3,_⟩:=ent_cells b.out);clear a)
    | (go_at_call 113;refine(zbB _ _ _ _ z _).mono ?_;rintro e m ⟨rfl,a⟩;(have l:Hid (Below w.heap.size w m):=zhd (c.out.trans (a.mono c.out.size)));clear a))
   go_ret;exact zfn y.out l.out
 ·have p:=zhd (zd8 i hl r);clear h t i hl r;unfold evV;go_enter Tryz.func81,Tryz.ntmps81
  go_wp2_with (go_at_call 107;refine(p.out _).mono ?_;rintro e w1 ⟨rfl,a⟩;(have c:Hid (Below w.heap.size w w1):=zhd (d.out.trans (a.mono d.out.size)));clear a)
  go_ret;exact zfn y.out c.out
end
section
open Go.RowKit Mem Be Word Frm Go.Maps
variable {KS KS' : StK}
theorem zc0(k:ByteArray)(s u o:Int)(has:Bool)(A:Option Addr)(m c:Nat)(W:World):(Instr.field 46 (zaT k s u o has A m c) 1).run Tryz.prog W=.ok (.agg #[int i64 s,int i64 u,int i64 o]) W:=by
 kernel_rfl
theorem zqv(F:Nat->Prop)(g q:Nat)(S:St8)(x:EV)(who:Int)(i:zhr x.1 who)(ag:S.acks.length<=1466015503701)(w:World)(h:zci KS w F g S q)(hv:ValOk w x.1.has x.2.1 x.1.v x.2.2)(hN:zaK F w x.2.1 (x.1.v.map zaa))(au:¬ 0<zeu x.1 (ofT S.N x.1.k)) :
 Calls Tryz.prog 81 #[pointer (some ⟨g,0,none⟩),evV x,int i64 who] w (zqf KS (int i64 0) F g (zdv S (zaW x.1 who)) q w):=by
 obtain⟨y,O,aB,ae⟩:=zeR F g q S x.1.k (by have:=(zah i.1).2.1;unfold maxLen;omega) w h;obtain⟨z,I⟩:∃ z,zeu x.1 y.1=z:=⟨_,rfl⟩;rw [<-O,I] at au;have ak:Hid (zdC x.1.s x.1.u x.1.o y.1.s y.1.u y.1.o=z):=zhd I;have ai:=zhd ae;have HY:=zhd O;have HS:=zhd h;have HM:=zhd i;have Y:=zhd ag;have HV:=zhd hv;have aJ:=zhd hN;have HR:=zhd (zd8 (x:=x) i.1 (by have:=zah i.1;omega) (by have:=zah i.1;omega));have V:(x.1.s==0)=false:=by simpa using i.2.1
 have ax:=zhd V;have aH:(0:Int)<=who:=i.2.2.1;have aI:who<=1048575:=i.2.2.2;have aa:=zhd (Blk.new w 46 ⟨zbf x⟩);have af:Hid (Below w.heap.size w (w.alloc (cells ⟨zbf x⟩ 46))):=zhd (zbl);have aK:g<w.heap.size:=by
  obtain⟨h0,FL,FS,lm,fm,TL,TF,A,c,G,C,E,h⟩:=h;exact zaq (zdc h.lg)
 obtain⟨i1,aq,ao,am,aA⟩:=info_parts zdP;clear h i ag hv hN O aB ae V I;unfold evV;go_enter Tryz.func81,Tryz.ntmps81
 go_wp2_with (first
  | (go_at_call 107;refine(HR.out _).mono ?_;rintro e w1 ⟨rfl,b⟩;(have Z:Hid (Below w.heap.size w w1):=zhd (af.out.trans (b.mono af.out.size)));(have p:=zhd (aa.out.below b aa.out.lt));(obtain⟨_,t1,t2,t3,_⟩:=ent_cells p.out);clear b)
  | (go_at_call 113;refine(zbB _ _ _ _ ax _).mono ?_;rintro e d ⟨rfl,b⟩;(have t:Hid (Below w.heap.size w d):=zhd (Z.out.trans (b.mono Z.out.size)));(have m:=zhd (p.out.below b p.out.lt));clear b t1 t2 t3))
 obtain⟨X,s1,s2,s3,_⟩:=ent_cells m.out;have ab:Hid (∀ l:World,Below d.heap.size d l->l.cell? ⟨w.heap.size,0,none⟩=some (.string ⟨x.1.k.toArray⟩)/\l.cell? ⟨w.heap.size,1,none⟩=some (int i64 x.1.s)/\l.cell? ⟨w.heap.size,2,none⟩=some (int i64 x.1.u)/\l.cell? ⟨w.heap.size,3,none⟩=some (int i64 x.1.o)):=zhd fun l h=>by
  have b:=m.out.below h m.out.lt;exact⟨b.cell 0,b.cell 1,b.cell 2,b.cell 3⟩
 have aw:=zc0 ⟨y.1.k.toArray⟩ y.1.s y.1.u y.1.o y.1.has y.2.1 y.1.v.length y.2.2;have D:Hid (Below d.heap.size d d.drew):=zhd (Below.refl _ _).drew;go_region_held3 (fun w'=>w'.cell? ⟨w.heap.size,0,none⟩=some (.string ⟨x.1.k.toArray⟩)/\w'.cell? ⟨w.heap.size,1,none⟩=some (int i64 x.1.s)/\w'.cell? ⟨w.heap.size,2,none⟩=some (int i64 x.1.u)/\w'.cell? ⟨w.heap.size,3,none⟩=some (int i64 x.1.o))
  (first|go_keep|exact ab.out _ K.out|exact ab.out _ M.out)
  (first
   | (go_at_call 115;refine(ai.out _ (t.out.trans (D.out.mono t.out.size))).mono ?_;rintro e w3 ⟨rfl,b⟩;(have M:Hid (Below d.heap.size d w3):=zhd (D.out.trans (b.mono D.out.size)));clear b;unfold evV)
   | (go_at_call 114;refine(zcp _ _ _ _ _ _ _ ak _).mono ?_;rintro e w4 ⟨rfl,b⟩;(have K:Hid (Below d.heap.size d w4):=zhd (M.out.trans (b.mono M.out.size)));clear b))
 clear X s1 s2 s3 aw;have T:=zhd (t.out.trans (K.out.mono t.out.size));have ay:=zhd (m.out.below K.out m.out.lt);have aE:z<=0:=by omega
 obtain⟨W,FL,FS,lm,fm,TL,TF,A,c,G,C,E,r⟩:=HS.out.below T.out;have an:=zhd W;have R:=zhd (And.intro G (And.intro C E));have ah:=zhd r;have c7:w4.cell? ⟨g,7,none⟩=some (slice A (S).acks.length c):=zka r.lg;have j:=r.own;have Q:Below w4.heap.size w4 ((w4.alloc (cells ⟨zdO (zaW x.1 who)⟩ 130)).drew):=(zbl).drew;have U:=zhd Q;have al:Hid (((w4.alloc (cells ⟨zdO (zaW x.1 who)⟩ 130)).drew).ownsRow 0 130 5 (slice A (S).acks.length c) (S).acks.length (zaE (S).acks)):=zhd (zag j Q);have az:Hid (Row ((w4.alloc (cells ⟨zdO (zaW x.1 who)⟩ 130)).drew) (w4.heap.size+1) (some ⟨w4.heap.size,0,none⟩) (zaE [zaW x.1 who])):=zhd (ziS (by exact Blk.new w4 130 ⟨zdO (zaW x.1 who)⟩) (Nat.lt_succ_self _));obtain⟨X,s1,s2,s3,_⟩:=ent_cells ay.out;have aD:(w4.alloc (cells #[int i64 who,.string ⟨x.1.k.toArray⟩,int i64 x.1.s,int i64 x.1.u,int i64 x.1.o] 130)).cell? ⟨g,7,none⟩=some (slice A (S).acks.length c):=zdN _ c7;clear W G C E r j Q;go_wp2_with fail
 go_region_law (refine ze3 (P:=Tryz.prog) (by rfl) _ _ _ (by rfl) 0 130 i1 (.agg #[int i64 0,.string .empty,int i64 0,int i64 0,int i64 0]) 5 48 Tryz.underlying34 aq ao am aA rfl (by decide) (slice A (S).acks.length c) (S).acks.length (zaE (S).acks) (by rfl) (by exact al.out) (w4.heap.size+1) (some ⟨w4.heap.size,0,none⟩) 1 1 (zaE [zaW x.1 who]) (by rfl) (by rfl) (by exact az.out) (zdu _) (by have:=Y.out;unfold maxLen;omega) (by have:=Y.out;omega) (Nat.zero_le _) ?_;intro v' w7 j J L;obtain⟨A7,aG,rfl,_,_⟩:=zat j;(have aj:=zhd (zm6 (w4:=(w4.alloc (cells ⟨zdO (zaW x.1 who)⟩ 130)).drew) (fun k hk=>Or.inl hk) (Touch.ofBelow T.out) an.out R.out.1 R.out.2.1 R.out.2.2 ah.out U.out (by rw [zcY];exact j) J L));(have B:=zqn (a:=zaW x.1 who) ah.out U.out (by rw [zcY];exact j) J L);have e7:=B.2.2.1;have z7:=B.2.2.2;clear j J L B)
 all_goals
  go_wp2;go_ret;exact aj.out
theorem zqw(F:Nat->Prop)(g q:Nat)(S:St8)(x:EV)(who:Int)(l:zhr x.1 who)(az:S.acks.length<=1466015503701)(w:World)(h:zci KS w F g S q)(hv:ValOk w x.1.has x.2.1 x.1.v x.2.2)(hN:zaK F w x.2.1 (x.1.v.map zaa))(aw:0<zeu x.1 (ofT S.N x.1.k))(aq:(zac (S.rs++[(1,zbe x.1)])).length<=4194304) :
 Calls Tryz.prog 81 #[pointer (some ⟨g,0,none⟩),evV x,int i64 who] w (zqf KS (int i64 0) F g (zdv (zbq S x.1).1 (zaW x.1 who)) q w):=by
 have K:zbq S x.1=(⟨S.rs++[(1,zbe x.1)],S.m,S.L,zbZ kE S.N x.1,S.acks⟩,0):=if_pos aq;rw [K];simp only;have aN:=zhd K;obtain⟨i,E⟩:∃ i,(⟨S.rs++[(1,zbe x.1)],S.m,S.L,zbZ kE S.N x.1,S.acks⟩:St8)=i:=⟨_,rfl⟩;have aV:Hid (i.acks=S.acks):=zhd (by rw [<-E]);have aH:=zhd E;rw [E];clear K aq E;obtain⟨y,ab,aW,ax⟩:=zeR F g q S x.1.k (by have:=(zah l.1).2.1;unfold maxLen;omega) w h;obtain⟨G,T⟩:∃ G,zeu x.1 y.1=G:=⟨_,rfl⟩;rw [<-ab,T] at aw;have ah:Hid (zdC x.1.s x.1.u x.1.o y.1.s y.1.u y.1.o=G):=zhd T;have aB:=zhd ax;have HY:=zhd ab;have HS:=zhd h;have HM:=zhd l;have U:=zhd az;have HV:=zhd hv;have aQ:=zhd hN;have HR:=zhd (zd8 (x:=x) l.1 (by have:=zah l.1;omega) (by have:=zah l.1;omega));have hs:(x.1.s==0)=false:=by simpa using l.2.1
 have aP:=zhd hs;have bd:(0:Int)<=who:=l.2.2.1;have bf:who<=1048575:=l.2.2.2;have an:=zhd (Blk.new w 46 ⟨zbf x⟩);have ay:Hid (Below w.heap.size w (w.alloc (cells ⟨zbf x⟩ 46))):=zhd (zbl);have bg:g<w.heap.size:=by
  obtain⟨h0,FL,FS,lm,fm,TL,TF,A,c,R,M,Q,h⟩:=h;exact zaq (zdc h.lg)
 obtain⟨i1,aM,aK,aI,aU⟩:=info_parts zdP;clear h l az hv hN ab aW ax hs T;unfold evV;go_enter Tryz.func81,Tryz.ntmps81
 go_wp2_with (first
  | (go_at_call 107;refine(HR.out _).mono ?_;rintro e w1 ⟨rfl,b⟩;(have am:Hid (Below w.heap.size w w1):=zhd (ay.out.trans (b.mono ay.out.size)));(have B:=zhd (an.out.below b an.out.lt));(obtain⟨_,t1,t2,t3,_⟩:=ent_cells B.out);clear b)
  | (go_at_call 113;refine(zbB _ _ _ _ aP _).mono ?_;rintro e j ⟨rfl,b⟩;(have D:Hid (Below w.heap.size w j):=zhd (am.out.trans (b.mono am.out.size)));(have z:=zhd (B.out.below b B.out.lt));clear b t1 t2 t3))
 obtain⟨s0,s1,s2,s3,_⟩:=ent_cells z.out;have ao:Hid (∀ r:World,Below j.heap.size j r->r.cell? ⟨w.heap.size,0,none⟩=some (.string ⟨x.1.k.toArray⟩)/\r.cell? ⟨w.heap.size,1,none⟩=some (int i64 x.1.s)/\r.cell? ⟨w.heap.size,2,none⟩=some (int i64 x.1.u)/\r.cell? ⟨w.heap.size,3,none⟩=some (int i64 x.1.o)):=zhd fun r h=>by
  have b:=z.out.below h z.out.lt;exact⟨b.cell 0,b.cell 1,b.cell 2,b.cell 3⟩
 have aO:=zc0 ⟨y.1.k.toArray⟩ y.1.s y.1.u y.1.o y.1.has y.2.1 y.1.v.length y.2.2;have O:Hid (Below j.heap.size j j.drew):=zhd (Below.refl _ _).drew;go_region_held3 (fun w'=>w'.cell? ⟨w.heap.size,0,none⟩=some (.string ⟨x.1.k.toArray⟩)/\w'.cell? ⟨w.heap.size,1,none⟩=some (int i64 x.1.s)/\w'.cell? ⟨w.heap.size,2,none⟩=some (int i64 x.1.u)/\w'.cell? ⟨w.heap.size,3,none⟩=some (int i64 x.1.o))
  (first|go_keep|exact ao.out _ X.out|exact ao.out _ aa.out)
  (first
   | (go_at_call 115;refine(aB.out _ (D.out.trans (O.out.mono D.out.size))).mono ?_;rintro e w3 ⟨rfl,b⟩;(have aa:Hid (Below j.heap.size j w3):=zhd (O.out.trans (b.mono O.out.size)));clear b;unfold evV)
   | (go_at_call 114;refine(zcp _ _ _ _ _ _ _ ah _).mono ?_;rintro e w4 ⟨rfl,b⟩;(have X:Hid (Below j.heap.size j w4):=zhd (aa.out.trans (b.mono aa.out.size)));clear b))
 clear s0 s1 s2 s3 aO;have t:=zhd (D.out.trans (X.out.mono D.out.size));have af:=zhd (z.out.below X.out z.out.lt);have aZ:(0:Int)<G:=aw;have I:=zhZ F g q S x HM.out.1 HM.out.2.1 (by rw [<-HY.out];unfold zeu;have:=ah.out;omega) w4 (HS.out.below t.out) (HV.out.below t.out) (zaK.touch aQ.out (Touch.ofBelow t.out));obtain⟨t0,t1,t2,t3,t4,t5⟩:=ent_cells af.out;rw [aN.out,aH.out] at I;simp only at I;have ak:=zhd I;clear I;go_wp2_with fail
 refine ak.out.mono ?_;rintro e d ⟨rfl,F5,al,au,Y⟩;have aS:Hid (Blk d w.heap.size 46 ⟨zbf x⟩):=zhd ((Y.block _ af.out.lt fun hf=>by have:=HS.out.lt _ hf;omega).trans af.out);have aE:Hid (∀ k,F5 k->F k\/w.heap.size<=k):=zhd fun k W=>by
  rcases al k W with h|h
  ·exact Or.inl h
  ·exact Or.inr (Nat.le_trans t.out.size h)
 have aL:Hid (Touch F w d):=zhd ((Touch.ofBelow t.out).trans Y fun k W=>Or.inl W);have aR:=zhd au;rw [<-aV.out] at U;clear al au Y t0 t1 t2 t3 t4 t5 ak;obtain⟨aj,FL,FS,lm,fm,TL,TF,A,c,R,M,Q,C⟩:=aR.out;have aJ:=zhd aj;have ag:=zhd (And.intro R (And.intro M Q));have aA:=zhd C;have c7:d.cell? ⟨g,7,none⟩=some (slice A (i).acks.length c):=zka C.lg;have p:=C.own;have ae:Below d.heap.size d ((d.alloc (cells ⟨zdO (zaW x.1 who)⟩ 130)).drew):=(zbl).drew;have ai:=zhd ae;have aG:Hid (((d.alloc (cells ⟨zdO (zaW x.1 who)⟩ 130)).drew).ownsRow 0 130 5 (slice A (i).acks.length c) (i).acks.length (zaE (i).acks)):=zhd (zag p ae);have aT:Hid (Row ((d.alloc (cells ⟨zdO (zaW x.1 who)⟩ 130)).drew) (d.heap.size+1) (some ⟨d.heap.size,0,none⟩) (zaE [zaW x.1 who])):=zhd (ziS (by exact Blk.new d 130 ⟨zdO (zaW x.1 who)⟩) (Nat.lt_succ_self _));obtain⟨s0,s1,s2,s3,_⟩:=ent_cells aS.out;have aX:(d.alloc (cells #[int i64 who,.string ⟨x.1.k.toArray⟩,int i64 x.1.s,int i64 x.1.u,int i64 x.1.o] 130)).cell? ⟨g,7,none⟩=some (slice A (i).acks.length c):=zdN _ c7;clear aj R M Q C p ae;go_wp2_with fail
 go_region_law (refine ze3 (P:=Tryz.prog) (by rfl) _ _ _ (by rfl) 0 130 i1 (.agg #[int i64 0,.string .empty,int i64 0,int i64 0,int i64 0]) 5 48 Tryz.underlying34 aM aK aI aU rfl (by decide) (slice A (i).acks.length c) (i).acks.length (zaE (i).acks) (by rfl) (by exact aG.out) (d.heap.size+1) (some ⟨d.heap.size,0,none⟩) 1 1 (zaE [zaW x.1 who]) (by rfl) (by rfl) (by exact aT.out) (zdu _) (by have:=U.out;unfold maxLen;omega) (by have:=U.out;omega) (Nat.zero_le _) ?_;intro v' w7 p V Z;obtain⟨A7,aY,rfl,_,_⟩:=zat p;(have aD:=zhd (zm6 (w4:=(d.alloc (cells ⟨zdO (zaW x.1 who)⟩ 130)).drew) aE.out aL.out aJ.out ag.out.1 ag.out.2.1 ag.out.2.2 aA.out ai.out (by rw [zcY];exact p) V Z));(have J:=zqn (a:=zaW x.1 who) aA.out ai.out (by rw [zcY];exact p) V Z);have e7:=J.2.2.1;have z7:=J.2.2.2;clear p V Z J)
 all_goals
  go_wp2;go_ret;exact aD.out
theorem zsS(F:Nat->Prop)(g q:Nat)(S:St8)(x:EV)(who:Int)(d:zhr x.1 who)(af:S.acks.length<=1466015503701)(w:World)(h:zci KS w F g S q)(hv:ValOk w x.1.has x.2.1 x.1.v x.2.2)(Z:zaK F w x.2.1 (x.1.v.map zaa))(aa:0<zeu x.1 (ofT S.N x.1.k))(X:¬ (zac (S.rs++[(1,zbe x.1)])).length<=4194304) :
 Calls Tryz.prog 81 #[pointer (some ⟨g,0,none⟩),evV x,int i64 who] w (zqf KS (int i64 3) F g S q w):=by
 have L:zbq S x.1=(S,3):=if_neg X;have ah:=zhd L;clear L X;obtain⟨y,I,am,ab⟩:=zeR F g q S x.1.k (by have:=(zah d.1).2.1;unfold maxLen;omega) w h;obtain⟨r,B⟩:∃ r,zeu x.1 y.1=r:=⟨_,rfl⟩;rw [<-I,B] at aa;have K:Hid (zdC x.1.s x.1.u x.1.o y.1.s y.1.u y.1.o=r):=zhd B;have ag:=zhd ab;have HY:=zhd I;have HS:=zhd h;have Q:=zhd d;have aq:=zhd af;have HV:=zhd hv;have ak:=zhd Z;have HR:=zhd (zd8 (x:=x) d.1 (by have:=zah d.1;omega) (by have:=zah d.1;omega));have M:(x.1.s==0)=false:=by simpa using d.2.1
 have aj:=zhd M;have ay:(0:Int)<=who:=d.2.2.1;have az:who<=1048575:=d.2.2.2;have U:=zhd (Blk.new w 46 ⟨zbf x⟩);have ae:Hid (Below w.heap.size w (w.alloc (cells ⟨zbf x⟩ 46))):=zhd (zbl);have aA:g<w.heap.size:=by
  obtain⟨h0,FL,FS,lm,fm,TL,TF,A,c,h1,h2,an,h⟩:=h;exact zaq (zdc h.lg)
 obtain⟨i1,ax,au,ao,aB⟩:=info_parts zdP;clear h d af hv Z I am ab M B;unfold evV;go_enter Tryz.func81,Tryz.ntmps81
 go_wp2_with (first
  | (go_at_call 107;refine(HR.out _).mono ?_;rintro e w1 ⟨rfl,a⟩;(have T:Hid (Below w.heap.size w w1):=zhd (ae.out.trans (a.mono ae.out.size)));(have m:=zhd (U.out.below a U.out.lt));(obtain⟨_,G,J,t3,_⟩:=ent_cells m.out);clear a)
  | (go_at_call 113;refine(zbB _ _ _ _ aj _).mono ?_;rintro e b ⟨rfl,a⟩;(have p:Hid (Below w.heap.size w b):=zhd (T.out.trans (a.mono T.out.size)));(have l:=zhd (m.out.below a m.out.lt));clear a G J t3))
 obtain⟨s0,s1,s2,s3,_⟩:=ent_cells l.out;have W:Hid (∀ i:World,Below b.heap.size b i->i.cell? ⟨w.heap.size,0,none⟩=some (.string ⟨x.1.k.toArray⟩)/\i.cell? ⟨w.heap.size,1,none⟩=some (int i64 x.1.s)/\i.cell? ⟨w.heap.size,2,none⟩=some (int i64 x.1.u)/\i.cell? ⟨w.heap.size,3,none⟩=some (int i64 x.1.o)):=zhd fun i h=>by
  have a:=l.out.below h l.out.lt;exact⟨a.cell 0,a.cell 1,a.cell 2,a.cell 3⟩
 have ai:=zc0 ⟨y.1.k.toArray⟩ y.1.s y.1.u y.1.o y.1.has y.2.1 y.1.v.length y.2.2;have z:Hid (Below b.heap.size b b.drew):=zhd (Below.refl _ _).drew;go_region_held3 (fun w'=>w'.cell? ⟨w.heap.size,0,none⟩=some (.string ⟨x.1.k.toArray⟩)/\w'.cell? ⟨w.heap.size,1,none⟩=some (int i64 x.1.s)/\w'.cell? ⟨w.heap.size,2,none⟩=some (int i64 x.1.u)/\w'.cell? ⟨w.heap.size,3,none⟩=some (int i64 x.1.o))
  (first|go_keep|exact W.out _ D.out|exact W.out _ E.out)
  (first
   | (go_at_call 115;refine(ag.out _ (p.out.trans (z.out.mono p.out.size))).mono ?_;rintro e w3 ⟨rfl,a⟩;(have E:Hid (Below b.heap.size b w3):=zhd (z.out.trans (a.mono z.out.size)));clear a;unfold evV)
   | (go_at_call 114;refine(zcp _ _ _ _ _ _ _ K _).mono ?_;rintro e w4 ⟨rfl,a⟩;(have D:Hid (Below b.heap.size b w4):=zhd (E.out.trans (a.mono E.out.size)));clear a))
 clear s0 s1 s2 s3 ai;have j:=zhd (p.out.trans (D.out.mono p.out.size));have al:=zhd (l.out.below D.out l.out.lt);have aw:(0:Int)<r:=aa;have t:=zhZ F g q S x Q.out.1 Q.out.2.1 (by rw [<-HY.out];unfold zeu;have:=K.out;omega) w4 (HS.out.below j.out) (HV.out.below j.out) (zaK.touch ak.out (Touch.ofBelow j.out));obtain⟨t0,G,J,t3,t4,t5⟩:=ent_cells al.out;rw [ah.out] at t;simp only at t;have O:=zhd t;clear t;go_wp2_with fail
 refine O.out.mono ?_;rintro e w5 ⟨rfl,F5,R,Y,V⟩;have HX:Hid (zqf KS (int i64 3) F g S q w (.returned (int i64 3)) w5):=zhd ⟨rfl,F5,fun k C=>by
  rcases R k C with h|h
  ·exact Or.inl h
  ·exact Or.inr (Nat.le_trans j.out.size h),Y,(Touch.ofBelow j.out).trans V fun k C=>Or.inl C⟩
 clear R Y V t0 G J t3 t4 t5 O;go_wp2;go_ret;exact HX.out
theorem zsT(F:Nat->Prop)(g q:Nat)(S:St8)(x:EV)(who:Int)(i:S.acks.length<=1466015503701)(hl:(x.1.v.length:Int)<=9223372036854775807)(p:(x.1.k.length:Int)<=9223372036854775807)(w:World)(h:zci KS w F g S q)(m:Row w w.heap.size x.2.1 (x.1.v.map zaa))(o:x.1.v.length<=x.2.2)(j:zaK F w x.2.1 (x.1.v.map zaa)) :
 Calls Tryz.prog 81 #[pointer (some ⟨g,0,none⟩),evV x,int i64 who] w (zqf KS (int i64 (zce S x.1 who).2) F g (zce S x.1 who).1 q w):=by
 by_cases a:zhr x.1 who
 ·have l:ValOk w x.1.has x.2.1 x.1.v x.2.2:=⟨m,by have:=(zah a.1).2.2.1;omega,o⟩;by_cases b:0<zeu x.1 (ofT S.N x.1.k)
  ·by_cases d:(zac (S.rs++[(1,zbe x.1)])).length<=4194304
   ·have c:(zbq S x.1).2=0:=by rw [show zbq S x.1=_ from if_pos d]
    rw [show zce S x.1 who=(zdv (zbq S x.1).1 (zaW x.1 who),0) from(if_pos a).trans ((if_pos b).trans (if_pos c))];exact zqw F g q S x who a i w h l j b d
   ·have c:zbq S x.1=(S,3):=if_neg d;rw [show zce S x.1 who=(S,3) from(if_pos a).trans ((if_pos b).trans ((if_neg (by rw [c];simp)).trans (by rw [c])))];exact zsS F g q S x who a i w h l j b d
  ·rw [show zce S x.1 who=(zdv S (zaW x.1 who),0) from(if_pos a).trans (if_neg b)];exact zqv F g q S x who a i w h l j b
 ·rw [show zce S x.1 who=(S,2) from if_neg a];exact zlI F g q S x who a hl p w h
end
section
open Go.RowKit Mem Be Word Frm Go.Maps
variable {KS KS' : StK}
theorem zqx{w w':World}{b r n cnt:Nat}{F:List EV}{left:Lit->Bool}(h:zkR w b r n F left cnt)(k:w'.heap[b]?=w.heap[b]?)(g:w'.heap[r]?=w.heap[r]?):zkR w' b r n F left cnt:=by
 obtain⟨p,c,m,q,c0,d,o,j,a,l,i⟩:=h;exact⟨p,c,m,q,c0,k.trans d,o,j,a,g.trans l,i⟩
theorem zsU{w:World}{b r n cnt:Nat}{F:List EV}{left:Lit->Bool}(h:zkR w b r n F left cnt){k:List UInt8}(j:k.length<=maxLen)(ty:TypeId) :
 ∃ w' a,(Builtin.delete_ #[106,9] ty #[.map (some b),.string ⟨k.toArray⟩]).run Tryz.prog w=.ok (.tuple #[]) w'/\zkR w' b r n (zgl kV k F) (fun z=>left z&&!z.sameKey (.string k)) a/\a<=cnt/\w.mapTurned w' b:=by
 obtain⟨w',a,g,c,i,d⟩:=World.ranges.drop (t:=106) (e:=46) h zun Tryz.underlying106 (zpJ j) ty;rw [zvL] at c;exact⟨w',a,g,c,i,d⟩
theorem zsV{w:World}{b r n cnt:Nat}{F:List EV}{left:Lit->Bool}(h:zkR w b r n F left cnt):zdg w b F:=zjO (World.ranges.owns h)
theorem zv6{j l:World}{F C FS:Nat->Prop}{g m q f:Nat}{rs:List Rc}{z:Option Nat}{E t:List EV}{A:Option Addr}{c:Nat}{acks:List AckP}{k:List UInt8}(h:StB KS j F C FS g rs m q z (some f) E t A c acks)(ht:j.mapTurned l f)(I:zdg l f (zgl kV k t)) :
 StB KS l F C FS g rs m q z (some f) E (zgl kV k t) A c acks/\Touch F j l:=by
 have s:=zdb ht;have v:=h.tf.inM f rfl;have D:=zcZ h.tf.map;have y:∀ k,FS k->k<j.heap.size:=fun k d=>h.lt k (h.sub k (Or.inr d));have r:∀ k,k<j.heap.size->k≠f->l.heap[k]?=j.heap[k]?:=fun k d G=>s.block k d G;have u:∀ {p:List EV},zcM j 0 p->(∀ x∈p,InF FS x.2.1)->zcM l 0 p:=fun {p} ho hi x i=>zaj (ho x i) fun a o=>r _ (y _ (hi x i a o)) (zbU (ho x i) D o);refine⟨⟨h.lg.keep s.size fun k d=>r k (h.lt k (h.sub k (Or.inl d))) fun e=>h.dis k d (by rw [e];exact v),⟨h.tl.map.keep fun b B=>r b (y b (h.tl.inM b B)) fun e=>h.ne b B (by rw [e]),h.tl.inM,h.tl.srt,u h.tl.own h.tl.inF,h.tl.inF,h.tl.ok⟩,
  ⟨Or.inr ⟨f,rfl,I⟩,h.tf.inM,ziz h.tf.srt,fun x i=>u h.tf.own h.tf.inF x (zeL.1 i).1,fun x i=>h.tf.inF x (zeL.1 i).1,fun x i=>h.tf.ok x (zeL.1 i).1⟩,h.ne,
  zaj h.own fun a o=>r _ (zaJ h.own o).2.1 (zbU h.own D o),h.inA,h.dis,h.sub,fun k d=>Nat.lt_of_lt_of_le (h.lt k d) s.size⟩,s.mono fun k d=>by subst d;exact h.sub _ (Or.inr v)⟩
def zob(F Fc:List EV)(left:Lit->Bool):Prop:=zaO kV Fc/\∀ k,zbF kV Fc k=if left (.string k)=true then zbF kV F k else none
theorem zoc{F:List EV}(h:zaO kV F):zob F F (Maps.has (tbD F)):=⟨h,fun k=>by
 rw [zpK];cases zbF kV F k<;>simp⟩
theorem zm7{F b:List EV}{left:Lit->Bool}(h:zob F b left){x:EV}(c:x∈b):x∈F:=by
 have a:=ziA h.1 c;rw [h.2] at a;split at a
 ·exact(zb7 a).1
 ·cases a
theorem zqy{F c:List EV}{left:Lit->Bool}{k:List UInt8}(h:zob F c left):zob F (zgl kV k c) (fun z=>left z&&!z.sameKey (.string k)):=by
 refine⟨ziz h.1,fun a=>?_⟩;rw [zpA,h.2];by_cases b:k=a
 ·subst b;rw [if_pos rfl];simp [Lit.sameKey]
 ·rw [if_neg b];have:(Lit.string a).sameKey (.string k)=false:=by
   show(a==k)=false
   simpa using fun e:a=k=>b e.symm
  simp only [this,Bool.not_false,Bool.and_true]
theorem zsW{F a:List EV}{left:Lit->Bool}(h:zob F a left)(hl:∀ k,left k=false):a=[]:=by
 refine ziB h.1 zem fun k=>?_;rw [h.2,hl];rfl
def zsX(KS:StK)(F FL:Nat->Prop)(g:Nat)(rs:List Rc)(m q:Nat)(fm:Option Nat)(T:List EV)(A:Option Addr)(c:Nat)(acks:List AckP)(w:World)(e:Ending)(w':World):Prop:=
 e=.returned (.tuple #[])/\∃ F' FS' lm',(∀ k,F' k->F k\/w.heap.size<=k)/\StB KS w' F' FL FS' g rs m q lm' fm T [] A c acks/\Touch F w w'
theorem zod(F i FS:Nat->Prop)(g m q:Nat)(rs:List Rc)(d:Option Nat)(l:List EV)(A:Option Addr)(c:Nat)(acks:List AckP)(w:World)(h:StB KS w F i FS g rs m q d none l [] A c acks) :
 Calls Tryz.prog 91 #[pointer (some ⟨g,0,none⟩)] w (zsX KS F i g rs m q none l A c acks w):=by
 have c6:=zgU h.lg;have o:=run_range_nilMap (P:=Tryz.prog) w 106 9 46 Tryz.underlying106;have p:=fun ty=>run_next_nilMap (P:=Tryz.prog) w ty 0 0 #[];have j:=zhd h;clear h;go_enter Tryz.func91,Tryz.ntmps91
 go_wp2_with fail
 refine wp_loop_rounds 1 ?_;rw [rounds_succ];go_wp2;go_end0
 have a:Below w.heap.size w (w.alloc (.mapIter none 0 #[] 0)):=(Below.refl _ w).alloc (Nat.le_refl _) _;exact⟨rfl,F,FS,d,fun k b=>Or.inl b,j.out.keep a.size fun k b=>a.block k (j.out.lt k b),Touch.ofBelow a⟩
theorem zlJ(F I FS:Nat->Prop)(g m q f:Nat)(rs:List Rc)(lm:Option Nat)(y j:List EV)(A:Option Addr)(c:Nat)(acks:List AckP)(hn:y.length+j.length<=100000000)(w:World)(h:StB KS w F I FS g rs m q lm (some f) y j A c acks) :
 Calls Tryz.prog 91 #[pointer (some ⟨g,0,none⟩)] w (zsX KS F I g rs m q (some f) (zbm kV y j) A c acks w):=by
 have c6:=zgU h.lg;have bP:g<w.heap.size:=zaq c6;obtain⟨w1,bO,N,L,bD⟩:=zjP (zcZ h.tf.map);have bz:=zhd N;have bM:=zhd L;have aG:=zhd h.tl.srt;have aj:=zhd h.tf.srt;have HN:=zhd hn;have bA:=zhd h.tf.key;have bi:=zhd (h.keep L.size fun k i=>L.block k (h.lt k i));have bd:Hid (¬ F w.heap.size):=zhd fun hf=>by have:=h.lt _ hf;omega
 have bm:Hid (w.heap.size<w1.heap.size):=zhd (by omega);have bq:Hid (Touch F w w1):=zhd (Touch.ofBelow L);clear h hn N L bD;go_enter Tryz.func91,Tryz.ntmps91
 go_wp2_with fail
 go_loopw [2] (fun _ wr=>∃ (left:Lit->Bool) (cnt:Nat) (D B:List EV) (F' J:Nat->Prop) (t:Option Nat),Hid (zkR wr f w.heap.size j.length B left cnt)/\Hid (StB KS wr F' I J g rs m q t (some f) D B A c acks)/\Hid (znP y j D left)/\Hid (zob j B left)/\Hid (D.length+cnt<=y.length+j.length)/\
  Hid (∀ k,F' k->F k\/w.heap.size<=k)/\Hid (¬ F' w.heap.size)/\Hid (w.heap.size<wr.heap.size)/\Hid (Touch F w wr)) (fun _ wr=>wr.rangeLeft f w.heap.size)
 case atStart=>exact⟨_,_,y,j,F,FS,lm,bz,bi,zhd (zhL aG.out),zhd (zoc aj.out),zhd (Nat.le_refl _),zhd (fun k i=>Or.inl i),bd,bm,bq⟩
 case round=>
  obtain⟨left,cnt,D,B,F',J,t,HR,l,HP,T,aA,HF,O,X,HT⟩:=hrel;rcases zmO l.out.tf.srt HR.out 0 with⟨h0,hl,ai⟩|⟨x,a,aL,G,bh,ai,N,aR,ab,aQ,aI⟩
  ·have C:Hid (zsX KS F I g rs m q (some f) (zbm kV y j) A c acks w (.returned (.tuple #[])) wr):=zhd (by
    have h1:=zmP aG.out aj.out HP.out hl;have Z:=zsW T.out hl;have h3:=l.out;rw [h1,Z] at h3;exact⟨rfl,F',J,t,HF.out,h3,HT.out⟩)
   clear h0 hl;go_wp2;go_end0
   exact C.out
  ·have az:f≠w.heap.size:=fun e=>O.out (by rw [<-e];exact l.out.sub f (Or.inr (l.out.tf.inM f rfl)));have U:=l.out.sub g (Or.inl (zhq l.out.lg));have aK:∀ k,F' k->a.heap[k]?=wr.heap[k]?:=fun k i=>ab.block k (l.out.lt k i) fun e=>by injection e with e;exact O.out (by rw [<-e];exact i)
   have Q:=l.out.keep (by omega) aK;have d:=zhd Q;have W:Hid (∀ o,Below a.heap.size a (a.alloc o)):=zhd fun o=>(Below.refl _ a).alloc (Nat.le_refl _) o;have M:∀ o,StB KS (a.alloc o) F' I J g rs m q t (some f) D B A c acks:=fun o=>Q.keep (W.out o).size fun k i=>(W.out o).block k (Q.lt k i);have aM:=zhd M;have an:∀ o,zkR (a.alloc o) f w.heap.size j.length B (fun z=>left z&&!z.sameKey (.string x.1.k)) aL:=fun o=>N.keep (World.grownBy_alloc a o none) (by simp) (by simp);have aT:=zhd an;have C:=zhd G;have aP:=zhd (bA.out x (zm7 T.out G));have ay:Hid (∀ o,Calls Tryz.prog 124 #[pointer (some ⟨g,5,none⟩),evV x] (a.alloc o).drew (zsi g 5 t D x (a.alloc o).drew)):=zhd fun o=>
    ziE D t g 5 x (aP.out) (by have h1:=aA.out;have Z:=HN.out;omega) _ (show(a.alloc o).cell? _=_ from zdc (M o).lg) (show(a.alloc o).frozen? _=_ from zqd (M o).lg 5) ((M o).tl.map.keep fun _ _=>rfl)
   have aH:=zhd (Blk.new a 46 ⟨zbf x⟩);have bI:g<a.heap.size:=by have:=l.out.lt g U;omega
   have aD:=zhd aR;have R:=zhd aQ;have aW:Hid (Touch F w a):=zhd (HT.out.grown ab fun k e=>by injection e with e;exact Or.inr (by omega));have bG:=zhd az;clear Q M an N aR ab aQ bh G aK U az;unfold evV at ai aI;unfold zaT at ai aI;go_wp2_with fail
   obtain⟨b,r⟩:∃ b,a.alloc (cells ⟨zbf x⟩ 46)=b:=⟨_,rfl⟩;have bk:=zhd r;have ao:Below a.heap.size a b:=by rw [<-r];exact W.out _
   have bl:=zhd ao;have bS:b.heap.size=a.heap.size+1:=by rw [<-r];simp
   have S:=zhd (show StB KS b F' I J g rs m q t (some f) D B A c acks by rw [<-r];exact aM.out _);have bg:=zhd (show zkR b f w.heap.size j.length B (fun z=>left z&&!z.sameKey (.string x.1.k)) aL by rw [<-r];exact aT.out _);have al:=zhd (show Blk b a.heap.size 46 ⟨zbf x⟩ by rw [<-r];exact aH.out);have bv:=zhd (show Calls Tryz.prog 124 #[pointer (some ⟨g,5,none⟩),evV x] b.drew (zsi g 5 t D x b.drew) by rw [<-r];exact ay.out _);have aS:a.alloc (cells #[.string ⟨x.1.k.toArray⟩,int i64 x.1.s,int i64 x.1.u,int i64 x.1.o,.bool x.1.has,slice x.2.1 x.1.v.length x.2.2] 46)=b:=r;rw [aS];obtain⟨s0,s1,s2,s3,s4,s5⟩:=ent_cells al.out;have bQ:g<b.heap.size:=by omega
   have aZ:Hid (∀ p:World,p.heap[a.heap.size]?=b.heap[a.heap.size]?->p.cell? ⟨a.heap.size,0,none⟩=some (.string ⟨x.1.k.toArray⟩)/\p.cell? ⟨a.heap.size,1,none⟩=some (int i64 x.1.s)/\p.cell? ⟨a.heap.size,2,none⟩=some (int i64 x.1.u)/\
    p.cell? ⟨a.heap.size,3,none⟩=some (int i64 x.1.o)/\p.cell? ⟨a.heap.size,4,none⟩=some (.bool x.1.has)/\p.cell? ⟨a.heap.size,5,none⟩=some (slice x.2.1 x.1.v.length x.2.2)):=zhd fun p h=>by
     have E:Blk p a.heap.size 46 ⟨zbf x⟩:=h.trans al.out;exact⟨E.cell 0,E.cell 1,E.cell 2,E.cell 3,E.cell 4,E.cell 5⟩
   have aN:Hid (a.heap.size≠g/\¬ t=some a.heap.size):=zhd ⟨by omega,fun e=>by have:=d.out.lt _ (d.out.sub _ (Or.inr (d.out.tl.inM _ e)));omega⟩;clear bk ao aM aT ay aH W r aS;go_region_held3 (fun w'=>w'.cell? ⟨a.heap.size,0,none⟩=some (.string ⟨x.1.k.toArray⟩)/\w'.cell? ⟨a.heap.size,1,none⟩=some (int i64 x.1.s)/\w'.cell? ⟨a.heap.size,2,none⟩=some (int i64 x.1.u)/\w'.cell? ⟨a.heap.size,3,none⟩=some (int i64 x.1.o)/\w'.cell? ⟨a.heap.size,4,none⟩=some (.bool x.1.has)/\w'.cell? ⟨a.heap.size,5,none⟩=some (slice x.2.1 x.1.v.length x.2.2))
    (first|go_keep|exact aZ.out _ bj.out)
    (first|(go_at_call 124;refine bv.out.mono ?_;rintro e K G;obtain⟨rfl,aJ,aw,ak⟩:=zuF S.out ((Below.refl _ _).drew) (zag (S.out.tf.own x C.out) ((Below.refl _ _).drew)) (S.out.tf.inF x C.out) (S.out.tf.ok x C.out) G;(have bj:Hid (K.heap[a.heap.size]?=b.heap[a.heap.size]?):=zhd (ak _ al.out.lt aN.out.1 aN.out.2));(have bp:=zhd (And.intro aJ (And.intro aw ak)));clear G aJ aw ak))
   all_goals
    clear s0 s1 s2 s3 s4 s5;obtain⟨⟨bH,af⟩,ae,ag⟩:=bp.out;have U:=d.out.sub g (Or.inl (zhq d.out.lg));have aa:=d.out.tf.inM f rfl;have ax:=ag f (by have:=d.out.lt f (d.out.sub f (Or.inr aa));omega) (fun e=>d.out.dis g (zhq d.out.lg) (by rw [<-e];exact aa)) (fun e=>d.out.ne f e rfl);have aq:=ag w.heap.size (by have:=X.out;have:=R.out;omega) (by omega) (fun e=>O.out (d.out.sub _ (Or.inr (d.out.tl.inM _ e))));have aE:=zqx bg.out ax aq;obtain⟨Y,bf,bK,V,bu,am⟩:=zsU aE (k:=x.1.k) (by have:=aP.out;unfold maxLen;omega) 0;rw [Maps.strike_twice] at V;have bJ:=zgU af.lg;obtain⟨au,ah⟩:=zv6 af am (zsV V);have aO:=zhd V;have bn:=zhd au;have aU:=zhd (zjQ aj.out HP.out (zm7 T.out C.out));have bx:=zhd (zqy (k:=x.1.k) T.out);have aX:Hid ((zbZ kV D x).length+bf<=y.length+j.length):=zhd (by have h1:=aA.out;have Z:=ziC (key:=kV) x D;have h3:=aD.out;omega);have bC:b.heap.size<=K.heap.size:=ae.size;have bw:K.heap.size<=Y.heap.size:=ah.size;have aB:Hid (∀ k,Now b K F' k->F k\/w.heap.size<=k):=zhd fun k i=>by
     rcases i.1 with h|h
     ·exact HF.out k h
     ·have:=X.out;have:=R.out;exact Or.inr (by omega)
    have bo:Hid (¬ Now b K F' w.heap.size):=zhd fun i=>by
     rcases i.1 with h|h
     ·exact O.out h
     ·have:=X.out;have:=R.out;omega
    have aV:Hid (w.heap.size<Y.heap.size):=zhd (by have:=X.out;have:=R.out;omega);have br:Hid (Touch F w Y):=zhd (((aW.out.thenBelow bl.out).trans ae HF.out).trans ah aB.out);have aY:Hid (Y.rangeLeft f w.heap.size<wr.rangeLeft f w.heap.size):=zhd (by rw [World.ranges.left_eq aO.out,World.ranges.left_eq HR.out];have:=aD.out;omega);clear af ae ag U aa ax aq aE V bu am au ah bC bw;go_wp2;go_roundw
    case rel=>exact⟨_,_,_,_,_,_,_,aO,bn,aU,bx,aX,aB,bo,aV,br⟩
    case measure=>exact aY.out
theorem zgX(F i FS:Nat->Prop)(g m q:Nat)(rs:List Rc)(k j:Option Nat)(a d:List EV)(A:Option Addr)(c:Nat)(acks:List AckP)(l:a.length+d.length<=100000000)(w:World)(h:StB KS w F i FS g rs m q k j a d A c acks) :
 Calls Tryz.prog 91 #[pointer (some ⟨g,0,none⟩)] w (zsX KS F i g rs m q j (zbm kV a d) A c acks w):=by
 cases j with
 | none=>
  have:d=[]:=by
   rcases h.tf.map with⟨_,h⟩|⟨b,h,_⟩
   ·exact h
   ·cases h
  subst this;exact zod F i FS g m q rs k a A c acks w h
 | some f=>exact zlJ F i FS g m q f rs k a d A c acks l w h
end
section
open Go.RowKit Mem Be Word Frm Go.Maps
variable {KS KS' : StK}
def zc4(S:St8):St8:=⟨S.rs,S.rs.length,S.N,S.N,[]⟩
def zv7(KS:StK)(F:Nat->Prop)(g:Nat)(S:St8)(q:Nat)(w:World)(e:Ending)(w':World):Prop:=
 ∃ F' A c q',e=.returned (.tuple #[slice A S.acks.length c,int i64 0])/\w'.ownsRow 0 130 5 (slice A S.acks.length c) S.acks.length (zaE S.acks)/\(∀ a,A=some a->¬ F' a.block)/\(∀ k,F' k->F k\/w.heap.size<=k)/\q'<=q+1/\zci KS w' F' g (zc4 S) q'/\Touch F w w'
theorem zm8{S:St8}(h:Ok8 S):Ok8 (zc4 S):=by
 refine⟨Nat.le_refl _,h.newer,?_,fun j b a=>?_⟩
 ·show zd3 (S.rs.take S.rs.length)=_
  rw [List.take_of_length_le (Nat.le_refl _)];exact h.newer
 ·have:j=S.rs.length:=Nat.le_antisymm a b;subst this;show(zd3 (S.rs.take S.rs.length)).isSome=true
  rw [List.take_of_length_le (Nat.le_refl _),h.newer];rfl
theorem zuN{W:World}{F E FS:Nat->Prop}{g m q:Nat}{rs:List Rc}{z v:Option Nat}{J I:List EV}{A:Option Addr}{c:Nat}{acks:List AckP}(h:StB KS W F E FS g rs m q z v J I A c acks) :
 StB KS (W.setCell ⟨g,7,none⟩ (slice none 0 0)) (fun k=>F k/\∀ a,A=some a->a.block≠k) E (fun k=>FS k/\∀ a,A=some a->a.block≠k) g rs m q z v J I none 0 []/\Touch F W (W.setCell ⟨g,7,none⟩ (slice none 0 0))/\
  (W.setCell ⟨g,7,none⟩ (slice none 0 0)).ownsRow 0 130 5 (slice A acks.length c) acks.length (zaE acks):=by
 have y:=zhq h.lg;have d:∀ k,k≠g->(W.setCell ⟨g,7,none⟩ (slice none 0 0)).heap[k]?=W.heap[k]?:=fun k d=>Below.heap_setCell W ⟨g,7,none⟩ _ k d;have L:(W.setCell ⟨g,7,none⟩ (slice none 0 0)).heap.size=W.heap.size:=by simp [World.setCell]
 have s:∀ k,FS k->k≠g:=fun k d e=>h.dis g y (by rw [<-e];exact d);have u:∀ a,A=some a->FS a.block:=h.inA;have t:∀ {r:Option Nat} {T:List EV},TabAt W FS r T->TabAt (W.setCell ⟨g,7,none⟩ (slice none 0 0)) (fun k=>FS k/\∀ a,A=some a->a.block≠k) r T:=fun {r T} ht=>by
  have j:=ht.keep fun k K=>d k (s k K);refine⟨j.map,fun b B=>⟨ht.inM b B,fun a i e=>?_⟩,j.srt,j.own,fun x D M C=>⟨ht.inF x D M C,fun a i e=>?_⟩,j.ok⟩
  ·have G:=ht.map;rw [B] at G;exact zbU h.own (zcZ G) i e
  ·obtain⟨_,_,N,o⟩:=zaJ (ht.own x D) C;obtain⟨_,_,O,l⟩:=zaJ h.own i;rw [e,o] at l;injection l with l;injection l with _ l;exact absurd l (by decide)
 refine⟨⟨ztP h.lg _,t h.tl,t h.tf,h.ne,World.ownsRow_nil _ _ _ _,zcL _,fun k j o=>h.dis k j o.1,fun k d=>?_,fun k d=>by rw [L];exact h.lt k d.1⟩,(Touch.refl F W).set_ (p:=⟨g,7,none⟩) (Or.inl (h.sub g (Or.inl y))) _,
  zaj h.own fun a i=>d _ (s _ (u a i))⟩
 rcases d with d|d
 ·exact⟨h.sub k (Or.inl d),fun a i e=>h.dis k d (by rw [<-e];exact u a i)⟩
 ·exact⟨h.sub k (Or.inr d.1),d.2⟩
theorem zqz(F:Nat->Prop)(g q:Nat)(S:St8)(hq:q<=4611686018427387904)(w:World)(h:zci KS w F g S q) :
 Calls Tryz.prog 86 #[pointer (some ⟨g,0,none⟩)] w (zv7 KS F g S q w):=by
 have X:=h.many;have T:=(zfl h).1;obtain⟨K,FL,FS,G,l,p,o,A,c,j,x,V,h⟩:=h;have c5:=zdc h.lg;have aa:g<w.heap.size:=zaq c5;have t:=zhd (zqa (J:=stK KS G l (slice A S.acks.length c)) FL g S.m q S.rs hq w h.lg);have HS:=zhd h;have R:=zhd K;have L:=zhd (And.intro j x);have Q:Hid (p.length+o.length<=100000000):=zhd (by
  have:=congrArg List.length j;rw [List.length_map] at this;omega)
 clear h K j x V c5 X T;go_enter Tryz.func86,Tryz.ntmps86
 go_wp2_with fail
 refine t.out.mono ?_;rintro e w1 ⟨rfl,v,E,I,z⟩;obtain⟨M,y⟩:=zkd HS.out (Below.refl _ _) E I z;have D:=zhd y;have N:=zhd (zgX _ v FS g S.rs.length _ S.rs G l p o A c S.acks Q.out w1 M);clear M y E I z t;go_wp2_with fail
 refine N.out.mono ?_;rintro e W ⟨rfl,U,ab,Y,u,d,C⟩;have c7:=zka d.lg;have z7:=zqd d.lg 7;obtain⟨B,s,r⟩:=zuN d;have i:∀ k,U k->F k\/w.heap.size<=k:=fun k b=>by
  rcases u k b with h|h
  ·exact h.1
  ·exact Or.inr (Nat.le_trans D.out.size h)
 have Z:Hid (zv7 KS F g S q w (.returned (.tuple #[slice A S.acks.length c,int i64 0])) (W.setCell ⟨g,7,none⟩ (slice none 0 0))):=zhd (by
  refine⟨_,A,c,upN (zac (S.rs.drop S.m)) q,rfl,r,fun a O b=>b.2 a O rfl,fun k b=>i k b.1,?_,⟨zm8 R.out,v,_,Y,l,zbm kV p o,[],none,0,?_,rfl,Nat.zero_le _,B⟩,(D.out.trans C fun k b=>b.1).trans s i⟩
  ·unfold upN;split<;>omega
  ·rw [zkb,L.out.1,L.out.2];rfl)
 clear u d C B s r i N;go_wp2;go_ret2
 exact Z.out
theorem zoe(a:List EV)(A:Option Addr)(n c:Nat)(T:n=a.length)(hl:n<=8388608)(w:World)(U:Row w w.heap.size A (zaG a))(hv:∀ x∈a,okE x.1/\ValOk w x.1.has x.2.1 x.1.v x.2.2) :
 Calls Tryz.prog 89 #[slice A n c] w (zgv w.heap.size (zb0 (zcO a)) 0 w):=by
 obtain⟨i0,al,aj,ah,aw⟩:=info_parts zaB;have HR:=zhd U;have K:=zhd hv;have HN:=zhd T;have HL:=zhd hl;have ay:(n:Int)<=8388608:=by omega
 clear U hv T hl;go_enter Tryz.func89,Tryz.ntmps89
 go_wp2_with fail
 go_loopw [4,13] (fun v i wr=>∃ (j:Nat) (m:Option Addr) (c1:Nat) (X:List UInt8),j<=n/\i=int i64 j/\v=slice m X.length c1/\Hid (X=zb0 (zcO (a.take j)))/\Hid (X.length<=j*70000)/\Hid (wr.ownsRow w.heap.size 5 1 (slice m X.length c1) X.length (X.map zaa))/\Hid (Below w.heap.size w wr)) (fun _ i _=>n - (intOf i).toNat)
 case atStart=>exact⟨0,none,0,[],Nat.zero_le _,rfl,rfl,zhd rfl,zhd (Nat.zero_le _),zhd (World.ownsRow_nil _ _ _ _),zhd (Below.refl _ _)⟩
 case round=>
  obtain⟨j,m,c1,X,hj,rfl,rfl,O,I,HO,k⟩:=hrel;by_cases au:j<n
  ·have M:j<a.length:=by rw [<-HN.out];exact au
   obtain⟨b,o,rfl,am,hc⟩:=zbc HR.out (by omega);obtain⟨k0,k1,G,L,N,k5⟩:=hc j M;obtain⟨x,q⟩:∃ x,a[j]=x:=⟨_,rfl⟩;have l:x∈a:=by rw [<-q];exact List.getElem_mem M
   have ab:a.take (j+1)=a.take j++[x]:=by rw [List.take_succ_eq_append_getElem M,q]
   rw [q] at k0 k1 G L N k5;have d:∀ {i:Nat} {v:Value},w.cell? ⟨b,i,none⟩=some v->wr.cell? ⟨b,i,none⟩=some v:=fun {i v} h=>(k.out.cell (p:=⟨b,i,none⟩) am).trans h;have d0:=d k0;have d1:=d k1;have d2:=d G;have d3:=d L;have d4:=d N;have d5:=d k5;have u:Hid (∀ o,Calls Tryz.prog 121 #[evV x] (wr.alloc o) (zgv (wr.alloc o).heap.size (zbe x.1) 0 (wr.alloc o))):=zhd fun o=>zfM x (K.out x l).1 _ ((K.out x l).2.below (k.out.trans (((Below.refl _ wr).alloc (Nat.le_refl _) o).mono k.out.size)));have J:=zhd (zcN (K.out x l).1);have ao:=zhd ab;have aq:Hid (∀ o,Below wr.heap.size wr (wr.alloc o)):=zhd fun o=>(Below.refl _ wr).alloc (Nat.le_refl _) o;have az:(0:Int)<=(j:Int):=by omega
   have aA:(j:Int)<(n:Int):=by omega
   obtain⟨B,s⟩:∃ B,zbe x.1=B:=⟨_,rfl⟩;have an:=zhd s;rw [s] at u J;clear hc k0 k1 G L N k5 q l ab d s;unfold evV at u;go_wp2_with fail
   refine(u.out _).mono ?_;rintro e F ⟨A2,c2,rfl,af,Z⟩;have R:Hid (Below wr.heap.size wr F):=zhd ((aq.out _).trans (Z.mono (by simp)));have V:=zhd (zid F.heap.size c2 B.length A2 B rfl F (Row.of_own af) (Nat.le_refl _) J.out);clear af Z;go_wp2_with fail
   refine V.out.mono ?_;rintro e w3 ⟨A3,c3,rfl,t,ae⟩;obtain⟨Y,r⟩:∃ Y,zbx B=Y:=⟨_,rfl⟩;have Q:=zhd r;have ag:Y.length<=70000:=by
    have E:=zbo (B.length:Int);have C:=J.out;rw [<-r];unfold zbx;rw [List.length_append];omega
   have z:=zhd ag;rw [r] at t;have aa:=zhd (R.out.trans (ae.mono R.out.size));have S:=zhd (zag HO.out aa.out);have ax:=zhd (Row.of_own t);have y:=zhd (k.out.trans (aa.out.mono k.out.size));clear t ae V r ag;rw [Q.out];go_wp2_with (at_builtin;refine zan _ (by rfl) _ _ 27 (by rfl) w.heap.size 5 i0 (int .u8 0) 1 Tryz.underlying27 al aj ah aw rfl _ X.length _ (by rfl) S.out w3.heap.size A3 Y.length c3 (Y.map zaa) (by rfl) (by simp) ax.out (zaH _) (by have E:=I.out;have C:=z.out;have h3:=HL.out;unfold maxLen;omega) (by have E:=I.out;have C:=z.out;have h3:=HL.out;omega) y.out.size ?_)
   intro v' w4 D W _;obtain⟨A4,c4,rfl,_,_⟩:=zat D;have ai:=zhd (y.out.grown W y.out.size fun g h=>(S.out.lt g h).1);have ak:=zhd D;clear D W;go_wp2;go_roundw
   case rel=>exact⟨j+1,A4,c4,X++Y,by omega,by go_num,by rw [List.length_append],zhd (by rw [ao.out,O.out];unfold zb0 zcO;rw [List.map_append,List.flatMap_append];simp [an.out,Q.out]),zhd (by rw [List.length_append];have E:=I.out;have C:=z.out;omega),zhd (by rw [List.length_append,List.map_append];exact ak.out),ai⟩
   case measure=>simp [intOf];omega
  ·obtain rfl:j=n:=by omega
   have ht:a.take j=a:=List.take_of_length_le (by rw [<-HN.out];omega);rw [ht] at O;go_wp2;go_ret2
   rw [<-O.out];exact⟨m,c1,rfl,HO.out,k.out⟩
end
section
open Go.RowKit Mem Be Word Frm Go.Maps
variable {KS KS' : StK}
def zbV(S:St8):St8×Int:=if 65536<(zb0 S.N).length then(S,3) else(⟨[(0,zb0 S.N)],1,S.N,S.N,S.acks⟩,0)
theorem zsY{S:St8}(h:Ok8 S):Ok8 ⟨[(0,zb0 S.N)],1,S.N,S.N,S.acks⟩:=by
 have a:=zst h.nOk;refine⟨Nat.le_refl _,a,a,fun j b c=>?_⟩;have:j=1:=Nat.le_antisymm c b;subst this;show(zd3 ([(0,zb0 S.N)].take 1)).isSome=true
 rw [show [((0:UInt8),zb0 S.N)].take 1=[(0,zb0 S.N)] from rfl,a];rfl
theorem zlK(w:World):Calls Tryz.prog 60 #[.pointer none] w fun e w'=>e=.returned (int i64 1)/\w=w':=by
 go_enter Tryz.func60,Tryz.ntmps60
 go_wp2;go_ret;exact⟨rfl,rfl⟩
theorem zkk{w w1 a:World}{b:Nat}(h:Below w.heap.size w w1)(ht:Touch (fun k=>k=b) w1 a)(c:w.heap.size<=b):Below w.heap.size w a:=h.trans (ht.below h.size fun k d=>by subst d;exact c)
theorem zkl(F:Nat->Prop)(g q:Nat)(S:St8)(w:World)(h:zci KS w F g S q) :
 Calls Tryz.prog 60 #[pointer (some ⟨g,0,none⟩)] w (zqf KS (int i64 (zbV S).2) F g (zbV S).1 q w):=by
 have hm:=zfl h;have aS:=h.many;obtain⟨h0,FL,FS,E,l,b,s,A,c,K,y,au,h⟩:=h;have d5:=zdc h.lg;have d6:=zgU h.lg;have ah:g<w.heap.size:=zaq d5;have bh:=@run_makeMap Tryz.prog;obtain⟨w1,aH⟩:∃ w1,w.alloc (.map #[] 0)=w1:=⟨_,rfl⟩;have L:Below w.heap.size w w1:=by rw [<-aH];exact zbl
 have az:zdg w1 w.heap.size []:=by rw [<-aH];exact zdg.made w
 have aR:b.length<=8388608:=by have:=congrArg List.length K;rw [List.length_map] at this;omega
 have hne:∀ {mo:Option Nat} {T:List EV},TabAt w FS mo T->∀ f,mo=some f->w.heap.size≠f:=fun {mo T} ht f hf e=>by have:=h.lt _ (h.sub _ (Or.inr (ht.inM f hf)));omega
 have ag:=zhd (zjR [] b w.heap.size E (hne h.tl) zem h.tl.srt (by simp;omega) (fun x a=>by have:=h.tl.key x a;unfold maxLen;omega) w1 az (h.tl.map.below L));have ay:zbm kV [] b=b:=zpC h.tl.srt;rw [ay] at ag;have af:Hid (∀ W,Below w.heap.size w W->zdg W w.heap.size b->Calls Tryz.prog 88 #[.map (some w.heap.size),.map l] W fun e w'=>e=.returned (.tuple #[])/\zdg w' w.heap.size (zbm kV b s)/\Touch (fun k=>k=w.heap.size) W w'):=zhd fun W hb hT=>
  zjR b s w.heap.size l (hne h.tf) h.tl.srt h.tf.srt (by omega) (fun x a=>by have:=h.tf.key x a;unfold maxLen;omega) W hT (h.tf.map.below hb)
 obtain⟨M,r⟩:∃ M,zbm kV b s=M:=⟨_,rfl⟩;have Q:Hid (zcO M=S.N):=zhd (by rw [<-r,zkb,K,y]);have aW:Hid (zaO kV M):=zhd (by rw [<-r];exact zen h.tl.srt);have an:Hid (∀ x∈M,ValOk w x.1.has x.2.1 x.1.v x.2.2/\okE x.1):=zhd fun x a=>by
  rw [<-r] at a;rcases zpD a with a|a
  ·exact⟨h.tf.val x a,h.tf.ok x a⟩
  ·exact⟨h.tl.val x a,h.tl.ok x a⟩
 have aA:Hid (M.length<=8388608):=zhd (by have:=congrArg List.length Q.out;rw [List.length_map] at this;omega);rw [r] at af;have bd:Hid (b.length+s.length<=100000000):=zhd (by omega);have c5:w1.cell? ⟨g,5,none⟩=some (.map E):=(L.cell (p:=⟨g,5,none⟩) ah).trans d5;have t:=zhd h;have H0:=zhd h0;have ai:=zhd (And.intro K (And.intro y au));have aV:=zhd L;have aX:=zhd d6;have bf:=zhd r;obtain⟨R,Y⟩:∃ R,zbV S=R:=⟨_,rfl⟩;have O:=zhd Y;rw [Y];clear h h0 K y au hm aS d5 d6 L az aR hne ay r Y;go_enter Tryz.func60,Tryz.ntmps60
 go_wp2_with fail
 refine ag.out.mono ?_;rintro e w2 ⟨rfl,aN,aI⟩;have X:=zhd (zkk aV.out aI (Nat.le_refl _));have c6:w2.cell? ⟨g,6,none⟩=some (.map l):=(X.out.cell (p:=⟨g,6,none⟩) ah).trans aX.out;have aB:=zhd (af.out w2 X.out aN);clear aN aI ag c5;go_wp2_with fail
 refine aB.out.mono ?_;rintro e w3 ⟨rfl,ak,aM⟩;have ab:=zhd (zkk X.out aM (Nat.le_refl _));have ae:=zfd M (some w.heap.size) aW.out aA.out w3 (Or.inr ⟨_,rfl,ak⟩) (fun x a=>(an.out x a).1.below ab.out) (fun x a=>by have:=(zah (an.out x a).2).2.1;unfold maxLen;omega);rw [show M.map Prod.fst=S.N from Q.out] at ae;have aP:=zhd ae;clear ak aM aB af ae c6;go_wp2_with fail
 refine aP.out.mono ?_;rintro e w4 ⟨us,A4,c4,U,rfl,aw,ao,am⟩;have Z:=zhd (ab.out.trans (am.mono ab.out.size));have aa:=zoe us A4 us.length c4 rfl (by have:=congrArg List.length U;rw [List.length_map] at this;have y:=congrArg List.length Q.out;rw [List.length_map] at y;have:=aA.out;omega) w4 (zcz aw) (fun x a=>by
  have aU:x.1∈S.N:=by rw [<-U];exact List.mem_map_of_mem a
  have aq:=H0.out.nOk.ok _ aU;exact⟨aq,ze8 (ao x a) (by have:=(zah aq).2.2.1;omega)⟩)
 rw [show zcO us=S.N from U] at aa;have al:=zhd aa;clear U aw ao am aP aa;go_wp2_with fail
 refine al.out.mono ?_;rintro e w5 ⟨A5,c5,rfl,aG,aL⟩;have u:=zhd (Z.out.trans (aL.mono Z.out.size));have aQ:=zhd (t.out.keep u.out.size fun k d=>u.out.block k (t.out.lt k d));have i:=zhd (zqb (J:=stK KS E l (slice A S.acks.length c)) FL g S.m q (zb0 S.N).length c5 S.rs A5 (zb0 S.N) rfl w5 aQ.out.lg (zaF (w:=w) (fun k d=>t.out.lt k (t.out.sub k (Or.inl d))) (zaz aG Z.out.size)));have bg:g<w5.heap.size:=Nat.lt_of_lt_of_le ah u.out.size;clear aG aL al;by_cases o:65536<(zb0 S.N).length
 ·have z:=O.out;rw [show zbV S=(S,3) from if_pos o] at z;rw [show zgT S.rs S.m (zb0 S.N)=(S.rs,S.m,3) from if_pos o] at i;subst z;clear o O;obtain⟨B,j⟩:∃ B,zb0 S.N=B:=⟨_,rfl⟩;rw [j] at i ⊢;clear j;go_wp2_with fail
  refine i.out.mono ?_;rintro e w6 ⟨rfl,I,D,G,C⟩;have V:=zhd (zkd t.out u.out D G C);clear D G C i;go_wp2;go_ret;exact⟨rfl,_,fun k d=>d.1,⟨H0.out,I,FS,E,l,b,s,A,c,ai.out.1,ai.out.2.1,ai.out.2.2,V.out.1⟩,V.out.2⟩
 ·have z:=O.out;rw [show zbV S=(⟨[(0,zb0 S.N)],1,S.N,S.N,S.acks⟩,0) from if_neg o] at z;rw [show zgT S.rs S.m (zb0 S.N)=([(0,zb0 S.N)],1,0) from if_neg o] at i;subst z;clear o O;obtain⟨B,j⟩:∃ B,zb0 S.N=B:=⟨_,rfl⟩;have aZ:=zhd j;rw [j] at i;simp only at i ⊢;rw [j];clear j;go_wp2_with fail
  refine i.out.mono ?_;rintro e w6 ⟨rfl,I,D,G,C⟩;obtain⟨aO,aJ⟩:=zkd t.out u.out D G C;have aj:=zhd aJ;have aD:=zhd (zgX _ I FS g 1 _ _ E l b s A c S.acks bd.out w6 aO);clear aO aJ D G C i;go_wp2_with fail
  refine aD.out.mono ?_;rintro e w7 ⟨rfl,F2,aY,aT,aK,aE,ax⟩;have V:Hid (zqf KS (int i64 0) F g ⟨[(0,zb0 S.N)],1,S.N,S.N,S.acks⟩ q w (.returned (int i64 0)) w7):=zhd (by
   refine⟨rfl,F2,fun k d=>?_,⟨zsY H0.out,I,aY,aT,l,M,[],A,c,Q.out,rfl,Nat.zero_le _,?_⟩,aj.out.trans ax fun k d=>d.1⟩
   ·rcases aK k d with h|h
    ·exact h.1
    ·exact Or.inr (Nat.le_trans aj.out.size h)
   ·rw [<-bf.out,aZ.out];exact aE)
  clear aK aE ax aD;go_wp2;go_ret;exact V.out
end
end Go.Proofs.YtahnjkkgojfdmaaGreatDoor
