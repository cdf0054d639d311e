import Derived.Test.YtahnjkkgojfdmaaGreatDoorSZ1
import Derived.Test.YtahnjkkgojfdmaaGreatDoorGrpDa
set_option maxRecDepth 100000
set_option maxHeartbeats 8000000
set_option linter.unusedVariables false
namespace Go.Proofs.YtahnjkkgojfdmaaGreatDoor
open Go.Obj(cells)
open Go.IntKind(i64)
open Go.Value(int slice)
section
open Go.RowKit Mem Be Word Frm
theorem zlN(rs:List Rc):LastIs (rs.take 0) 0:=⟨by simp,fun j h=>by simp at h,fun k a=>by omega⟩
theorem zoh{rs:List Rc}{j:Nat}(h:j<rs.length)(a:rs[j].1=0):LastIs (rs.take (j+1)) (j+1):=by
 refine⟨by rw [List.length_take];omega,fun i b d=>?_,fun k c=>?_⟩
 ·rw [List.length_take] at b;omega
 ·obtain rfl:k=j:=by omega
  exact⟨by rw [List.length_take];omega,by rw [List.getElem_take];exact a⟩
theorem zqI{rs:List Rc}{j p:Nat}(hl:LastIs (rs.take j) p)(h:j<rs.length)(l:rs[j].1≠0):LastIs (rs.take (j+1)) p:=by
 have m:=hl.le;rw [List.length_take] at m;refine⟨by rw [List.length_take];omega,fun i o d=>?_,fun k g=>?_⟩
 ·rw [List.length_take] at o;rw [List.getElem_take];rcases Nat.lt_or_ge i j with c|c
  ·have:=hl.no i (by rw [List.length_take];omega) d;rw [List.getElem_take] at this;exact this
  ·obtain rfl:i=j:=by omega
   exact l
 ·obtain⟨b,a⟩:=hl.yes k g;rw [List.length_take] at b;rw [List.getElem_take] at a;exact⟨by rw [List.length_take];omega,by rw [List.getElem_take];exact a⟩
theorem zlO(z AT R:Option Addr)(n A m B k c x:Nat)(q:Int)(d:List za3)(G:k=d.length)(T:k<=1000000000)(w:World)(h:Row w w.heap.size R (zaw d)) :
 Calls Tryz.prog 103 #[.agg #[slice z n A,slice AT m B,int i64 q,slice R k c,int i64 (x:Int)]] w fun e w'=>(∃ p,LastIs (d.map za1) p/\e=.returned (int i64 ((p:Int) - 1)))/\Below w.heap.size w w':=by
 obtain⟨l,s⟩:∃ l,w.alloc (cells #[slice z n A,slice AT m B,int i64 q,slice R k c,int i64 (x:Int)] 32)=l:=⟨_,rfl⟩;have y:Below w.heap.size w l:=by rw [<-s];exact zbl
 have D:Blk l w.heap.size 32 #[slice z n A,slice AT m B,int i64 q,slice R k c,int i64 (x:Int)]:=by rw [<-s];exact Blk.new _ _ _
 obtain⟨b,v⟩:∃ b,w.heap.size=b:=⟨_,rfl⟩;have L:=zhd (h.below y);have M:=zhd y;have U:l.cell? ⟨b,3,none⟩=some (slice R k c):=by rw [<-v];exact D.cell 3
 have F:=zhd G;have W:(k:Int)<=1000000000:=by omega
 have J:=zhd s;have K:=zhd v;clear h y D s G v;go_enter Tryz.func103,Tryz.ntmps103
 go_wp2_with fail
 rw [J.out];rw [K.out];go_wp2;go_loop [3,4] (fun a i=>∃ j p:Nat,j<=k/\i=int i64 j/\a=int i64 ((p:Int) - 1)/\Hid (LastIs ((d.map za1).take j) p)) (fun _ i=>k - (intOf i).toNat)
 case atStart=>exact⟨0,0,by omega,rfl,rfl,zhd (zlN _)⟩
 case round=>
  obtain⟨j,p,Q,rfl,rfl,C⟩:=hrel;by_cases N:j<k
  ·have E:j<d.length:=by rw [<-F.out];exact N
   obtain⟨S,o,rfl,_,hc⟩:=zcX L.out (by omega);have O:=(hc j E).1;have Y:(0:Int)<=(j:Int):=by omega
   have V:(j:Int)<(k:Int):=by omega
   have u:j<(d.map za1).length:=by rw [List.length_map];exact E
   have t:((d.map za1)[j]'u).1=d[j].1:=by rw [List.getElem_map];rfl
   by_cases g:d[j].1=0
   ·have r:=zhd (zoh u (t.trans g));rw [g] at O;clear hc t g;go_wp2;go_round
    case rel=>exact⟨j+1,j+1,by omega,by go_num,by congr 1;omega,r⟩
    case measure=>simp [intOf];omega
   ·have r:=zhd (zqI C.out u (by rw [t];exact g));have X:=zgR g;clear hc t g;go_wp2;go_round
    case rel=>exact⟨j+1,p,by omega,by go_num,rfl,r⟩
    case measure=>simp [intOf];omega
  ·obtain rfl:j=k:=by omega
   have I:(d.map za1).take j=d.map za1:=List.take_of_length_le (by rw [List.length_map,<-F.out];exact Nat.le_refl _);have r:Hid (LastIs (d.map za1) p):=zhd (by rw [<-I];exact C.out);clear I;go_wp2;go_ret;exact⟨⟨p,r.out,rfl⟩,M.out⟩
def zs2(bs:List UInt8)(w:World)(e:Ending)(w':World):Prop:=
 ∃ (AL:Option Addr) (cL:Nat) (vs:List za3) (R:Option Addr) (c:Nat),vs.map za1=(zar bs).1/\
  e=.returned (.tuple #[.agg #[slice AL (zar bs).2.1 cL,slice none 0 0,int i64 0,slice R vs.length c,int i64 (vs.length:Int)],int i64 ((bs.length:Int) - ((zar bs).2.1:Int))])/\
  w'.ownsRow w.heap.size 5 1 (slice AL (zar bs).2.1 cL) (zar bs).2.1 ((bs.take (zar bs).2.1).map zaa)/\w'.ownsRow w.heap.size 168 2 (slice R vs.length c) vs.length (zaw vs)/\zb1 w' w.heap.size vs/\Below w.heap.size w w'
theorem zbW{a:World}{b:Nat}{o m j i g u0 u1 u2 u3 u4:Value}(h:Blk a b 32 #[o,m,j,i,g]) :
 Blk (((((a.setCell ⟨b,0,none⟩ u0).setCell ⟨b,1,none⟩ u1).setCell ⟨b,2,none⟩ u2).setCell ⟨b,3,none⟩ u3).setCell ⟨b,4,none⟩ u4) b 32 #[u0,u1,u2,u3,u4]/\
 (∀ k,k≠b->(((((a.setCell ⟨b,0,none⟩ u0).setCell ⟨b,1,none⟩ u1).setCell ⟨b,2,none⟩ u2).setCell ⟨b,3,none⟩ u3).setCell ⟨b,4,none⟩ u4).heap[k]?=a.heap[k]?)/\
 ∀ w:World,Below w.heap.size w a->w.heap.size<=b->Below w.heap.size w (((((a.setCell ⟨b,0,none⟩ u0).setCell ⟨b,1,none⟩ u1).setCell ⟨b,2,none⟩ u2).setCell ⟨b,3,none⟩ u3).setCell ⟨b,4,none⟩ u4):=
 ⟨((((h.set_ 0 u0).set_ 1 u1).set_ 2 u2).set_ 3 u3).set_ 4 u4,fun k d=>((((Below.heap_setCell _ ⟨b,4,none⟩ u4 _ d).trans (Below.heap_setCell _ ⟨b,3,none⟩ u3 _ d)).trans (Below.heap_setCell _ ⟨b,2,none⟩ u2 _ d)).trans (Below.heap_setCell _ ⟨b,1,none⟩ u1 _ d)).trans (Below.heap_setCell _ ⟨b,0,none⟩ u0 _ d),
  fun w l c=>((((l.setCell (p:=⟨b,0,none⟩) c _).setCell (p:=⟨b,1,none⟩) c _).setCell (p:=⟨b,2,none⟩) c _).setCell (p:=⟨b,3,none⟩) c _).setCell (p:=⟨b,4,none⟩) c _⟩
theorem zgZ(n c0:Nat)(l:Option Addr)(bs:List UInt8)(A:n=bs.length)(hc:n<=c0)(hl:n<=4194304)(w:World)(h:Row w w.heap.size l (bs.map zaa)) :
 Calls Tryz.prog 102 #[slice l n c0] w (zs2 bs w):=by
 obtain⟨j,u⟩:∃ j,w.alloc (cells #[slice none 0 0,slice none 0 0,int i64 0,slice none 0 0,int i64 0] 32)=j:=⟨_,rfl⟩;have p:Below w.heap.size w j:=by rw [<-u];exact zbl
 have J:Blk j w.heap.size 32 #[slice none 0 0,slice none 0 0,int i64 0,slice none 0 0,int i64 0]:=by rw [<-u];exact Blk.new _ _ _
 obtain⟨b,F⟩:∃ b,w.heap.size=b:=⟨_,rfl⟩;have Y:=zhd ((h.below p).more p.size);have B:=zhd p;have i:=zhd A;have ab:=zhd u;have ao:=zhd F;have E:=zhd J;have T:=zhd (zgP n j.heap.size c0 n l bs (Nat.le_refl _) A hc j Y.out (Nat.le_refl _) hl);have ah:=zfI bs;have ak:(n:Int)<=4194304:=by omega
 clear h p J u F A;go_enter Tryz.func102,Tryz.ntmps102
 go_wp2_with fail
 rw [ab.out];go_wp2_with fail
 refine T.out.mono ?_;rintro e w2 ⟨g,R,q,Q,rfl,L,X,t⟩;obtain⟨s,z⟩:∃ s,(zar bs).2.1=s:=⟨_,rfl⟩;have Z:=zhd Q;have D:=zhd z;rw [z] at ah ⊢;have ae:=zhd L;have af:=zhd X;have y:=zhd t;have hcut:=fun W=>zbk (P:=Tryz.prog) (w:=W) 27 5 _ _ Tryz.underlying27 zaB l n c0 s (by have:=i.out;omega);have ag:=zhd ((Y.out.below t).more t.size);have au:s<=n:=by have:=i.out;omega
 have aq:(s:Int)<=(n:Int):=by omega
 have am:g.length<=4194304:=by
  have h1:=zd5 (rs:=g.map za1) (M:=n) (by rw [Z.out,zdt,List.length_take,D.out];have:=i.out;omega);rw [List.length_map] at h1;omega
 have al:(g.length:Int)<=4194304:=by omega
 have G:=zhd (zgr s 0 c0 0 l none (bs.take s) [] (by rw [List.length_take];omega) rfl w2 (by rw [List.map_take];exact zby ag.out s) (Row.nil _ _ _) (by omega));clear Q z L X t T;go_wp2_with fail
 refine G.out.mono ?_;rintro e w3 ⟨o,c3,rfl,m,x⟩;have C:bs.take s++[]=bs.take s:=List.append_nil _;rw [C] at m;have aa:(bs.take s++[]).length=s:=by rw [C,List.length_take];have:=i.out;omega
 have V:(bs.take s).length=s:=by rw [List.length_take];have:=i.out;omega
 rw [aa];rw [V] at m;have U:=zhd (y.out.trans (x.mono y.out.size));have c:=zhd (E.out.below U.out E.out.lt);have r0:=c.out.cell 0;have r1:=c.out.cell 1;have r2:=c.out.cell 2;have r3:=c.out.cell 3;have r4:=c.out.cell 4;have z0:=c.out.frozen 0;have z1:=c.out.frozen 1;have z2:=c.out.frozen 2;have z3:=c.out.frozen 3;have z4:=c.out.frozen 4;have I:=zhd m;have S:=zhd (zag ae.out x);have N:=zhd (zaV af.out x);have d:=zhd (zbW (b:=w.heap.size) (u0:=slice o s c3) (u1:=slice none 0 0) (u2:=int i64 0) (u3:=slice R g.length q) (u4:=int i64 (g.length:Int)) c.out);have ai:=zhd (B.out.trans (U.out.mono B.out.size));clear m x C aa V G hcut;go_wp2;obtain⟨W5,O⟩:∃ W,((((w3.setCell ⟨w.heap.size,0,none⟩ (slice o s c3)).setCell ⟨w.heap.size,1,none⟩ (slice none 0 0)).setCell ⟨w.heap.size,2,none⟩ (int i64 0)).setCell ⟨w.heap.size,3,none⟩ (slice R g.length q)).setCell ⟨w.heap.size,4,none⟩ (int i64 (g.length:Int))=W:=⟨_,rfl⟩;rw [O] at d;rw [O];have g0:=d.out.1.cell 0;have g1:=d.out.1.cell 1;have g2:=d.out.1.cell 2;have g3:=d.out.1.cell 3;have g4:=d.out.1.cell 4;refine bodyPost_ret (v:=.tuple #[.agg #[slice o s c3,slice none 0 0,int i64 0,slice R g.length q,int i64 (g.length:Int)],int i64 ((n:Int) - (s:Int))]) (by simp [results,Tryz.results102,go_sem,g0,g1,g2,g3,g4]) rfl ?_;have aj:=B.out.size;have an:=y.out.size;refine⟨o,c3,g,R,q,Z.out,by rw [i.out,D.out],?_,?_,?_,d.out.2.2 _ ai.out (Nat.le_refl _)⟩
 ·rw [D.out];exact zaj (zaz I.out (by omega)) fun a k=>d.out.2.1 _ (zcU I.out c.out (by decide) k)
 ·exact zaj (zaz S.out (by omega)) fun a k=>d.out.2.1 _ (zcU S.out c.out (by decide) k)
 ·exact fun r K=>zaj (zaz (N.out r K) (by omega)) fun a k=>d.out.2.1 _ (zcU (N.out r K) c.out (by decide) k)
end
section
open Go.RowKit Mem Be Word Frm
instance laterNonempty5(w:World):Nonempty (Later w):=⟨⟨w,Below.refl _ _⟩⟩
end
section
open Go.RowKit Mem Be Word Frm
def zfN(rs:List za3)(k:Nat):List UInt8:=zac ((rs.take k).map za1)
theorem zqJ(rs:List za3)(k:Nat)(h:k<rs.length):zfN rs (k+1)=zfN rs k++frB (za1 rs[k]):=by
 unfold zfN;rw [List.take_succ_eq_append_getElem h,List.map_append,zdh];simp [zac]
theorem zs3(rs:List za3)(k:Nat):(zfN rs k).length<=zc3 (rs.map za1):=by
 unfold zfN;rw [List.map_take];exact zpO _ k
end
section
open Go.RowKit Mem Be Word Frm
theorem zg0(n c:Nat)(A:Option Addr)(rs:List za3)(Q:n=rs.length)(w:World)(h:Row w w.heap.size A (zaw rs))(R:zjX w rs)(L:zca (rs.map za1))(hl:zc3 (rs.map za1)<=10000000)(ao:n<=1000000) :
 Calls Tryz.prog 129 #[slice A n c] w (ziM w.heap.size (zac (rs.map za1),0) w):=by
 obtain⟨i0,an,al,ai,au⟩:=info_parts zaB;have HR:=zhd h;have aw:=zhd R;have Z:=zhd Q;have ak:=zhd L;have HL:=zhd hl;have ax:(n:Int)<=1000000:=by omega
 clear h R Q L hl ao;go_enter Tryz.func129,Tryz.ntmps129
 go_wp2;go_loopw [4,5] (fun v i wr=>∃ (k m cp:Nat) (z:Option Addr),k<=n/\i=int i64 k/\v=slice z m cp/\Hid (m=(zfN rs k).length)/\Hid (wr.ownsRow w.heap.size 5 1 (slice z m cp) m ((zfN rs k).map zaa))/\Hid (Below w.heap.size w wr)) (fun _ i _=>n - (intOf i).toNat)
 case atStart=>exact⟨0,0,0,none,by omega,rfl,rfl,zhd rfl,zhd (World.ownsRow_nil _ _ _ _),zhd (Below.refl _ _)⟩
 case round=>
  obtain⟨k,m,cp,z,hk,rfl,rfl,C,J,a⟩:=hrel;by_cases aq:k<n
  ·have r:k<rs.length:=by rw [<-Z.out];exact aq
   obtain⟨b,o,rfl,G,hc⟩:=zcX HR.out (by omega);obtain⟨t,d1⟩:=hc k r;have u:=aw.out rs[k] (List.getElem_mem r);have l:=zqJ rs k r;have ae:=zs3 rs (k+1);have B:=ak.out (za1 rs[k]) (List.mem_map.2 ⟨_,List.getElem_mem r,rfl⟩);obtain⟨⟨q,E,j,c1⟩,V⟩:∃ p,rs[k]'r=p:=⟨_,rfl⟩;rw [V] at t d1 u l B;simp only [za1] at t d1 u l B;rw [<-a.out.cell (p:=⟨b,o+k*2,none⟩) G] at t;rw [<-a.out.cell (p:=⟨b,o+k*2+1,none⟩) G] at d1;have ag:b<wr.heap.size:=Nat.lt_of_lt_of_le G a.out.size;obtain⟨F,I⟩:∃ F,frB (q,j)=F:=⟨_,rfl⟩;have M:zkS (q,j)=(F,0):=by unfold zkS;rw [if_neg (by show ¬ 65536<j.length;omega),I]
   have HC:Hid (∀ W,Below wr.heap.size wr W->Calls Tryz.prog 100 #[int .u8 (q.toNat:Int),slice E j.length c1] W (ziM W.heap.size (F,0) W)):=zhd fun W K=>by
    rw [<-M];exact zeo q W.heap.size c1 j.length E j rfl W (((u.below a.out).more a.out.size).below K |>.more K.size) (Nat.le_refl _)
   rw [I] at l;have T:=zhd l;have ah:Hid (m+F.length<=10000000):=zhd (by rw [C.out,<-List.length_append,<-l];exact Nat.le_trans ae HL.out);have d:Hid (Below wr.heap.size wr wr.drew):=zhd (Below.refl _ _).drew;clear V u hc l ae B I M;go_wp2_with fail
   go_region_held3 (fun w'=>w'.cell? ⟨b,o+k*2,none⟩=some (int .u8 (q.toNat:Int))/\w'.cell? ⟨b,o+k*2+1,none⟩=some (slice E j.length c1))
    (first|go_keep|exact⟨(d.out.cell (p:=⟨b,o+k*2,none⟩) ag).trans t,(d.out.cell (p:=⟨b,o+k*2+1,none⟩) ag).trans d1⟩)
    ((go_at_call 100;refine(HC.out _ d.out).mono ?_;rintro e S ⟨A2,c2,rfl,af,X⟩;have N:=zhd af;have d:=zhd (d.out.trans (X.mono d.out.size));clear af X))
   have s:Hid (Below wr.heap.size wr S):=d;have y:=zhd (a.out.trans (s.out.mono a.out.size));have aa:=zhd (zag J.out s.out);have aj:=zhd (Row.of_own N.out);clear HC t d1 d N;go_wp2_with (at_builtin;refine zan _ rfl _ _ 27 rfl w.heap.size 5 i0 (int .u8 0) 1 Tryz.underlying27 an al ai au rfl _ m _ rfl aa.out S.heap.size _ F.length c2 (F.map zaa) rfl (by simp) aj.out (zaH _) (by have:=ah.out;unfold maxLen;omega) (by have:=ah.out;omega) y.out.size ?_)
   intro v' w3 O Y _;have s:=zhd (y.out.grown Y y.out.size fun g h=>(aa.out.lt g h).1);have U:Hid (m+F.length=(zfN rs (k+1)).length):=zhd (by rw [T.out,List.length_append,<-C.out]);have ab:(zfN rs k).map zaa++F.map zaa=(zfN rs (k+1)).map zaa:=by rw [T.out,List.map_append]
   obtain⟨A4,c4,x,D,_⟩:=zck (bs:=zfN rs (k+1)) O ab s.out;rw [<-U.out] at x D;injection x with x;subst x;have am:=zhd D;clear O Y D ab;go_wp2;go_roundw
   case rel=>exact⟨k+1,m+F.length,c4,A4,by omega,by go_num,rfl,U,am,s⟩
   case measure=>simp [intOf];omega
  ·have hT:zfN rs k=zac (rs.map za1):=by unfold zfN;rw [List.take_of_length_le (by rw [<-Z.out];omega)]
   rw [hT] at J C;clear hT;go_wp2;go_ret2
   exact ziN rfl J.out rfl a.out
end
section
open Go.RowKit Go.ChangeShapes Go.Deep Go.WideShapes Mem
namespace Bulk
theorem pos{H:Type}(d:DataW H):0<Rows.uptoBulk d:=by
 unfold Rows.uptoBulk;split<;>exact Nat.succ_pos _
end Bulk
end
section
open Go.RowKit Go.ChangeShapes Go.Deep Go.WideShapes Mem
section
variable {H : Type} {enc : TypeId × Value → H} {P : Program} {w : World} {base : Nat} {held : Bool}
end
end
section
open Go.RowKit Go.ChangeShapes Go.Deep Go.WideShapes Mem
structure DoG where
 kind:Int
 of_:UInt8
 at_:Option Addr
 rows:List zb3
 room:Nat
 kept:Int
instance doGInh:Inhabited DoG:=⟨⟨0,0,none,[],0,0⟩⟩
structure DoGOk (w:World) (B:Nat) (r:DoG):Prop where
 row:Row w B r.at_ (r.rows.map zbN)
 rows:∀ q∈r.rows,znu w B q
 cap:r.rows.length<=r.room
 mx:r.room<=maxLen
 k0:-9223372036854775808<=r.kind
 k1:r.kind<=9223372036854775807
 p0:-9223372036854775808<=r.kept
 p1:r.kept<=9223372036854775807
theorem DoGOk.below{w w':World}{B:Nat}{r:DoG}(h:DoGOk w B r)(hb:Below B w w'):DoGOk w' B r:=⟨h.row.below hb,fun q hq=>(h.rows q hq).below hb,h.cap,h.mx,h.k0,h.k1,h.p0,h.p1⟩
section
variable {H : Type} {enc : TypeId × Value → H} {P : Program} {w : World} {base : Nat} {held : Bool}
end
end
section
open Go.RowKit Mem Be Word Frm
variable {J : LgK}
end
section
open Go.RowKit Mem Be Word Frm
def zam(F:Nat->Prop)(b:Nat)(k:Nat):Prop:=F k\/k=b
structure RefL (w:World) (F:Nat->Prop) (AL:Option Addr) (cL:Nat) (AT:Option Addr) (cT:Nat) (R:Option Addr) (c:Nat) (L T:List UInt8) (vs:List za3):Prop where
 hl:L.length<=cL
 ht:T.length<=cT
 hc:vs.length<=c
 rl:zaK F w AL (L.map zaa)
 rt:zaK F w AT (T.map zaa)
 rr:zaK F w R (zaw vs)
 rb:∀ v∈vs,zaK F w v.2.1 (v.2.2.1.map zaa)
section
variable {w w1 : World} {F F' : Nat → Prop} {AL AT R : Option Addr} {cL cT c : Nat} {L T : List UInt8} {vs : List za3}
theorem RefL.step(h:RefL w F AL cL AT cT R c L T vs)(ht:Touch F w w1)(hf:∀ k,F' k->F k\/w.heap.size<=k):RefL w1 F' AL cL AT cT R c L T vs:=
 ⟨h.hl,h.ht,h.hc,h.rl.step ht hf,h.rt.step ht hf,h.rr.step ht hf,fun v hv=>(h.rb v hv).step ht hf⟩
theorem RefL.below(h:RefL w F AL cL AT cT R c L T vs)(hb:Below w.heap.size w w1):RefL w1 F AL cL AT cT R c L T vs:=h.step (Touch.ofBelow hb) fun k hk=>Or.inl hk
theorem RefL.wide(h:RefL w F AL cL AT cT R c L T vs)(hb:Below w.heap.size w w1){b:Nat}(hb2:w.heap.size<=b):RefL w1 (zam F b) AL cL AT cT R c L T vs:=h.step (Touch.ofBelow hb) fun k hk=>by
 rcases hk with h1|h1
 ·exact Or.inl h1
 ·exact Or.inr (by omega)
end
theorem zdx{w:World}{F:Nat->Prop}{b:Nat}{u0 u1 u2 u3 u4:Value}:Touch (zam F b) w (((((w.setCell ⟨b,0,none⟩ u0).setCell ⟨b,1,none⟩ u1).setCell ⟨b,2,none⟩ u2).setCell ⟨b,3,none⟩ u3).setCell ⟨b,4,none⟩ u4):=
 (((((Touch.refl (zam F b) w).set_ (p:=⟨b,0,none⟩) (Or.inl (Or.inr rfl)) _).set_ (p:=⟨b,1,none⟩) (Or.inl (Or.inr rfl)) _).set_ (p:=⟨b,2,none⟩) (Or.inl (Or.inr rfl)) _).set_ (p:=⟨b,3,none⟩) (Or.inl (Or.inr rfl)) _).set_ (p:=⟨b,4,none⟩) (Or.inl (Or.inr rfl)) _
theorem zh2(w:World)(a g b d c:Value) :
 Below w.heap.size w ((w.alloc (cells #[a,g,b,d,c] 32)).alloc (cells #[slice none 0 0,slice none 0 0,int i64 0,slice none 0 0,int i64 0] 32))/\
 Blk ((w.alloc (cells #[a,g,b,d,c] 32)).alloc (cells #[slice none 0 0,slice none 0 0,int i64 0,slice none 0 0,int i64 0] 32)) w.heap.size 32 #[a,g,b,d,c]/\
 Blk ((w.alloc (cells #[a,g,b,d,c] 32)).alloc (cells #[slice none 0 0,slice none 0 0,int i64 0,slice none 0 0,int i64 0] 32)) (w.heap.size+1) 32 #[slice none 0 0,slice none 0 0,int i64 0,slice none 0 0,int i64 0]:=by
 refine⟨(zbl).alloc (by simp) _,(Blk.new w _ _).alloc _,?_⟩;have:=Blk.new (w.alloc (cells #[a,g,b,d,c] 32)) 32 #[slice none 0 0,slice none 0 0,int i64 0,slice none 0 0,int i64 0];simp at this;exact this
def zwG(F:Nat->Prop)(f:Value->Value)(L T:List UInt8)(q m:Nat)(rs:List Rc)(w:World)(e:Ending)(w':World):Prop:=
 ∃ AL cL AT cT R c vs,vs.map za1=rs/\e=.returned (f (.agg #[slice AL L.length cL,slice AT T.length cT,int i64 (q:Int),slice R vs.length c,int i64 (m:Int)]))/\RefL w' F AL cL AT cT R c L T vs/\Below w.heap.size w w'
end
section
open Go.RowKit Mem Be Word Frm
theorem zlQ(F:Nat->Prop)(t AT R:Option Addr)(u x c m q:Nat)(L T:List UInt8)(a:List za3)(N:L.length+T.length<=4194304)(af:a.length<=1000000)(hq:q<=4611686018427387904)(w:World)(V:∀ k,F k->k<w.heap.size)(h:RefL w F t u AT x R c L T a) :
 Calls Tryz.prog 98 #[.agg #[slice t L.length u,slice AT T.length x,int i64 (q:Int),slice R a.length c,int i64 (m:Int)]] w (zwG F id (L++T) [] (upN T q) a.length (a.map za1) w):=by
 obtain⟨y,j,B⟩:=zh2 w (slice t L.length u) (slice AT T.length x) (int i64 (q:Int)) (slice R a.length c) (int i64 (m:Int));obtain⟨W1,M⟩:∃ W,(w.alloc (cells #[slice t L.length u,slice AT T.length x,int i64 (q:Int),slice R a.length c,int i64 (m:Int)] 32)).alloc (cells #[slice none 0 0,slice none 0 0,int i64 0,slice none 0 0,int i64 0] 32)=W:=⟨_,rfl⟩;rw [M] at y j B;have r:=h.wide y (b:=w.heap.size+1) (by omega);have I:∀ k,zam F (w.heap.size+1) k->k<W1.heap.size:=fun k G=>by
  rcases G with l|l
  ·exact Nat.lt_of_lt_of_le (V k l) y.size
  ·rw [l];exact B.lt
 have A:=zd9 (zam F (w.heap.size+1)) L T [] q 2 0 t AT none L.length T.length 0 u x 0 rfl rfl rfl r.hl r.ht (by omega) N hq W1 I r.rl r.rt (Or.inl rfl);rw [show doS L T q 2 [] 0=(L++T,[],upN T q,0) from rfl] at A;obtain⟨X,hX⟩:∃ X,L++T=X:=⟨_,rfl⟩;obtain⟨nq,Q⟩:∃ n,upN T q=n:=⟨_,rfl⟩;rw [hX,Q] at A ⊢;have ae:=zhd A;have U:=zhd y;have Z:=zhd j;have Y:=zhd B;have C:=zhd r;have al:=zhd I;have ah:=zhd M;have f0:=j.cell 0;have f1:=j.cell 1;have f2:=j.cell 2;have f3:=j.cell 3;have f4:=j.cell 4;have ak:(a.length:Int)<=1000000:=by omega
 clear N af hq V h y j B M r I A hX Q;go_enter Tryz.func98,Tryz.ntmps98
 go_wp2_with fail
 rw [ah.out];refine ae.out.mono ?_;rintro e o ⟨d,c1,g,c2,rfl,l,D,J,E,s⟩;simp only at l D J E ⊢;have O:=zhd (U.out.trans (s.mono U.out.size));have K:Below o.heap.size o (o.alloc (cells #[slice d X.length c1,slice g 0 c2,int i64 (nq:Int)] 29)):=zbl;have aj:Hid (Below w.heap.size w (o.alloc (cells #[slice d X.length c1,slice g 0 c2,int i64 (nq:Int)] 29))):=zhd (O.out.trans (K.mono O.out.size));have i:=zhd ((Y.out.below s Y.out.lt).alloc (cells #[slice d X.length c1,slice g 0 c2,int i64 (nq:Int)] 29));have ai:=zhd ((Z.out.below s Z.out.lt).alloc (cells #[slice d X.length c1,slice g 0 c2,int i64 (nq:Int)] 29));have ab:Hid (RefL (o.alloc (cells #[slice d X.length c1,slice g 0 c2,int i64 (nq:Int)] 29)) (zam F (w.heap.size+1)) d c1 g c2 R c X [] a):=
  zhd (RefL.below (⟨l,D,C.out.hc,J,E,(C.out.below s).rr,(C.out.below s).rb⟩:RefL o (zam F (w.heap.size+1)) d c1 g c2 R c X [] a) K)
 have b3:=ai.out.cell 3;clear f0 f1 f2 f3 f4 l D J E s K;have p:=zhd (zbW (b:=w.heap.size+1) (u0:=slice d X.length c1) (u1:=slice g 0 c2) (u2:=int i64 (nq:Int)) (u3:=slice R a.length c) (u4:=int i64 (a.length:Int)) i.out);have aa:=zhd (ab.out.step (zdx (F:=F) (b:=w.heap.size+1) (u0:=slice d X.length c1) (u1:=slice g 0 c2) (u2:=int i64 (nq:Int)) (u3:=slice R a.length c) (u4:=int i64 (a.length:Int))) (F':=F) (fun k G=>Or.inl (Or.inl G)));obtain⟨Z0,ag⟩:∃ z,w.heap.size+1=z:=⟨_,rfl⟩;have r0:=i.out.cell 0;have r1:=i.out.cell 1;have r2:=i.out.cell 2;have r3:=i.out.cell 3;have r4:=i.out.cell 4;have z0:=i.out.frozen 0;have z1:=i.out.frozen 1;have z2:=i.out.frozen 2;have z3:=i.out.frozen 3;have z4:=i.out.frozen 4;clear ag;go_wp2;obtain⟨W5,S⟩:∃ W,((((((o.alloc (cells #[slice d X.length c1,slice g 0 c2,int i64 (nq:Int)] 29)).setCell ⟨w.heap.size+1,0,none⟩ (slice d X.length c1)).setCell ⟨w.heap.size+1,1,none⟩ (slice g 0 c2)).setCell ⟨w.heap.size+1,2,none⟩ (int i64 (nq:Int))).setCell ⟨w.heap.size+1,3,none⟩ (slice R a.length c)).setCell ⟨w.heap.size+1,4,none⟩ (int i64 (a.length:Int)))=W:=⟨_,rfl⟩;rw [S] at p aa;rw [S];have g0:=p.out.1.cell 0;have g1:=p.out.1.cell 1;have g2:=p.out.1.cell 2;have g3:=p.out.1.cell 3;have g4:=p.out.1.cell 4;refine bodyPost_ret (v:=.agg #[slice d X.length c1,slice g 0 c2,int i64 (nq:Int),slice R a.length c,int i64 (a.length:Int)]) (by simp [results,Tryz.results98,go_sem,g0,g1,g2,g3,g4]) rfl ?_;exact⟨d,c1,g,c2,R,c,a,rfl,rfl,aa.out,p.out.2.2 _ aj.out (by omega)⟩
theorem zkr(F:Nat->Prop)(I AT R:Option Addr)(J K c m q:Nat)(L T:List UInt8)(E:List za3)(al:L.length+T.length<=4194304)(aS:E.length<=1000000)(hq:q<=4611686018427387904)(C:Nat)(aR:C<=9223372036854775807)(w:World)(hF:∀ k,F k->k<w.heap.size)(h:RefL w F I J AT K R c L T E)(X:List UInt8)(hX:L++T.take C=X) :
 Calls Tryz.prog 69 #[.agg #[slice I L.length J,slice AT T.length K,int i64 (q:Int),slice R E.length c,int i64 (m:Int)],int i64 (C:Int)] w (zwG F (fun v=>.tuple #[v,int i64 0]) (X.take (zar X).2.1) [] q (zar X).1.length (zar X).1 w):=by
 obtain⟨s,U⟩:∃ s,(zar X).2.1=s:=⟨_,rfl⟩;obtain⟨rs,aa⟩:∃ rs,(zar X).1=rs:=⟨_,rfl⟩;rw [U,aa];have aA:=zfI X;rw [U] at aA;have aE:=zhd (And.intro U aa);have an:Hid ((X.take s).length=s):=zhd (by rw [List.length_take];omega);clear U aa aA;have aV:X.length<=4194304:=by rw [<-hX,List.length_append,List.length_take];omega
 obtain⟨M,p,Y⟩:=zh2 w (slice I L.length J) (slice AT T.length K) (int i64 (q:Int)) (slice R E.length c) (int i64 (m:Int));obtain⟨W1,aj⟩:∃ W,(w.alloc (cells #[slice I L.length J,slice AT T.length K,int i64 (q:Int),slice R E.length c,int i64 (m:Int)] 32)).alloc (cells #[slice none 0 0,slice none 0 0,int i64 0,slice none 0 0,int i64 0] 32)=W:=⟨_,rfl⟩;rw [aj] at M p Y;have A:=h.wide M (b:=w.heap.size+1) (by omega);have af:∀ k,zam F (w.heap.size+1) k->k<W1.heap.size:=fun k N=>by
  rcases N with i|i
  ·exact Nat.lt_of_lt_of_le (hF k i) M.size
  ·rw [i];exact Y.lt
 have V:=zd9 (zam F (w.heap.size+1)) L T [] q 4 (C:Int) I AT none L.length T.length 0 J K 0 rfl rfl rfl A.hl A.ht (by omega) al hq W1 af A.rl A.rt (Or.inl rfl);rw [show doS L T q 4 [] (C:Int)=(L++T.take C,[],q,0) by unfold doS;rw [if_neg (by decide),if_neg (by decide),if_neg (by decide),if_neg (by omega)];simp] at V;rw [hX] at V;have bd:=zhd V;have aw:=zhd M;have aH:=zhd p;have ah:=zhd Y;have bf:=zhd A;have aJ:=zhd af;have aW:=zhd aj;have f0:=p.cell 0;have f1:=p.cell 1;have f2:=p.cell 2;have f3:=p.cell 3;have f4:=p.cell 4;have bg:(E.length:Int)<=1000000:=by omega
 clear al aS hq hF h M p Y aj A af V hX aR;go_enter Tryz.func69,Tryz.ntmps69
 go_wp2_with fail
 rw [aW.out];refine bd.out.mono ?_;rintro e t ⟨u,c1,D,c2,rfl,i,r,ae,au,B⟩;simp only at i r ae au ⊢;have Q:=zhd (aw.out.trans (B.mono aw.out.size));have x:Below t.heap.size t (t.alloc (cells #[slice u X.length c1,slice D 0 c2,int i64 (q:Int)] 29)):=zbl;have ak:Hid (Below w.heap.size w (t.alloc (cells #[slice u X.length c1,slice D 0 c2,int i64 (q:Int)] 29))):=zhd (Q.out.trans (x.mono Q.out.size));have d:=zhd ((ah.out.below B ah.out.lt).alloc (cells #[slice u X.length c1,slice D 0 c2,int i64 (q:Int)] 29));have aY:=zhd ((aH.out.below B aH.out.lt).alloc (cells #[slice u X.length c1,slice D 0 c2,int i64 (q:Int)] 29));have O:=zhd (Blk.new t 29 #[slice u X.length c1,slice D 0 c2,int i64 (q:Int)]);have az:=zhd (ae.below x);have aX:=zhd i;obtain⟨W3,ab⟩:∃ W,t.alloc (cells #[slice u X.length c1,slice D 0 c2,int i64 (q:Int)] 29)=W:=⟨_,rfl⟩;obtain⟨b6,ag⟩:∃ b,t.heap.size=b:=⟨_,rfl⟩;rw [ab] at ak d aY O az;rw [ag] at O;have aU:=Q.out.size;have aQ:Hid (W1.heap.size<=b6):=zhd (by have:=B.size;omega);have aZ:Hid (w.heap.size+1<b6):=zhd (by have:=ah.out.lt;have:=B.size;omega);have am:=zhd (zgZ X.length c1 u X rfl aX.out aV W3 az.out.row);have aL:=zhd ab;have aM:=zhd ag;clear f0 f1 f2 f3 f4 i r ae au B x ab ag aU Q;go_wp2_with fail
 rw [aL.out];rw [aM.out];refine am.out.mono ?_;rintro e w4 ⟨g,j,a,l,c4,aG,rfl,S,ai,aB,G⟩;rw [aE.out.1] at S ⊢;have Z:∀ k,zam F (w.heap.size+1) k->k<W3.heap.size:=fun k N=>by
  have i:=d.out.lt;rcases N with r|r
  ·have:=aJ.out k (Or.inl r);have:=O.out.lt;have:=aZ.out;have:=aQ.out;omega
  ·rw [r];exact i
 have aD:=(zbR S).1;have ay:a.length<=c4:=by
  obtain⟨A',c',he,r,_⟩:=zat ai;injection he with _ _ he;omega
 have aq:=zhd (show a.map za1=rs by rw [aG];exact aE.out.2);have aO:Hid (rs.length=a.length):=zhd (by rw [<-aq.out,List.length_map]);have ax:RefL w4 (zam F (w.heap.size+1)) g j none 0 l c4 (X.take s) [] a:=⟨by rw [an.out];exact aD,Nat.le_refl _,ay,zaF Z S,Or.inl rfl,zaF Z ai,fun v hv=>zaF Z (aB v hv)⟩;have c6:∀ o,(w4.alloc o).cell? ⟨b6,2,none⟩=some (int i64 (q:Int)):=fun o=>zdN o ((O.out.below G O.out.lt).cell 2);have x:Below w4.heap.size w4 (w4.alloc (cells #[slice g s j,slice none 0 0,int i64 (q:Int),slice l a.length c4,int i64 (a.length:Int)] 32)):=zbl;have aN:=zhd (ax.below x);have aK:=zhd (ak.out.trans ((G.trans (x.mono G.size)).mono ak.out.size));have aP:=zhd ((d.out.below G d.out.lt).alloc (cells #[slice g s j,slice none 0 0,int i64 (q:Int),slice l a.length c4,int i64 (a.length:Int)] 32));clear aD ay aG S ai aB G x ax am d aJ Z;have d:=aP;have y:=zhd (zbW (b:=w.heap.size+1) (u0:=slice g s j) (u1:=slice none 0 0) (u2:=int i64 (q:Int)) (u3:=slice l a.length c4) (u4:=int i64 (a.length:Int)) d.out);have aI:=zhd (aN.out.step (zdx (F:=F) (b:=w.heap.size+1) (u0:=slice g s j) (u1:=slice none 0 0) (u2:=int i64 (q:Int)) (u3:=slice l a.length c4) (u4:=int i64 (a.length:Int))) (F':=F) (fun k N=>Or.inl (Or.inl N)));obtain⟨Z0,aT⟩:∃ z,w.heap.size+1=z:=⟨_,rfl⟩;have r0:=d.out.cell 0;have r1:=d.out.cell 1;have r2:=d.out.cell 2;have r3:=d.out.cell 3;have r4:=d.out.cell 4;have z0:=d.out.frozen 0;have z1:=d.out.frozen 1;have z2:=d.out.frozen 2;have z3:=d.out.frozen 3;have z4:=d.out.frozen 4;clear aT;go_wp2;obtain⟨W5,ao⟩:∃ W,((((((w4.alloc (cells #[slice g s j,slice none 0 0,int i64 (q:Int),slice l a.length c4,int i64 (a.length:Int)] 32)).setCell ⟨w.heap.size+1,0,none⟩ (slice g s j)).setCell ⟨w.heap.size+1,1,none⟩ (slice none 0 0)).setCell ⟨w.heap.size+1,2,none⟩ (int i64 (q:Int))).setCell ⟨w.heap.size+1,3,none⟩ (slice l a.length c4)).setCell ⟨w.heap.size+1,4,none⟩ (int i64 (a.length:Int)))=W:=⟨_,rfl⟩;rw [ao] at y aI;rw [ao];have g0:=y.out.1.cell 0;have g1:=y.out.1.cell 1;have g2:=y.out.1.cell 2;have g3:=y.out.1.cell 3;have g4:=y.out.1.cell 4;refine bodyPost_ret (v:=.tuple #[.agg #[slice g s j,slice none 0 0,int i64 (q:Int),slice l a.length c4,int i64 (a.length:Int)],int i64 0]) (by simp [results,Tryz.results69,go_sem,g0,g1,g2,g3,g4]) rfl ?_;exact⟨g,j,none,0,l,c4,a,aq.out,by rw [an.out,aO.out];rfl,aI.out,y.out.2.2 _ aK.out (by omega)⟩
end
section
open Go.RowKit Mem Be Word Frm
theorem zlS(F:Nat->Prop)(t AT R:Option Addr)(u y c m q:Nat)(L T:List UInt8)(D:List za3)(ag:L.length+T.length<=4194304)(aA:D.length<=1000000)(hq:q<=4611686018427387904)(B:Option Addr)(bs:List UInt8)(i:Nat)(aG:bs.length<=65536)(w:World)(hF:∀ k,F k->k<w.heap.size)(h:RefL w F t u AT y R c L T D)(hB:zaK F w B (bs.map zaa)) :
 Calls Tryz.prog 68 #[.agg #[slice t L.length u,slice AT T.length y,int i64 (q:Int),slice R D.length c,int i64 (m:Int)],slice B bs.length i] w (zwG F (fun v=>.tuple #[v,int i64 0]) (frB (0,bs)) [] q 1 [(0,bs)] w):=by
 obtain⟨Y,K⟩:∃ Y,frB (0,bs)=Y:=⟨_,rfl⟩;have aI:Y.length<=65546:=by rw [<-K,zcJ];simp only;omega
 obtain⟨C,o,I⟩:=zh2 w (slice t L.length u) (slice AT T.length y) (int i64 (q:Int)) (slice R D.length c) (int i64 (m:Int));obtain⟨W1,af⟩:∃ W,(w.alloc (cells #[slice t L.length u,slice AT T.length y,int i64 (q:Int),slice R D.length c,int i64 (m:Int)] 32)).alloc (cells #[slice none 0 0,slice none 0 0,int i64 0,slice none 0 0,int i64 0] 32)=W:=⟨_,rfl⟩;rw [af] at C o I;have x:=h.wide C (b:=w.heap.size+1) (by omega);have ae:∀ k,zam F (w.heap.size+1) k->k<W1.heap.size:=fun k p=>by
  rcases p with l|l
  ·exact Nat.lt_of_lt_of_le (hF k l) C.size
  ·rw [l];exact I.lt
 have S:zaK (zam F (w.heap.size+1)) W1 B (bs.map zaa):=hB.step (Touch.ofBelow C) fun k p=>by
  rcases p with l|l
  ·exact Or.inl l
  ·exact Or.inr (by omega)
 have O:=zeo 0 W1.heap.size i bs.length B bs rfl W1 S.row (Nat.le_refl _);rw [show zkS (0,bs)=(frB (0,bs),0) from if_neg (by simp only;omega),K,show(((0:UInt8).toNat:Nat):Int)=0 from rfl] at O;rw [K];have ak:=zhd O;have ay:Hid (∀ W A c',Below W1.heap.size W1 W->zaK (zam F (w.heap.size+1)) W A (Y.map zaa)->Calls Tryz.prog 101 #[.agg #[slice t L.length u,slice AT T.length y,int i64 (q:Int)],.agg #[int i64 3,slice A Y.length c',int i64 0]] W (zkp (zam F (w.heap.size+1)) (Y,[],q,0) W)):=zhd fun W A c' Z hr=>by
  have ah:=zd9 (zam F (w.heap.size+1)) L T Y q 3 0 t AT A L.length T.length Y.length u y c' rfl rfl rfl x.hl x.ht (by omega) ag hq W (fun k p=>Nat.lt_of_lt_of_le (ae k p) Z.size) (x.below Z).rl (x.below Z).rt hr;rw [show doS L T q 3 Y 0=(Y,[],q,0) by unfold doS;rw [if_neg (by decide),if_neg (by decide),if_pos rfl,if_neg (by omega)]] at ah;exact ah
 have aD:=zhd S;have aL:(Y.length:Int)<=65546:=by omega
 have aj:=zhd C;have au:=zhd o;have am:=zhd I;have aJ:=zhd x;have ax:=zhd ae;have aE:=zhd af;have M:=o.cell 0;have Q:=o.cell 1;have f2:=o.cell 2;have f3:=o.cell 3;have f4:=o.cell 4;have aK:(D.length:Int)<=1000000:=by omega
 clear ag aA hq hF h C o I af x ae K aI O S hB aG;go_enter Tryz.func68,Tryz.ntmps68
 go_wp2_with fail
 rw [aE.out];refine ak.out.mono ?_;rintro e w2 ⟨Ay,cy,rfl,aa,X⟩;simp only at aa ⊢;have J:=zhd (au.out.below X au.out.lt);have al:=zhd (zaF ax.out aa);have G:=zhd X;clear M Q f2 f3 f4 aa X;have M:=J.out.cell 0;have Q:=J.out.cell 1;have f2:=J.out.cell 2;go_wp2_with fail
 refine(ay.out w2 Ay cy G.out al.out).mono ?_;rintro e a ⟨d,c1,g,c2,rfl,l,N,ab,V,an⟩;simp only at l N ab V ⊢;have s:Below W1.heap.size W1 a:=G.out.trans (an.mono G.out.size);have aq:Below a.heap.size a (a.alloc (cells #[slice d Y.length c1,slice g 0 c2,int i64 (q:Int)] 29)):=zbl;have E:Below a.heap.size a ((a.alloc (cells #[slice d Y.length c1,slice g 0 c2,int i64 (q:Int)] 29)).alloc (cells #[int .u8 0,slice B bs.length i] 168)):=aq.alloc (by simp) _;have aH:Hid (Below w.heap.size w ((a.alloc (cells #[slice d Y.length c1,slice g 0 c2,int i64 (q:Int)] 29)).alloc (cells #[int .u8 0,slice B bs.length i] 168))):=zhd (aj.out.trans ((s.trans (E.mono s.size)).mono aj.out.size));have j:=zhd (((am.out.below s am.out.lt).alloc (cells #[slice d Y.length c1,slice g 0 c2,int i64 (q:Int)] 29)).alloc (cells #[int .u8 0,slice B bs.length i] 168));have U:=Blk.new (a.alloc (cells #[slice d Y.length c1,slice g 0 c2,int i64 (q:Int)] 29)) 168 #[int .u8 0,slice B bs.length i];rw [show(a.alloc (cells #[slice d Y.length c1,slice g 0 c2,int i64 (q:Int)] 29)).heap.size=a.heap.size+1 by simp] at U;have ao:zaK (zam F (w.heap.size+1)) ((a.alloc (cells #[slice d Y.length c1,slice g 0 c2,int i64 (q:Int)] 29)).alloc (cells #[int .u8 0,slice B bs.length i] 168)) (some ⟨a.heap.size+1,0,none⟩) (zaw [(0,B,bs,i)]):=zs1 U (fun hf=>by have:=ax.out _ hf;have:=s.size;omega) rfl;have az:Hid (RefL ((a.alloc (cells #[slice d Y.length c1,slice g 0 c2,int i64 (q:Int)] 29)).alloc (cells #[int .u8 0,slice B bs.length i] 168)) (zam F (w.heap.size+1)) d c1 g c2 (some ⟨a.heap.size+1,0,none⟩) 1 Y [] [(0,B,bs,i)]):=
  zhd ⟨l,N,Nat.le_refl _,ab.below E,V.below E,ao,fun v hv=>by
   obtain rfl:v=(0,B,bs,i):=by simpa using hv
   exact(aD.out.below s).below E⟩
 clear M Q f2 l N ab V an s aq E U ao al G J ay ak;have r:=zhd (zbW (b:=w.heap.size+1) (u0:=slice d Y.length c1) (u1:=slice g 0 c2) (u2:=int i64 (q:Int)) (u3:=slice (some ⟨a.heap.size+1,0,none⟩) 1 1) (u4:=int i64 1) j.out);have aw:=zhd (az.out.step (zdx (F:=F) (b:=w.heap.size+1) (u0:=slice d Y.length c1) (u1:=slice g 0 c2) (u2:=int i64 (q:Int)) (u3:=slice (some ⟨a.heap.size+1,0,none⟩) 1 1) (u4:=int i64 1)) (F':=F) (fun k p=>Or.inl (Or.inl p)));obtain⟨Z0,aB⟩:∃ z,w.heap.size+1=z:=⟨_,rfl⟩;have r0:=j.out.cell 0;have r1:=j.out.cell 1;have r2:=j.out.cell 2;have r3:=j.out.cell 3;have r4:=j.out.cell 4;have z0:=j.out.frozen 0;have z1:=j.out.frozen 1;have z2:=j.out.frozen 2;have z3:=j.out.frozen 3;have z4:=j.out.frozen 4;clear aB;go_wp2;obtain⟨W5,ai⟩:∃ W,(((((((a.alloc (cells #[slice d Y.length c1,slice g 0 c2,int i64 (q:Int)] 29)).alloc (cells #[int .u8 0,slice B bs.length i] 168)).setCell ⟨w.heap.size+1,0,none⟩ (slice d Y.length c1)).setCell ⟨w.heap.size+1,1,none⟩ (slice g 0 c2)).setCell ⟨w.heap.size+1,2,none⟩ (int i64 (q:Int))).setCell ⟨w.heap.size+1,3,none⟩ (slice (some ⟨a.heap.size+1,0,none⟩) 1 1)).setCell ⟨w.heap.size+1,4,none⟩ (int i64 1))=W:=⟨_,rfl⟩;rw [ai] at r aw;rw [ai];have g0:=r.out.1.cell 0;have g1:=r.out.1.cell 1;have g2:=r.out.1.cell 2;have g3:=r.out.1.cell 3;have g4:=r.out.1.cell 4;refine bodyPost_ret (v:=.tuple #[.agg #[slice d Y.length c1,slice g 0 c2,int i64 (q:Int),slice (some ⟨a.heap.size+1,0,none⟩) 1 1,int i64 1],int i64 0]) (by simp [results,Tryz.results68,go_sem,g0,g1,g2,g3,g4]) rfl ?_;exact⟨d,c1,g,c2,some ⟨a.heap.size+1,0,none⟩,1,[(0,B,bs,i)],rfl,rfl,aw.out,r.out.2.2 _ aH.out (by omega)⟩
end
section
open Go.RowKit Mem Be Word Frm
theorem zkt(F:Nat->Prop)(d AT R:Option Addr)(g i c m q:Nat)(L T:List UInt8)(j:List za3)(B:Option Addr)(bs:List UInt8)(z:Nat)(J:65536<bs.length)(w:World)(S:∀ k,F k->k<w.heap.size)(h:RefL w F d g AT i R c L T j)(y:Row w w.heap.size B (bs.map zaa)) :
 Calls Tryz.prog 68 #[.agg #[slice d L.length g,slice AT T.length i,int i64 (q:Int),slice R j.length c,int i64 (m:Int)],slice B bs.length z] w (fun e w'=>e=.returned (.tuple #[.agg #[slice d L.length g,slice AT T.length i,int i64 (q:Int),slice R j.length c,int i64 (m:Int)],int i64 3])/\RefL w' F d g AT i R c L T j/\Below w.heap.size w w'):=by
 obtain⟨o,t,u⟩:=zh2 w (slice d L.length g) (slice AT T.length i) (int i64 (q:Int)) (slice R j.length c) (int i64 (m:Int));obtain⟨W1,x⟩:∃ W,(w.alloc (cells #[slice d L.length g,slice AT T.length i,int i64 (q:Int),slice R j.length c,int i64 (m:Int)] 32)).alloc (cells #[slice none 0 0,slice none 0 0,int i64 0,slice none 0 0,int i64 0] 32)=W:=⟨_,rfl⟩;rw [x] at o t u;have s:=zeo 0 W1.heap.size z bs.length B bs rfl W1 ((y.below o).more o.size) (Nat.le_refl _);rw [show zkS (0,bs)=([],3) from if_pos J,show(((0:UInt8).toNat:Nat):Int)=0 from rfl] at s;have Q:=zhd s;have I:=zhd o;have G:=zhd t;have C:=zhd u;have M:=zhd h;have V:=zhd x;clear S h o t u x s y J;go_enter Tryz.func68,Tryz.ntmps68
 go_wp2_with fail
 rw [V.out];refine Q.out.mono ?_;rintro e D ⟨Ay,cy,rfl,_,r⟩;simp only [List.length_nil];have p:=zhd (G.out.below r G.out.lt);have a:=zhd (C.out.below r C.out.lt);have A:=zhd (I.out.trans (r.mono I.out.size));have HZ:w.heap.size+1<D.heap.size:=a.out.lt;have f0:=p.out.cell 0;have f1:=p.out.cell 1;have f2:=p.out.cell 2;have f3:=p.out.cell 3;have f4:=p.out.cell 4;have r0:=a.out.cell 0;have z0:=a.out.frozen 0;have r1:=a.out.cell 1;have z1:=a.out.frozen 1;have r2:=a.out.cell 2;have Z:=a.out.frozen 2;have Y:=a.out.cell 3;have z3:=a.out.frozen 3;have r4:=a.out.cell 4;have z4:=a.out.frozen 4;have l:=zhd (zbW (b:=w.heap.size+1) (u0:=slice d L.length g) (u1:=slice AT T.length i) (u2:=int i64 (q:Int)) (u3:=slice R j.length c) (u4:=int i64 (m:Int)) a.out);have K:=zhd ((M.out.wide A.out (b:=w.heap.size+1) (by omega)).step (zdx (F:=F) (b:=w.heap.size+1) (u0:=slice d L.length g) (u1:=slice AT T.length i) (u2:=int i64 (q:Int)) (u3:=slice R j.length c) (u4:=int i64 (m:Int))) (F':=F) (fun k X=>Or.inl (Or.inl X)));clear r;go_wp2;obtain⟨W5,E⟩:∃ W,((((D.setCell ⟨w.heap.size+1,0,none⟩ (slice d L.length g)).setCell ⟨w.heap.size+1,1,none⟩ (slice AT T.length i)).setCell ⟨w.heap.size+1,2,none⟩ (int i64 (q:Int))).setCell ⟨w.heap.size+1,3,none⟩ (slice R j.length c)).setCell ⟨w.heap.size+1,4,none⟩ (int i64 (m:Int))=W:=⟨_,rfl⟩;rw [E] at l K;rw [E];have N:=l.out.1.cell 0;have g1:=l.out.1.cell 1;have g2:=l.out.1.cell 2;have U:=l.out.1.cell 3;have O:=l.out.1.cell 4;refine bodyPost_ret (v:=.tuple #[.agg #[slice d L.length g,slice AT T.length i,int i64 (q:Int),slice R j.length c,int i64 (m:Int)],int i64 3]) (by simp [results,Tryz.results68,go_sem,N,g1,g2,U,O]) rfl ?_;exact⟨rfl,K.out,l.out.2.2 _ A.out (by omega)⟩
end
section
open Go.RowKit Mem Be Word Frm
def zfp(k:UInt8)(ls:List zb3):List za3:=ls.map fun r=>(k,r)
theorem zgs(k:UInt8)(a:List zb3):(zfp k a).length=a.length:=by unfold zfp;rw [List.length_map]
theorem zeV(k:UInt8)(a:List zb3):(zfp k a).map za1=zfk k (zaI a):=by unfold zfp zfk zaI;rw [List.map_map,List.map_map];rfl
theorem zqO(k:UInt8)(a:List zb3)(j:Nat)(h:j<a.length):zfp k (a.take (j+1))=zfp k (a.take j)++[(k,a[j])]:=by
 unfold zfp;rw [List.take_succ_eq_append_getElem h,List.map_append];rfl
theorem zey(k:UInt8)(n c:Nat)(B:Option Addr)(a:List zb3)(E:n=a.length)(x:n<=100000)(w:World)(F:Row w w.heap.size B (a.map zbN)) :
 Calls Tryz.prog 128 #[int .u8 (k.toNat:Int),slice B n c] w (fun e w'=>∃ A c',e=.returned (slice A n c')/\w'.ownsRow w.heap.size 168 2 (slice A n c') n (zaw (zfp k a))/\Below w.heap.size w w'):=by
 have Q:=zhd F;have K:=zhd E;have W:(n:Int)<=100000:=by omega
 have M:=zhd x;clear F E x;go_enter Tryz.func128,Tryz.ntmps128
 go_wp2;go_loopw [5,6] (fun z i wr=>∃ (j:Nat) (A:Option Addr) (c:Nat),j<=n/\i=int i64 j/\z=slice A j c/\Hid (wr.ownsRow w.heap.size 168 2 (slice A j c) j (zaw (zfp k (a.take j))))/\Hid (Below w.heap.size w wr)) (fun _ i _=>n - (intOf i).toNat)
 case atStart=>exact⟨0,none,0,by omega,rfl,rfl,zhd (World.ownsRow_nil _ _ _ _),zhd (Below.refl _ _)⟩
 case round=>
  obtain⟨j,A,I,V,rfl,rfl,l,d⟩:=hrel;by_cases S:j<n
  ·have q:j<a.length:=by rw [<-K.out];exact S
   obtain⟨b,o,rfl,L,hc⟩:=Q.out.open_ (by simp;omega);have v:w.cell? ⟨b,o+j,none⟩=some (zbN a[j]):=(hc j (by simpa using q)).trans (congrArg some (List.getElem_map (f:=zbN) (h:=by simpa using q)));have s:wr.cell? ⟨b,o+j,none⟩=some (zbN a[j]):=(d.out.cell (p:=⟨b,o+j,none⟩) L).trans v;have D:=zhd (zqO k a j q);obtain⟨⟨t,y,c1⟩,G⟩:∃ y,a[j]=y:=⟨_,rfl⟩;rw [G] at s D;unfold zbN at s;simp only at s;have Z:(0:Int)<=(j:Int):=by omega
   have X:(j:Int)<(n:Int):=by omega
   have m:Hid (∀ o,Below w.heap.size w (wr.alloc o)):=zhd fun o=>d.out.alloc d.out.size o;have u:Hid (∀ o,(wr.alloc o).ownsRow w.heap.size 168 2 (slice A j I) j (zaw (zfp k (a.take j)))):=zhd fun o=>zag l.out ((Below.refl _ _).alloc (Nat.le_refl _) o);have Y:w.heap.size<=wr.heap.size:=d.out.size;clear hc v G l;go_wp2_with (at_builtin;refine zct rfl _ _ rfl w.heap.size _ j (zfp k (a.take j)) rfl (u.out _) (wr.heap.size+1) _ 1 1 [(k,t,y,c1)] rfl rfl (zly (r:=(k,t,y,c1)) rfl rfl rfl) (by have:=M.out;omega) (by simp;omega) ?_)
   intro N c3 O C J;have U:Hid (Below w.heap.size w O):=zhd ((m.out _).grown J (m.out _).size fun g T=>((u.out (cells #[int .u8 (k.toNat:Int),slice t y.length c1] 168)).lt g T).1);have R:=zhd C;clear C J m u d;go_wp2;go_roundw
   case rel=>exact⟨j+1,N,c3,by omega,by go_num,rfl,zhd (by rw [D.out];simpa [zaw,List.flatMap_append] using R.out),U⟩
   case measure=>simp [intOf];omega
  ·obtain rfl:j=n:=by omega
   have ht:a.take j=a:=List.take_of_length_le (by rw [<-K.out];omega);rw [ht] at l;clear ht;go_wp2;go_ret;exact⟨A,I,rfl,l.out,d.out⟩
end
section
open Go.RowKit Mem Be Word Frm
theorem zoj(F:Nat->Prop)(I AT R:Option Addr)(J Q c m q:Nat)(L T:List UInt8)(d:List za3)(bg:L.length+T.length<=4194304)(bl:d.length<=1000000)(hq:q<=4611686018427387904)(k:UInt8)(U:k≠0)(A0:Option Addr)(c0:Nat)(a:List zb3)(aK:a.length<=100000)(aX:∀ b∈zaI a,b.length<=65536)(aO:L.length+T.length+(zac (zfk k (zaI a))).length<=4194304)(w:World)(hF:∀ k,F k->k<w.heap.size)(h:RefL w F I J AT Q R c L T d)(h0:zaK F w A0 (a.map zbN))(bi:∀ r∈a,zaK F w r.1 (r.2.1.map zaa)) :
 Calls Tryz.prog 96 #[.agg #[slice I L.length J,slice AT T.length Q,int i64 (q:Int),slice R d.length c,int i64 (m:Int)],int .u8 (k.toNat:Int),slice A0 a.length c0] w (zwG F (fun v=>.tuple #[v,int i64 0]) L (T++zac (zfk k (zaI a))) q m (d.map za1++zfk k (zaI a)) w):=by
 have bH:=zgR U;obtain⟨Y,hY⟩:∃ Y,zac (zfk k (zaI a))=Y:=⟨_,rfl⟩;obtain⟨Z,hZ⟩:∃ Z,T++Y=Z:=⟨_,rfl⟩;rw [hY] at aO ⊢;rw [hZ];obtain⟨S,y,ai⟩:=zh2 w (slice I L.length J) (slice AT T.length Q) (int i64 (q:Int)) (slice R d.length c) (int i64 (m:Int));obtain⟨W1,aM⟩:∃ W,(w.alloc (cells #[slice I L.length J,slice AT T.length Q,int i64 (q:Int),slice R d.length c,int i64 (m:Int)] 32)).alloc (cells #[slice none 0 0,slice none 0 0,int i64 0,slice none 0 0,int i64 0] 32)=W:=⟨_,rfl⟩;rw [aM] at S y ai;have K:=h.wide S (b:=w.heap.size+1) (by omega);have aJ:∀ k,zam F (w.heap.size+1) k->k<W1.heap.size:=fun k U=>by
  rcases U with l|l
  ·exact Nat.lt_of_lt_of_le (hF k l) S.size
  ·rw [l];exact ai.lt
 have au:∀ {A:Option Addr} {xs:List Value},zaK F w A xs->zaK (zam F (w.heap.size+1)) W1 A xs:=fun hx=>hx.step (Touch.ofBelow S) fun j E=>by
  rcases E with l|l
  ·exact Or.inl l
  ·exact Or.inr (by omega)
 have aB:Hid (∀ r∈a,zaK (zam F (w.heap.size+1)) W1 r.1 (r.2.1.map zaa)):=zhd fun r u=>au (bi r u);have aP:=zhd (zey k a.length c0 A0 a rfl aK W1 (au h0).row);have bh:zc3 ((zfp k a).map za1)<=10000000:=by
  have l:zc3 ((zfp k a).map za1)=(zac ((zfp k a).map za1)).length:=rfl;rw [l,zeV,hY];omega
 have aV:zca ((zfp k a).map za1):=by
  rw [zeV];intro r u;obtain⟨b,D,rfl⟩:=List.mem_map.1 u;exact aX b D
 have bd:Hid (∀ W A c',Below W1.heap.size W1 W->Row W W.heap.size A (zaw (zfp k a))->Calls Tryz.prog 129 #[slice A a.length c'] W (ziM W.heap.size (Y,0) W)):=zhd fun W A c' D u=>by
  have:=zg0 a.length c' A (zfp k a) (zgs k a).symm W u (fun r u=>by
   obtain⟨x,hx,rfl⟩:=List.mem_map.1 u;exact((aB.out x hx).below D).row) aV bh (by omega)
  rw [zeV,hY] at this;exact this
 have bf:Hid (∀ W A c',Below W1.heap.size W1 W->zaK (zam F (w.heap.size+1)) W A (Y.map zaa)->Calls Tryz.prog 101 #[.agg #[slice I L.length J,slice AT T.length Q,int i64 (q:Int)],.agg #[int i64 1,slice A Y.length c',int i64 0]] W (zkp (zam F (w.heap.size+1)) (L,Z,q,0) W)):=zhd fun W A c' D u=>by
  have bk:=zd9 (zam F (w.heap.size+1)) L T Y q 1 0 I AT A L.length T.length Y.length J Q c' rfl rfl rfl K.hl K.ht (by omega) bg hq W (fun j E=>Nat.lt_of_lt_of_le (aJ j E) D.size) (K.below D).rl (K.below D).rt u;rw [show doS L T q 1 Y 0=(L,Z,q,0) by unfold doS;rw [if_pos rfl,if_neg (by omega),hZ]] at bk;exact bk
 have bI:(Y.length:Int)<=4194304:=by omega
 have bD:(a.length:Int)<=100000:=by omega
 have aL:Hid (d.length<=1000000/\a.length<=100000):=zhd ⟨bl,aK⟩;have bC:=zhd hY;have bm:=zhd S;have N:=zhd y;have az:=zhd ai;have aN:=zhd K;have bq:=zhd aJ;have bx:=zhd aM;have f0:=y.cell 0;have f1:=y.cell 1;have f2:=y.cell 2;have f3:=y.cell 3;have f4:=y.cell 4;have bG:(d.length:Int)<=1000000:=by omega
 clear bg bl hq hF h S y ai aM K aJ hY hZ bh aV au h0 bi aO aX aK U;go_enter Tryz.func96,Tryz.ntmps96
 go_wp2_with fail
 rw [bx.out];refine aP.out.mono ?_;rintro e w2 ⟨A2,c2,rfl,aZ,aU⟩;have X:=zhd aU;have aI:=zhd aZ;clear f0 f1 f2 f3 f4 aZ aU aP;go_wp2_with fail
 refine(bd.out w2 A2 c2 X.out (zcz aI.out)).mono ?_;rintro e w3 ⟨Ay,cy,rfl,aq,aA⟩;simp only at aq ⊢;have ag:=zhd (X.out.trans (aA.mono X.out.size));have aQ:=zhd (zag aI.out aA);have aT:=zhd (zaF (fun j E=>Nat.lt_of_lt_of_le (bq.out j E) X.out.size) aq);have al:=zhd (N.out.below ag.out N.out.lt);have f0:=al.out.cell 0;have f1:=al.out.cell 1;have f2:=al.out.cell 2;clear aq aA X aI bd;go_wp2_with fail
 refine(bf.out w3 Ay cy ag.out aT.out).mono ?_;rintro e w4 ⟨o,c1,i,c3,rfl,l,h2,ax,aH,am⟩;simp only at l h2 ax aH ⊢;have aj:Below W1.heap.size W1 w4:=ag.out.trans (am.mono ag.out.size);have ae:Below w4.heap.size w4 (w4.alloc (cells #[slice o L.length c1,slice i Z.length c3,int i64 (q:Int)] 29)):=zbl;have C:Hid (Below W1.heap.size W1 (w4.alloc (cells #[slice o L.length c1,slice i Z.length c3,int i64 (q:Int)] 29))):=zhd (aj.trans (ae.mono aj.size));have an:Hid ((w4.alloc (cells #[slice o L.length c1,slice i Z.length c3,int i64 (q:Int)] 29)).ownsRow W1.heap.size 168 2 (slice A2 a.length c2) a.length (zaw (zfp k a))):=zhd (zag (zag aQ.out am) ae);have ah:=zhd (Blk.new w4 29 #[slice o L.length c1,slice i Z.length c3,int i64 (q:Int)]);have M:=zhd (And.intro l (And.intro h2 (And.intro (ax.below ae) (aH.below ae))));obtain⟨s,aE⟩:∃ W,w4.alloc (cells #[slice o L.length c1,slice i Z.length c3,int i64 (q:Int)] 29)=W:=⟨_,rfl⟩;obtain⟨b6,ay⟩:∃ b,w4.heap.size=b:=⟨_,rfl⟩;rw [aE] at C an ah M;rw [ay] at ah;have aR:=zhd (N.out.below C.out N.out.lt);have aY:=zhd (aN.out.below C.out);have bo:=zhd aE;have br:=zhd ay;have bJ:Hid (w.heap.size+1<b6):=zhd (by have:=az.out.lt;have:=aj.size;omega);clear f0 f1 f2 l h2 ax aH am aj ae aE ay ag aQ aT al bf;have g3:(w4.alloc (cells #[slice o L.length c1,slice i Z.length c3,int i64 (q:Int)] 29)).cell? ⟨w.heap.size,3,none⟩=some (slice R d.length c):=by rw [bo.out];exact aR.out.cell 3
 go_wp2_with (at_builtin;rw [bo.out];rw [br.out];refine zct rfl _ _ rfl s.heap.size (slice none 0 0) 0 [] rfl (World.ownsRow_nil _ _ _ _) s.heap.size R d.length c d rfl rfl aY.out.rr.row (by have:=aL.out;omega) (Nat.le_refl _) ?_)
 intro A5 c5 w5 O aa;have af:Hid (Below s.heap.size s w5):=zhd ((Below.refl _ _).grown aa (Nat.le_refl _) (fun g hg=>by simp [Value.ownBlock] at hg));have aw:Hid (w5.ownsRow s.heap.size 168 2 (slice A5 d.length c5) d.length (zaw d)):=zhd (by simpa using O);have aW:=zhd (zcz (zag an.out af.out));clear O aa g3;go_wp2_with (at_builtin;refine zct rfl _ _ rfl s.heap.size _ d.length d rfl aw.out w5.heap.size A2 a.length c2 (zfp k a) rfl (zgs k a) aW.out (by have:=aL.out;omega) af.out.size ?_)
 intro G c6 w6 O aa;obtain⟨t,aD⟩:∃ x,d.length+a.length=x:=⟨_,rfl⟩;rw [aD] at O ⊢;have ao:(d++zfp k a).length=t:=by rw [List.length_append,zgs];exact aD
 have ab:Below s.heap.size s w6:=af.out.grown aa af.out.size fun g hg=>(aw.out.lt g hg).1;have aG:w6.ownsRow s.heap.size 168 2 (slice G t c6) t (zaw (d++zfp k a)):=by rw [zcC];simpa [zaw] using O
 have bn:t<=c6:=by
  obtain⟨A',c',he,h2,_⟩:=zat aG;injection he with _ _ he;omega
 have bj:∀ j,zam F (w.heap.size+1) j->j<s.heap.size:=fun j E=>Nat.lt_of_lt_of_le (bq.out j E) C.out.size;have V:Below W1.heap.size W1 w6:=C.out.trans (ab.mono C.out.size);have bz:=zhd (bm.out.trans (V.mono bm.out.size));have p:=zhd (az.out.below V az.out.lt);have bu:Hid (RefL w6 (zam F (w.heap.size+1)) o c1 i c3 G c6 L Z (d++zfp k a)):=zhd ⟨M.out.1,M.out.2.1,by rw [ao];exact bn,M.out.2.2.1.below ab,M.out.2.2.2.below ab,zaF bj aG,fun v hv=>by
  rcases List.mem_append.1 hv with hv|hv
  ·exact(aN.out.rb v hv).below V
  ·obtain⟨x,hx,rfl⟩:=List.mem_map.1 hv;exact(aB.out x hx).below V⟩
 have bv:=zhd ao;have ak:=ah.out.below ab ah.out.lt;have d0:=ak.cell 0;have d1:=ak.cell 1;have d2:=ak.cell 2;have f4:=(N.out.below V N.out.lt).cell 4;have bA:(t:Int)<=1100000:=by have:=aL.out;omega
 clear O aa aD ao ab aG bn bj V ak af aw aW an ah M aR aY C aB;have B:=zhd (zbW (b:=w.heap.size+1) (u0:=slice o L.length c1) (u1:=slice i Z.length c3) (u2:=int i64 (q:Int)) (u3:=slice G t c6) (u4:=int i64 (m:Int)) p.out);have bp:=zhd (bu.out.step (zdx (F:=F) (b:=w.heap.size+1) (u0:=slice o L.length c1) (u1:=slice i Z.length c3) (u2:=int i64 (q:Int)) (u3:=slice G t c6) (u4:=int i64 (m:Int))) (F':=F) (fun k U=>Or.inl (Or.inl U)));obtain⟨Z0,bw⟩:∃ z,w.heap.size+1=z:=⟨_,rfl⟩;have r0:=p.out.cell 0;have r1:=p.out.cell 1;have r2:=p.out.cell 2;have r3:=p.out.cell 3;have r4:=p.out.cell 4;have z0:=p.out.frozen 0;have z1:=p.out.frozen 1;have z2:=p.out.frozen 2;have z3:=p.out.frozen 3;have z4:=p.out.frozen 4;clear bw;go_wp2;obtain⟨W5,aS⟩:∃ W,((((((w6).setCell ⟨w.heap.size+1,0,none⟩ (slice o L.length c1)).setCell ⟨w.heap.size+1,1,none⟩ (slice i Z.length c3)).setCell ⟨w.heap.size+1,2,none⟩ (int i64 (q:Int))).setCell ⟨w.heap.size+1,3,none⟩ (slice G t c6)).setCell ⟨w.heap.size+1,4,none⟩ (int i64 (m:Int)))=W:=⟨_,rfl⟩;rw [aS] at B bp;rw [aS];have g0:=B.out.1.cell 0;have g1:=B.out.1.cell 1;have g2:=B.out.1.cell 2;have g3:=B.out.1.cell 3;have g4:=B.out.1.cell 4;refine bodyPost_ret (v:=.tuple #[.agg #[slice o L.length c1,slice i Z.length c3,int i64 (q:Int),slice G t c6,int i64 (m:Int)],int i64 0]) (by simp [results,Tryz.results96,go_sem,g0,g1,g2,g3,g4]) rfl ?_;exact⟨o,c1,i,c3,G,c6,d++zfp k a,by rw [List.map_append,zeV],by rw [bv.out],bp.out,B.out.2.2 _ bz.out (by omega)⟩
end
section
open Go.RowKit Mem Be Word Frm
theorem zlT(F:Nat->Prop)(g AT R:Option Addr)(i l c m q:Nat)(L T:List UInt8)(d:List za3)(al:L.length+T.length<=4194304)(az:d.length<=1000000)(hq:q<=4611686018427387904)(k:UInt8)(C:k≠0)(A0:Option Addr)(c0:Nat)(a:List zb3)(ag:a.length<=100000)(aG:∀ b∈zaI a,b.length<=65536)(au:(zac (zfk k (zaI a))).length<=1000000)(ao:4194304<L.length+T.length+(zac (zfk k (zaI a))).length)(w:World)(hF:∀ k,F k->k<w.heap.size)(h:RefL w F g i AT l R c L T d)(h0:zaK F w A0 (a.map zbN))(an:∀ r∈a,zaK F w r.1 (r.2.1.map zaa)) :
 Calls Tryz.prog 96 #[.agg #[slice g L.length i,slice AT T.length l,int i64 (q:Int),slice R d.length c,int i64 (m:Int)],int .u8 (k.toNat:Int),slice A0 a.length c0] w (fun e w'=>e=.returned (.tuple #[.agg #[slice g L.length i,slice AT T.length l,int i64 (q:Int),slice R d.length c,int i64 (m:Int)],int i64 3])/\RefL w' F g i AT l R c L T d/\Below w.heap.size w w'):=by
 have aY:=zgR C;obtain⟨Y,G⟩:∃ Y,zac (zfk k (zaI a))=Y:=⟨_,rfl⟩;rw [G] at ao au;obtain⟨B,t,O⟩:=zh2 w (slice g L.length i) (slice AT T.length l) (int i64 (q:Int)) (slice R d.length c) (int i64 (m:Int));obtain⟨W1,ak⟩:∃ W,(w.alloc (cells #[slice g L.length i,slice AT T.length l,int i64 (q:Int),slice R d.length c,int i64 (m:Int)] 32)).alloc (cells #[slice none 0 0,slice none 0 0,int i64 0,slice none 0 0,int i64 0] 32)=W:=⟨_,rfl⟩;rw [ak] at B t O;have z:=h.wide B (b:=w.heap.size+1) (by omega);have af:∀ k,zam F (w.heap.size+1) k->k<W1.heap.size:=fun k C=>by
  rcases C with p|p
  ·exact Nat.lt_of_lt_of_le (hF k p) B.size
  ·rw [p];exact O.lt
 have ae:∀ {A:Option Addr} {xs:List Value},zaK F w A xs->zaK (zam F (w.heap.size+1)) W1 A xs:=fun X=>X.step (Touch.ofBelow B) fun j E=>by
  rcases E with p|p
  ·exact Or.inl p
  ·exact Or.inr (by omega)
 have aQ:Hid (∀ r∈a,zaK (zam F (w.heap.size+1)) W1 r.1 (r.2.1.map zaa)):=zhd fun r s=>ae (an r s);have aq:=zhd (zey k a.length c0 A0 a rfl ag W1 (ae h0).row);have am:zc3 ((zfp k a).map za1)<=10000000:=by
  have p:zc3 ((zfp k a).map za1)=(zac ((zfp k a).map za1)).length:=rfl;rw [p,zeV,G];omega
 have aB:zca ((zfp k a).map za1):=by
  rw [zeV];intro r s;obtain⟨b,u,rfl⟩:=List.mem_map.1 s;exact aG b u
 have aJ:Hid (∀ W A c',Below W1.heap.size W1 W->Row W W.heap.size A (zaw (zfp k a))->Calls Tryz.prog 129 #[slice A a.length c'] W (ziM W.heap.size (Y,0) W)):=zhd fun W A c' u s=>by
  have:=zg0 a.length c' A (zfp k a) (zgs k a).symm W s (fun r s=>by
   obtain⟨x,X,rfl⟩:=List.mem_map.1 s;exact((aQ.out x X).below u).row) aB am (by omega)
  rw [zeV,G] at this;exact this
 have aT:Hid (∀ W A c',Below W1.heap.size W1 W->zaK (zam F (w.heap.size+1)) W A (Y.map zaa)->Calls Tryz.prog 101 #[.agg #[slice g L.length i,slice AT T.length l,int i64 (q:Int)],.agg #[int i64 1,slice A Y.length c',int i64 0]] W (zkp (zam F (w.heap.size+1)) (L,T,q,3) W)):=zhd fun W A c' u s=>by
  have aw:=zd9 (zam F (w.heap.size+1)) L T Y q 1 0 g AT A L.length T.length Y.length i l c' rfl rfl rfl z.hl z.ht (by omega) al hq W (fun j E=>Nat.lt_of_lt_of_le (af j E) u.size) (z.below u).rl (z.below u).rt s;rw [show doS L T q 1 Y 0=(L,T,q,3) by unfold doS;rw [if_pos rfl,if_pos (by omega)]] at aw;exact aw
 have bg:(Y.length:Int)<=1000000:=by omega
 have aO:=zhd h;have bf:(a.length:Int)<=100000:=by omega
 have aZ:Hid (d.length<=1000000/\a.length<=100000):=zhd ⟨az,ag⟩;have aX:=zhd G;have aD:=zhd B;have aI:=zhd t;have aE:=zhd O;have aU:=zhd z;have aS:=zhd af;have aR:=zhd ak;have M:=t.cell 0;have N:=t.cell 1;have S:=t.cell 2;have f3:=t.cell 3;have f4:=t.cell 4;have aV:(d.length:Int)<=1000000:=by omega
 clear al az hq hF h B t O ak z af G am aB ae h0 an ao au aG ag C;go_enter Tryz.func96,Tryz.ntmps96
 go_wp2_with fail
 rw [aR.out];refine aq.out.mono ?_;rintro e w2 ⟨A2,c2,rfl,aH,aA⟩;have D:=zhd aA;have Z:=zhd aH;clear M N S f3 f4 aH aA aq;go_wp2_with fail
 refine(aJ.out w2 A2 c2 D.out (zcz Z.out)).mono ?_;rintro e w3 ⟨Ay,cy,rfl,aa,ai⟩;simp only at aa ⊢;have Q:=zhd (D.out.trans (ai.mono D.out.size));have aW:=zhd (zag Z.out ai);have aL:=zhd (zaF (fun j E=>Nat.lt_of_lt_of_le (aS.out j E) D.out.size) aa);have J:=zhd (aI.out.below Q.out aI.out.lt);have M:=J.out.cell 0;have N:=J.out.cell 1;have S:=J.out.cell 2;clear aa ai D Z aJ;go_wp2_with fail
 refine(aT.out w3 Ay cy Q.out aL.out).mono ?_;rintro e w4 ⟨A1,c1,A3,c3,rfl,p,h2,aP,aM,U⟩;simp only;have y:=zhd (J.out.below U J.out.lt);have aj:Below W1.heap.size W1 w4:=Q.out.trans (U.mono Q.out.size);have o:=zhd (aE.out.below aj aE.out.lt);have ab:=zhd (aD.out.trans (aj.mono aD.out.size));have HZ:w.heap.size+1<w4.heap.size:=o.out.lt;have bd:w.heap.size<w4.heap.size:=y.out.lt;clear M N S;have M:=y.out.cell 0;have N:=y.out.cell 1;have S:=y.out.cell 2;have f3:=y.out.cell 3;have f4:=y.out.cell 4;have r0:=o.out.cell 0;have z0:=o.out.frozen 0;have r1:=o.out.cell 1;have z1:=o.out.frozen 1;have r2:=o.out.cell 2;have z2:=o.out.frozen 2;have r3:=o.out.cell 3;have z3:=o.out.frozen 3;have r4:=o.out.cell 4;have z4:=o.out.frozen 4;have K:=zhd (zbW (b:=w.heap.size+1) (u0:=slice g L.length i) (u1:=slice AT T.length l) (u2:=int i64 (q:Int)) (u3:=slice R d.length c) (u4:=int i64 (m:Int)) o.out);have aK:=zhd ((aO.out.wide ab.out (b:=w.heap.size+1) (by omega)).step (zdx (F:=F) (b:=w.heap.size+1) (u0:=slice g L.length i) (u1:=slice AT T.length l) (u2:=int i64 (q:Int)) (u3:=slice R d.length c) (u4:=int i64 (m:Int))) (F':=F) (fun k C=>Or.inl (Or.inl C)));clear p h2 aP aM U aj;go_wp2;obtain⟨V,ax⟩:∃ W,((((w4.setCell ⟨w.heap.size+1,0,none⟩ (slice g L.length i)).setCell ⟨w.heap.size+1,1,none⟩ (slice AT T.length l)).setCell ⟨w.heap.size+1,2,none⟩ (int i64 (q:Int))).setCell ⟨w.heap.size+1,3,none⟩ (slice R d.length c)).setCell ⟨w.heap.size+1,4,none⟩ (int i64 (m:Int))=W:=⟨_,rfl⟩;rw [ax] at K aK;rw [ax];obtain⟨W9,ay⟩:∃ W,V.alloc (cells #[slice A1 L.length c1,slice A3 T.length c3,int i64 (q:Int)] 29)=W:=⟨_,rfl⟩;have ah:Below V.heap.size V W9:=by rw [<-ay];exact zbl
 have I:=zhd (K.out.1.below ah K.out.1.lt);have aN:Below w.heap.size w W9:=(K.out.2.2 _ ab.out (by omega)).trans (ah.mono (K.out.2.2 _ ab.out (by omega)).size);rw [ay];have g0:=I.out.cell 0;have g1:=I.out.cell 1;have g2:=I.out.cell 2;have g3:=I.out.cell 3;have g4:=I.out.cell 4;refine bodyPost_ret (v:=.tuple #[.agg #[slice g L.length i,slice AT T.length l,int i64 (q:Int),slice R d.length c,int i64 (m:Int)],int i64 3]) (by simp [results,Tryz.results96,go_sem,g0,g1,g2,g3,g4]) rfl ?_;exact⟨rfl,aK.out.below ah,aN⟩
end
end Go.Proofs.YtahnjkkgojfdmaaGreatDoor
