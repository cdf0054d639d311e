import Derived.Test.YtahnjkkgojfdmaaGreatDoorFrZ
import Derived.Test.YtahnjkkgojfdmaaGreatDoorRely
set_option maxRecDepth 10000
set_option maxHeartbeats 1000000
set_option linter.unusedVariables false
namespace Go.Proofs.YtahnjkkgojfdmaaGreatDoor
open Go.IntKind(i64)
open Go.Value(int slice)
section
open Go.RowKit Mem Be Word Frm
abbrev za3:=UInt8×zb3
def za1(r:za3):Rc:=(r.1,r.2.2.1)
def zrH(r:za3):List Value:=[int .u8 (r.1.toNat:Int),slice r.2.1 r.2.2.1.length r.2.2.2]
abbrev zaw(rs:List za3):List Value:=rs.flatMap zrH
theorem za0(rs:List za3):(zaw rs).length=rs.length*2:=by
 induction rs with
 | nil=>rfl
 | cons p rs ih=>simp only [zaw,List.flatMap_cons,List.length_append,zrH,List.length_cons,List.length_nil];have:=ih;unfold zaw at this;omega
theorem zcC(a b:List za3):zaw (a++b)=zaw a++zaw b:=List.flatMap_append
theorem zsu(rs:List za3)(i:Nat)(h:i<rs.length)(j:Nat)(a:j<2):(zaw rs)[i*2+j]?=(zrH rs[i])[j]?:=by
 induction rs generalizing i with
 | nil=>simp at h
 | cons p rs ih=>
  have hc:zaw (p :: rs)=zrH p++zaw rs:=rfl;rw [hc];have hl:(zrH p).length=2:=rfl;rcases i with _|i
  ·rw [List.getElem?_append_left (by omega),Nat.zero_mul,Nat.zero_add];rfl
  ·rw [List.getElem?_append_right (by omega),hl,show(i+1)*2+j - 2=i*2+j by omega,ih i (by simpa using h)];rfl
theorem zcX{w:World}{B:Nat}{A:Option Addr}{rs:List za3}(h:Row w B A (zaw rs))(l:0<rs.length) :
 ∃ b o,A=some ⟨b,o,none⟩/\b<B/\∀ i (c:i<rs.length),w.cell? ⟨b,o+i*2,none⟩=some (int .u8 (rs[i].1.toNat:Int))/\w.cell? ⟨b,o+i*2+1,none⟩=some (slice rs[i].2.1 rs[i].2.2.1.length rs[i].2.2.2):=by
 obtain⟨b,o,g,k,hc⟩:=h.open_ (by rw [za0];omega);refine⟨b,o,g,k,fun i c=>?_⟩;have key:∀ j,j<2->w.cell? ⟨b,o+i*2+j,none⟩=(zrH rs[i])[j]?:=fun j d=>by
  have a:i*2+j<(zaw rs).length:=by rw [za0];omega
  rw [show o+i*2+j=o+(i*2+j) by omega,hc (i*2+j) a,<-zsu rs i c j d,List.getElem?_eq_getElem a]
 exact⟨key 0 (by omega),key 1 (by omega)⟩
def zjX(w:World)(rs:List za3):Prop:=∀ r∈rs,Row w w.heap.size r.2.1 (r.2.2.1.map zaa)
theorem zhQ{w w':World}{rs:List za3}(h:zjX w rs)(a:Below w.heap.size w w'):zjX w' rs:=fun r b=>((h r b).below a).more a.size
theorem zsv{w:World}{rs a:List za3}(h:zjX w rs)(c:∀ r∈a,r∈rs):zjX w a:=fun r b=>h r (c r b)
def zxa(w:World)(base:Nat)(r:za3):Prop:=w.ownsRow base 5 1 (slice r.2.1 r.2.2.1.length r.2.2.2) r.2.2.1.length (r.2.2.1.map zaa)
def zb1(w:World)(base:Nat)(rs:List za3):Prop:=∀ r∈rs,zxa w base r
theorem zd4(w:World)(base:Nat):zb1 w base []:=fun r h=>by cases h
theorem zaV{w w':World}{base:Nat}{rs:List za3}(h:zb1 w base rs)(a:Below w.heap.size w w'):zb1 w' base rs:=fun r b=>zag (h r b) a
theorem zfJ{w:World}{B B':Nat}{rs:List za3}(h:zb1 w B rs)(a:B'<=B):zb1 w B' rs:=fun r b=>zaz (h r b) a
theorem zgL{w:World}{base:Nat}{a b:List za3}(g:zb1 w base a)(d:zb1 w base b):zb1 w base (a++b):=fun r c=>by
 rcases List.mem_append.1 c with c|c
 ·exact g r c
 ·exact d r c
theorem zfi{w:World}{base:Nat}{r:za3}(h:zxa w base r):zb1 w base [r]:=fun x a=>by
 have:x=r:=by simpa using a
 subst this;exact h
theorem zhR{w:World}{base:Nat}{rs:List za3}(h:zb1 w base rs):zjX w rs:=fun r a=>Row.of_own (h r a)
theorem zeP{w w':World}{base l n:Nat}{v:Value}{j:List Value}{rs:List za3}(h:zb1 w base rs)(d:w.ownsRow l 168 2 v n j)(i:w.grownBy w' v.ownBlock):zb1 w' base rs:=fun r c=>by
 refine(h r c).kept i ?_;rcases(h r c).2 with⟨b,_⟩|⟨g,cap,s,b,_,k,_⟩
 ·rw [b];exact Or.inl rfl
 ·refine Or.inr fun e=>?_;rw [b] at e;rcases d.2 with⟨rfl,_⟩|⟨o,q,p,rfl,_,a,_⟩
  ·cases e
  ·have m:g=o:=by simpa [Value.ownBlock] using e
   subst m;rw [k] at a;injection a with a;injection a with _ ht;exact absurd ht (by decide)
theorem ztM:(Tryz.prog.info? 168).map (fun i=>(i.zero,i.size,i.bytes))=some (some (.agg #[int .u8 0,slice none 0 0]),2,32):=by kernel_rfl
theorem zhS(rs:List za3):∀ u∈zaw rs,u.oneCell'=true:=by
 intro u b;obtain⟨p,_,a⟩:=List.mem_flatMap.1 b;simp only [zrH,List.mem_cons,List.not_mem_nil,or_false] at a;rcases a with rfl|rfl<;>rfl
theorem zct{C:Array Oper}{rest:List Oper}{o:Oper}{a:Act}{Q:Exit->Act->World->Prop}{w:World}(V:o.guard=none)(s x:Operand)
 (N:o.op=.call {callee:=.builtin .append,args:=#[s,x],argTypes:=#[30,30]})
 (base:Nat) (v:Value) (n:Nat) (r:List za3) (I:a.eval s=v) (t:w.ownsRow base 168 2 v n (zaw r))
 (B:Nat) (A:Option Addr) (m c:Nat) (d:List za3) (O:a.eval x=slice A m c) (hl:d.length=m) (J:Row w B A (zaw d))
 (X:n+m<=1073741824) (S:base<=w.heap.size)
 (h:∀ p c' w',w'.ownsRow base 168 2 (slice p (n+m) c') (n+m) (zaw (r++d))->w.grownBy w' v.ownBlock->wpList Tryz.prog C Q rest (a.put o.dst (slice p (n+m) c')) w') :
 wpList Tryz.prog C Q (o :: rest) a w:=by
 obtain⟨i,l,T,G,W⟩:=info_parts ztM;refine wpList_plain V fun K M=>?_;obtain⟨k,w',z,q,y⟩:∃ k w',(Builtin.append_ #[30,30] o.type #[v,slice A m c]).run Tryz.prog w=.ok k w'/\w'.ownsRow base 168 2 k (n+m) (zaw r++zaw d)/\w.grownBy w' v.ownBlock:=by
  rcases Nat.eq_zero_or_pos m with F|F
  ·subst F;obtain rfl:d=[]:=List.eq_nil_of_length_eq_zero hl;refine⟨v,w,?_,by simpa using t,⟨rfl,rfl,rfl,Nat.le_refl _,fun _ _ _=>rfl⟩⟩;rcases t.2 with⟨rfl,rfl⟩|⟨g,cap,Y,rfl,_,_,D,_⟩<;>rcases A with _|a
   ·simp [Builtin.append_,run_underlying Tryz.underlying30,sizeOf,typeInfo,l,Builtin.lenOf,Builtin.firstCells]
   ·simp [Builtin.append_,run_underlying Tryz.underlying30,sizeOf,typeInfo,l,Builtin.lenOf,Builtin.firstCells,loadCells,loadCellsFrom]
   ·simp [Builtin.append_,run_underlying Tryz.underlying30,sizeOf,typeInfo,l,Builtin.lenOf,Builtin.firstCells,D,storeCells]
   ·simp [Builtin.append_,run_underlying Tryz.underlying30,sizeOf,typeInfo,l,Builtin.lenOf,Builtin.firstCells,D,storeCells,loadCells,loadCellsFrom]
  ·obtain⟨b,E,rfl,_,hc⟩:=J.open_ (by rw [za0];omega);have L:∀ j u,(zaw d)[j]?=some u->w.cell? ((⟨b,E,none⟩:Addr).add j)=some u:=by
    intro j u U;obtain⟨R,e⟩:=List.getElem?_eq_some_iff.1 U;have:=hc j R;rw [<-e,<-this];unfold Addr.add;split
    ·subst_vars;rfl
    ·rfl
   obtain⟨k,w',z,q,y,_,_⟩:=run_append_own_at (P:=Tryz.prog) w base 30 o.type 168 i _ 2 32 Tryz.underlying30 l T G W rfl (by decide) v n (zaw r) t ⟨b,E,none⟩ m c (zaw d) (by rw [za0,hl]) L (zhS d) (by unfold maxLen;omega) (by omega) S;exact⟨k,w',z,q,y⟩
 obtain⟨p,c',rfl,_,_⟩:=zat q;unfold Oper.wp execOp;simp only [N,resolve,invoke,builtin,Sem.run_bind,Sem.run_pure,Result.andThen_ok,List.map_toArray,List.map_cons,List.map_nil,I,O,z];exact M _ _ (h p c' w' (by rw [zcC];exact q) y)
def zsw(s:List Rc×Nat×Int)(w:World)(e:Ending)(w':World):Prop:=
 ∃ (rs:List za3) (A:Option Addr) (c:Nat),rs.map za1=s.1/\e=.returned (.tuple #[slice A rs.length c,int i64 (s.2.1:Int),int i64 s.2.2])/\
  w'.ownsRow w.heap.size 168 2 (slice A rs.length c) rs.length (zaw rs)/\zb1 w' w.heap.size rs/\Below w.heap.size w w'
theorem zly{w:World}{r:za3}{n c:Nat}{k:Int}(a:k=(r.1.toNat:Int))(b:n=r.2.2.1.length)(hc:c=r.2.2.2) :
 Row (w.alloc (.cells #[int .u8 k,slice r.2.1 n c] 168)) (w.heap.size+1) (some ⟨w.heap.size,0,none⟩) (zaw [r]):=by
 subst a;subst b;subst hc;exact zbs rfl
end
section
open Go.RowKit Mem Be Word Frm
def ziM(B:Nat)(r:List UInt8×Int)(w:World)(e:Ending)(w':World):Prop:=
 ∃ A c,e=.returned (.tuple #[slice A r.1.length c,int i64 r.2])/\w'.ownsRow B 5 1 (slice A r.1.length c) r.1.length (r.1.map zaa)/\Below B w w'
def zkS(r:Rc):List UInt8×Int:=if 65536<r.2.length then([],3) else(frB r,0)
theorem zhU{B:Nat}{w w':World}(e:Int)(h:Below B w w'):ziM B ([],e) w (.returned (.tuple #[slice none 0 0,int i64 e])) w':=
 ⟨none,0,rfl,World.ownsRow_nil _ _ _ _,h⟩
theorem ziN{B:Nat}{w w':World}{A:Option Addr}{m c n:Nat}{a b:List UInt8}{e:Int}(d:a=b)(h:w'.ownsRow B 5 1 (slice A m c) n (a.map zaa))(i:m=n)(g:Below B w w') :
 ziM B (b,e) w (.returned (.tuple #[slice A m c,int i64 e])) w':=by
 subst d;subst i;have hl:m=a.length:=by have:=h.1;rw [List.length_map] at this;omega
 subst hl;exact⟨A,c,rfl,h,g⟩
theorem zpW(w:World)(k:UInt8):(w.alloc (.cells #[int .u8 165,int .u8 (k.toNat:Int)] 5)).ownsRow w.heap.size 5 1 (slice (some ⟨w.heap.size,0,none⟩) 2 2) 2 (([165,k]:List UInt8).map zaa):=
 zpU [165,k] _ rfl (by show 2<=1000000;omega)
theorem zpX(k:UInt8)(B c n:Nat)(A:Option Addr)(bs:List UInt8)(o:n=bs.length)(w:World)(h:Row w B A (bs.map zaa))(y:B<=w.heap.size) :
 Calls Tryz.prog 151 #[int .u8 (k.toNat:Int),slice A n c] w (ziM w.heap.size (zkS (k,bs)) w):=by
 by_cases hl:65536<n
 ·have Z:(65536:Int)<(n:Int):=by omega
  rw [show zkS (k,bs)=([],3) from if_pos (by show 65536<bs.length;omega)];clear h hl o;go_enter Tryz.func151,Tryz.ntmps151
  go_wp2;go_ret2
  exact zhU 3 (Below.refl _ _)
 rw [show zkS (k,bs)=(frB (k,bs),0) from if_neg (by show ¬ 65536<bs.length;omega)];obtain⟨T,N,aa,O,X⟩:=info_parts zaB;have Z:(n:Int)<=65536:=by omega
 have af:n<=65536:=by omega
 have r1:IntKind.u32.wrap (n:Int)=(n:Int):=by rw [IntKind.wrap_u32'];omega
 have V:=zhd h;have b:=zhd o;clear h o hl;go_enter Tryz.func151,Tryz.ntmps151
 go_wp2_with fail
 refine(zhT n _).mono ?_;rintro e w1 ⟨A1,c1,rfl,p,s⟩;rw [zb8] at p ⊢;have z:=zhd (za5 (zpW w k) s);have v:=zhd (zax s);have R:=zhd (Row.of_own p);clear p s;go_wp2_with (at_builtin;refine zan _ rfl _ _ 27 rfl w.heap.size 5 T (int .u8 0) 1 Tryz.underlying27 N aa O X rfl _ 2 _ rfl z.out w1.heap.size _ 4 c1 ((b4 n).map zaa) rfl (by rw [List.length_map,zb8]) R.out (zaH _) (by unfold maxLen;omega) (by omega) v.out.size ?_)
 intro v' L J M _;have d:=zhd (v.out.grown M v.out.size fun g h=>(z.out.lt g h).1);obtain⟨a,c2,j,u,_⟩:=zck (bs:=zds k n) J (by show _=(165 :: k :: b4 n).map zaa;rfl) d.out;rw [zb9] at j u;injection j with j;subst j;have ae:=zhd (Row.of_own u);have Q:=zhd ((V.out.below (d.out.mono y)).more (Nat.le_trans y d.out.size));have E:Hid (zdT L [(a,zds k n,c2),(A,bs,c)]):=zhd (by
  intro r i;simp only [List.mem_cons,List.not_mem_nil,or_false] at i;rcases i with rfl|rfl
  ·exact ae.out
  ·exact Q.out)
 clear J M u;have hq:zew (ze0 zbE (zbi [(a,zds k n,c2),(A,bs,c)]))=chk (zcs (k,bs)):=by
  rw [b.out];simp [zbi,chk,zcs]
 obtain⟨q,l⟩:∃ q,chk (zcs (k,bs))=q:=⟨_,rfl⟩;have HQ:=zhd l;rw [l] at hq;have C:=zjZ (L.heap.size+1) 2 2 _ [(a,zds k n,c2),(A,bs,c)] rfl _ (zbs (t:=27) (by rw [b.out];simp [zbN,zb9]:(#[Value.slice a 6 c2,slice A n c]:Array Value).toList=_)) (zcl E.out _) (by intro r i;simp only [List.mem_cons,List.not_mem_nil,or_false] at i;rcases i with rfl|rfl;rw [zb9];decide;rw [<-b.out];omega) (by decide);rw [hq] at C;have I:=zhd C;clear C hq l;go_wp2_with fail
 refine I.out.mono ?_;rintro e w' ⟨rfl,rfl⟩;clear I;go_wp2_with fail
 refine(zhT q _).mono ?_;rintro e U ⟨F,c3,rfl,D,m⟩;have x:=zhd (d.out.trans ((zax m).mono d.out.size));have W:=zhd (zcu (zcl E.out _) m D);rw [zb8];clear D m;go_wp2_with fail
 refine(zfw (U.heap.size+1) 3 3 _ [(a,zds k n,c2),(A,bs,c),(F,b4 q,c3)] rfl _ (zbs (by rw [b.out];simp [zbN,zb9,zb8])) (by simp) (zcl W.out _) (by simp [zbi,zb9,zb8];have:=b.out;omega) (by omega)).mono ?_;rintro e w4 ⟨A4,c4,rfl,K,G⟩;have S:=zhd (x.out.trans ((zax G).mono x.out.size));have ab:=zhd (zaz K (Nat.le_trans x.out.size (by simp):w.heap.size<=_));have Y:Hid (zbi [(a,zds k n,c2),(A,bs,c),(F,b4 q,c3)]=frB (k,bs)):=zhd (by
  unfold frB;rw [HQ.out,b.out];simp [zbi,zcs])
 clear K G;go_wp2;go_ret2
 exact ziN Y.out ab.out rfl S.out
end
section
open Go.RowKit Mem Be Word Frm
theorem zeo(k:UInt8)(B c n:Nat)(A:Option Addr)(bs:List UInt8)(t:n=bs.length)(w:World)(h:Row w B A (bs.map zaa))(J:B<=w.heap.size) :
 Calls Tryz.prog 100 #[int .u8 (k.toNat:Int),slice A n c] w (ziM w.heap.size (zkS (k,bs)) w):=by
 by_cases hl:65536<n
 ·have ae:(65536:Int)<(n:Int):=by omega
  rw [show zkS (k,bs)=([],3) from if_pos (by show 65536<bs.length;omega)];clear h hl t;go_enter Tryz.func100,Tryz.ntmps100
  go_wp2;go_ret2
  exact zhU 3 (Below.refl _ _)
 rw [show zkS (k,bs)=(frB (k,bs),0) from if_neg (by show ¬ 65536<bs.length;omega)];obtain⟨E,D,x,p,G⟩:=info_parts zaB;have ae:(n:Int)<=65536:=by omega
 have ag:n<=65536:=by omega
 have HR:=zhd h;have z:=zhd t;clear h t hl;go_enter Tryz.func100,Tryz.ntmps100
 go_wp2_with fail
 refine(zmW n (by omega) _).mono ?_;rintro e w1 ⟨A1,c1,rfl,u,v⟩;rw [zb8] at u ⊢;have R:=zhd (za5 (zpW w k) v);have y:=zhd (zax v);have V:=zhd (Row.of_own u);clear u v;go_wp2_with (at_builtin;refine zan _ rfl _ _ 27 rfl w.heap.size 5 E (int .u8 0) 1 Tryz.underlying27 D x p G rfl _ 2 _ rfl R.out w1.heap.size _ 4 c1 ((b4 n).map zaa) rfl (by rw [List.length_map,zb8]) V.out (zaH _) (by unfold maxLen;omega) (by omega) y.out.size ?_)
 intro O Y b d _;have i:=zhd (y.out.grown d y.out.size fun g h=>(R.out.lt g h).1);obtain⟨A2,c2,a,I,_⟩:=zck (bs:=zds k n) b (by show _=(165 :: k :: b4 n).map zaa;rfl) i.out;rw [zb9] at a I;injection a with a;subst a;have Q:=zhd I;have aa:=zhd ((HR.out.below (i.out.mono J)).more (Nat.le_trans J i.out.size));clear b d I;go_wp2_with (at_builtin;refine zan _ rfl _ _ 27 rfl w.heap.size 5 E (int .u8 0) 1 Tryz.underlying27 D x p G rfl _ 6 _ rfl Q.out Y.heap.size _ n c (bs.map zaa) rfl (by rw [List.length_map,z.out]) aa.out (zaH _) (by unfold maxLen;omega) (by omega) i.out.size ?_)
 intro O K b d _;have C:=zhd (i.out.grown d i.out.size fun g h=>(Q.out.lt g h).1);obtain⟨U,c3,a,j,_⟩:=zck (bs:=zcs (k,bs)) b (by unfold zcs;rw [z.out,List.map_append]) C.out;obtain⟨m,l⟩:∃ m,(zcs (k,bs)).length=m:=⟨_,rfl⟩;rw [l] at a j;injection a with a;subst a;have af:m<=100000:=by have:=zgn (k,bs);have:=z.out;simp only at *;omega
 obtain⟨q,o⟩:∃ q,chk (zcs (k,bs))=q:=⟨_,rfl⟩;have HQ:=zhd o;have HM:=zhd l;have X:=zhd j;have F:=zj0 K.heap.size c3 m U (zcs (k,bs)) l.symm K (Row.of_own j) (by omega);rw [show zew (ze0 zbE (zcs (k,bs)))=q from o] at F;have T:=zhd F;have W:q<4294967296:=by rw [<-o];exact zpM _
 have ah:(q:Int)<=4294967295:=by omega
 clear b d j l o F;go_wp2_with fail
 refine T.out.mono ?_;rintro e w' ⟨rfl,rfl⟩;clear T;go_wp2_with fail
 refine(zmW q W _).mono ?_;rintro e w4 ⟨A4,c4,rfl,M,s⟩;have r:=zhd (C.out.trans (s.mono C.out.size));have N:=zhd (za5 X.out s);have Z:=zhd (Row.of_own M);rw [zb8];clear M s;go_wp2_with (at_builtin;refine zan _ rfl _ _ 27 rfl w.heap.size 5 E (int .u8 0) 1 Tryz.underlying27 D x p G rfl _ m _ rfl N.out w4.heap.size _ 4 c4 ((b4 q).map zaa) rfl (by rw [List.length_map,zb8]) Z.out (zaH _) (by unfold maxLen;omega) (by omega) r.out.size ?_)
 intro O w5 b d _;have L:=zhd (r.out.grown d r.out.size fun g h=>(N.out.lt g h).1);obtain⟨A5,c5,a,S,_⟩:=zck (bs:=frB (k,bs)) b (by unfold frB;rw [HQ.out,List.map_append]) L.out;injection a with a;subst a;have ab:=zhd S;clear b d S;go_wp2;go_ret2
 exact ziN rfl ab.out rfl L.out
end
section
open Go.RowKit Mem Be Word Frm
theorem zfL(bs:List UInt8)(i:Nat)(h:i<bs.length):bs.getD i 0=bs[i]:=by
 rw [List.getD_eq_getElem?_getD,List.getElem?_eq_getElem h];rfl
theorem zp2(x:UInt8)(h:x≠165):x.toNat≠165:=fun e=>h (by
 apply UInt8.toNat_inj.1;rw [e];rfl)
theorem zj4(B c n:Nat)(A:Option Addr)(bs:List UInt8)(g:n=bs.length)(hc:n<=c)(w:World)(h:Row w B A (bs.map zaa)) :
 Calls Tryz.prog 195 #[slice A n c] w fun e w'=>e=.returned (.tuple #[int i64 (zcQ bs).1,int i64 (zcQ bs).2])/\w=w':=by
 by_cases j:n=0
 ·have hl:zcQ bs=(0,4):=by unfold zcQ;rw [if_pos (by omega)]
  rw [hl];subst j;clear h g hl hc;go_enter Tryz.func195,Tryz.ntmps195
  go_wp2;go_ret2
  exact⟨rfl,rfl⟩
 have F:((n:Int)==0)=false:=by simp;omega
 obtain⟨b,o,rfl,I,i⟩:=h.open_ (by rw [List.length_map];omega);have k:0<bs.length:=by omega
 have d:=i 0 (by rw [List.length_map];omega);rw [zbn bs 0 k,Nat.add_zero] at d;have L:0<n:=by omega
 by_cases a:bs.getD 0 0≠165
 ·have hl:zcQ bs=(0,11):=by unfold zcQ;rw [if_neg (by omega),if_pos a]
  rw [hl];rw [zfL bs 0 k] at a;obtain⟨v,m⟩:∃ v,bs[0].toNat=v:=⟨_,rfl⟩;have E:v≠165:=by rw [<-m];exact zp2 _ a
  have G:((v:Int) != 165)=true:=by simp;omega
  rw [m] at d;clear h g hl hc i a m j;go_enter Tryz.func195,Tryz.ntmps195
  go_wp2;go_ret2
  exact⟨rfl,rfl⟩
 have p:bs[0].toNat=165:=by
  have:=Decidable.not_not.1 a;rw [zfL bs 0 k] at this;rw [this];rfl
 rw [p] at d;have d:w.cell? ⟨b,o,none⟩=some (int .u8 165):=d;by_cases x:n<6
 ·have hl:zcQ bs=(0,12):=by unfold zcQ;rw [if_neg (by omega),if_neg a,if_pos (by omega)]
  rw [hl];have D:(n:Int)<6:=by omega
  clear h g hl hc i a p j x;go_enter Tryz.func195,Tryz.ntmps195
  go_wp2;go_ret2
  exact⟨rfl,rfl⟩
 have D:(6:Int)<=(n:Int):=by omega
 have hcut:∀ W,(Instr.slice 27 (slice (some ⟨b,o,none⟩) n c) (some (int i64 2)) (some (int i64 6)) none).run Tryz.prog W=.ok (slice (zc7 (some ⟨b,o,none⟩) 2 c) 4 (c - 2)) W:=fun W=>
  zcj (P:=Tryz.prog) (w:=W) 27 5 _ _ Tryz.underlying27 zaB (some ⟨b,o,none⟩) n c 2 6 (by omega) (by omega)
 have l:Row w B (zc7 (some ⟨b,o,none⟩) 2 c) (((bs.drop 2).take 4).map zaa):=by
  rw [List.map_take,List.map_drop];exact zby (zde h 2 c (by rw [List.length_map];omega)) 4
 obtain⟨C,t⟩:∃ C,zc7 (some ⟨b,o,none⟩) 2 c=C:=⟨_,rfl⟩;rw [t] at hcut l;have y:((bs.drop 2).take 4).length=4:=by rw [List.length_take,List.length_drop];omega
 have hl:zcQ bs=if 65536<rd ((bs.drop 2).take 4) then(0,11) else(rd ((bs.drop 2).take 4),0):=by unfold zcQ;rw [if_neg (by omega),if_neg a,if_neg (by omega)]
 have z:=zb2 ((bs.drop 2).take 4);have s:=zhd (zfU B (c - 2) 4 C ((bs.drop 2).take 4) y.symm (by omega) w l);obtain⟨r,u⟩:∃ r,rd ((bs.drop 2).take 4)=r:=⟨_,rfl⟩;rw [u] at hl s z;clear h g hc i a p j x l y u t;by_cases q:65536<r
 ·rw [if_pos q] at hl;rw [hl];clear hl;go_enter Tryz.func195,Tryz.ntmps195
  go_wp2_with fail
  refine s.out.mono ?_;rintro e w' ⟨rfl,rfl⟩;go_wp2;go_ret2
  exact⟨rfl,rfl⟩
 ·rw [if_neg q] at hl;rw [hl];have J:r<=65536:=by omega
  have K:IntKind.i64.wrap r=r:=by rw [IntKind.wrap_i64];omega
  clear hl q;go_enter Tryz.func195,Tryz.ntmps195
  go_wp2_with fail
  refine s.out.mono ?_;rintro e w' ⟨rfl,rfl⟩;go_wp2;go_ret2
  exact⟨rfl,rfl⟩
def zuy(x:Nx)(w:World)(e:Ending)(w':World):Prop:=match x with
 | .bad e0=>e=.returned (.tuple #[int .u8 0,slice none 0 0,int i64 0,int i64 e0])/\Below w.heap.size w w'
 | .ok r=>∃ A c,e=.returned (.tuple #[int .u8 (r.1.toNat:Int),slice A r.2.length c,int i64 ((r.2.length+10:Nat):Int),int i64 0])/\
  w'.ownsRow w.heap.size 5 1 (slice A r.2.length c) r.2.length (r.2.map zaa)/\Below w.heap.size w w'
theorem zp3(p:Nat)(A:Option Addr)(bs:List UInt8)(n c:Nat)(i:n=bs.length)(K:Nat)(g:chk bs=K)(hl:n<=1000000)(W:World)(b:Blk W p 27 #[slice A n c])(k:Row W W.heap.size A (bs.map zaa)) :
 Calls Tryz.prog 175 #[slice (some ⟨p,0,none⟩) 1 1] W fun e w'=>e=.returned (int .u32 (K:Int))/\W=w':=by
 have h:=zjZ W.heap.size 1 1 (some ⟨p,0,none⟩) [(A,bs,c)] rfl W (Or.inr ⟨p,0,rfl,b.lt,fun j d=>by
  have:j=0:=by simpa using d
  subst this;rw [b.cell];subst i;rfl⟩) (fun r a=>by simp at a;subst a;exact k) (fun r a=>by simp at a;subst a;show bs.length<=_;omega) (by omega)
 rw [show zbi [(A,bs,c)]=bs by simp [zbi],show zew (ze0 zbE bs)=K from g] at h;exact h
def n8T(A C:Option Addr)(n c c4 E Z:Nat)(x:Int)(K:Nat)(bb:Bool):Nat->Value->World->Prop
 | 0,v,_=>v=slice A n c
 | 1,v,_=>v=int i64 (E:Int)
 | 2,v,_=>v=int i64 (Z:Int)
 | 3,v,_=>v=slice C 4 c4
 | 4,v,_=>v=int .u32 x
 | 5,v,_=>v=slice A n c
 | 6,v,_=>v=int i64 (E:Int)
 | 7,v,_=>v=slice A E c
 | 8,v,w=>∃ p,v=slice (some ⟨p,0,none⟩) 1 1/\Blk w p 27 #[slice A E c]
 | 9,v,_=>v=int .u32 (K:Int)
 | _,v,_=>v=.bool bb
theorem zp4(A C:Option Addr)(n c c4 E Z:Nat)(x:Int)(K:Nat)(b:Bool):∀ i v w1 a,n8T A C n c c4 E Z x K b i v w1->Below w1.heap.size w1 a->n8T A C n c c4 E Z x K b i v a:=by
 intro i v w1 a h g;unfold n8T at h ⊢;split at h<;>first|exact h|(obtain⟨p,e,d⟩:=h;exact⟨p,e,d.below g d.lt⟩)
def zoN(B0:Nat)(A C:Option Addr)(P:Value)(n c c6 E Z L:Nat)(kd:Nat)(ys:List UInt8):Nat->Value->World->Prop
 | 0,v,_=>v=slice A n c
 | 1,v,_=>v=P
 | 2,v,_=>v=int .u8 (kd:Int)
 | 3,v,_=>v=slice A n c
 | 4,v,_=>v=int i64 (E:Int)
 | 5,v,_=>v=slice C L c6
 | 6,v,w=>∃ A' c',v=slice A' ys.length c'/\w.ownsRow B0 5 1 (slice A' ys.length c') ys.length (ys.map zaa)
 | 7,v,_=>v=int i64 (Z:Int)
 | 8,v,_=>v=int .u8 (kd:Int)
 | 9,v,w=>∃ A' c',v=slice A' ys.length c'/\w.ownsRow B0 5 1 (slice A' ys.length c') ys.length (ys.map zaa)
 | 10,v,_=>v=int i64 (Z:Int)
 | _,v,_=>v=int i64 0
theorem znY(k:Nat)(A C:Option Addr)(P:Value)(n c c6 E Z L:Nat)(g:Nat)(j:List UInt8):∀ i v w1 d,zoN k A C P n c c6 E Z L g j i v w1->Below w1.heap.size w1 d->zoN k A C P n c c6 E Z L g j i v d:=by
 intro i v w1 d h l;unfold zoN at h ⊢;split at h<;>first|exact h|(obtain⟨a,b,e,m⟩:=h;exact⟨a,b,e,za5 m l⟩)
theorem zsC(B c n:Nat)(A:Option Addr)(bs:List UInt8)(i:n=bs.length)(hc:n<=c)(w:World)(h:Row w B A (bs.map zaa))(hB:B<=w.heap.size)(aP:n<=1073741824) :
 Calls Tryz.prog 176 #[slice A n c] w (zuy (zbg bs) w):=by
 have q:=zhd (zj4 B c n A bs i hc w h);by_cases m:(zcQ bs).2≠0
 ·have hx:zbg bs=.bad (zcQ bs).2:=by unfold zbg;rw [if_pos m]
  rw [hx];obtain⟨⟨l0,e0⟩,j⟩:∃ p,zcQ bs=p:=⟨_,rfl⟩;rw [j] at q m ⊢;have aM:(e0 != 0)=true:=by simpa using m
  simp only at q ⊢;clear h i hc m j hx;go_enter Tryz.func176,Tryz.ntmps176
  go_wp2_with fail
  refine q.out.mono ?_;rintro e w' ⟨rfl,rfl⟩;go_wp2;exact bodyPost_ret (v:=.tuple #[int .u8 0,slice none 0 0,int i64 0,int i64 e0]) (by simp [results,Tryz.results176,go_sem]) rfl ⟨rfl,Below.refl _ _⟩
 have hr:=zjS bs;obtain⟨⟨l0,e0⟩,j⟩:∃ p,zcQ bs=p:=⟨_,rfl⟩;have aI:e0=0:=by rw [j] at m;simpa using m
 subst aI;rw [j] at q hr;simp only at q hr;obtain⟨L,hL⟩:∃ L:Nat,l0=(L:Int):=⟨l0.toNat,by omega⟩;subst hL;have Q:L<=65536:=by omega
 have aO:(L:Int)<=65536:=by omega
 obtain⟨E,z⟩:∃ E,L+6=E:=⟨_,rfl⟩;obtain⟨Z,t⟩:∃ Z,L+10=Z:=⟨_,rfl⟩;have q1:(6:Int)+(L:Int)=(E:Int):=by omega
 have q2:(E:Int)+4=(Z:Int):=by omega
 have s:zbg bs=if n<Z then .bad 12 else if rd ((bs.drop E).take 4)≠(chk (bs.take E):Int) then .bad 20 else .ok (bs.getD 1 0,(bs.drop 6).take L):=by
  unfold zbg;rw [j];simp only [Int.toNat_natCast,ne_eq,not_true_eq_false,if_false];rw [i,<-z,<-t]
 by_cases hs:n<Z
 ·rw [s,if_pos hs];have az:(n:Int)<(Z:Int):=by omega
  clear h i hc m j s hs z t hr Q;go_enter Tryz.func176,Tryz.ntmps176
  go_wp2_with fail
  refine q.out.mono ?_;rintro e w' ⟨rfl,rfl⟩;go_wp2;exact bodyPost_ret (v:=.tuple #[int .u8 0,slice none 0 0,int i64 0,int i64 12]) (by simp [results,Tryz.results176,go_sem]) rfl ⟨rfl,Below.refl _ _⟩
 rw [if_neg hs] at s;have az:(Z:Int)<=(n:Int):=by omega
 have u1:∀ W,(Instr.slice 27 (slice A n c) (some (int i64 (E:Int))) (some (int i64 (Z:Int))) none).run Tryz.prog W=.ok (slice (zc7 A E c) 4 (c - E)) W:=fun W=>by
  have:=zcj (P:=Tryz.prog) (w:=W) 27 5 _ _ Tryz.underlying27 zaB A n c E Z (by omega) (by omega);rw [show Z - E=4 by omega] at this;exact this
 have u2:∀ W,(Instr.slice 27 (slice A n c) none (some (int i64 (E:Int))) none).run Tryz.prog W=.ok (slice A E c) W:=fun W=>
  zbk (P:=Tryz.prog) (w:=W) 27 5 _ _ Tryz.underlying27 zaB A n c E (by omega)
 have aa:∀ W,Below w.heap.size w W->Row W W.heap.size A (bs.map zaa):=fun W d=>(h.below (d.mono hB)).more (Nat.le_trans hB d.size);have au:((bs.drop E).take 4).length=4:=by rw [List.length_take,List.length_drop];omega
 have ab:Hid (∀ W,Below w.heap.size w W->Calls Tryz.prog 196 #[slice (zc7 A E c) 4 (c - E)] W fun e w'=>e=.returned (int .u32 (rd ((bs.drop E).take 4)))/\W=w'):=zhd fun W d=>
  zfU W.heap.size (c - E) 4 _ ((bs.drop E).take 4) au.symm (by omega) W (by
   rw [List.map_take,List.map_drop];exact zby (zde (aa W d) E c (by rw [List.length_map];omega)) 4)
 have aG:(bs.take E).length=E:=by rw [List.length_take];omega
 obtain⟨K,hK⟩:∃ K,chk (bs.take E)=K:=⟨_,rfl⟩;have aA:Hid (∀ W p,Below w.heap.size w W->Blk W p 27 #[slice A E c]->Calls Tryz.prog 175 #[slice (some ⟨p,0,none⟩) 1 1] W fun e w'=>e=.returned (int .u32 (K:Int))/\W=w'):=zhd fun W p d O=>
  zp3 p A (bs.take E) E c aG.symm K hK (by omega) W O (by rw [List.map_take];exact zby (aa W d) E)
 obtain⟨C,hC⟩:∃ C,zc7 A E c=C:=⟨_,rfl⟩;obtain⟨c4,aD⟩:∃ c4,c - E=c4:=⟨_,rfl⟩;obtain⟨x,aq⟩:∃ x,rd ((bs.drop E).take 4)=x:=⟨_,rfl⟩;rw [hC,aD] at u1 ab;rw [aq] at s ab;rw [hK] at s;obtain⟨u,aj⟩:∃ u:Bool,(x != (K:Int))=u:=⟨_,rfl⟩;have an:zbg bs=if u=true then .bad 20 else .ok (bs.getD 1 0,(bs.drop 6).take L):=by
  rw [s,<-aj];by_cases ae:x=(K:Int)
  ·rw [if_neg (by simp [ae]),if_neg (by simp [ae])]
  ·rw [if_pos ae,if_pos (by simpa using ae)]
 have HX:=zhd an;have ah:=zhd aa;have HG:=zhd (And.intro i (And.intro hc (And.intro z (And.intro t Q))));clear h hc m j s an hs z t hr Q aa au aG hC aD aq hK i;go_enter Tryz.func176,Tryz.ntmps176
 go_wp2_with fail
 refine q.out.mono ?_;rintro e w' ⟨rfl,rfl⟩;go_wp2_with fail
 refine Rely.wp_region_by [[],[],[],[(0,28),(1,29),(2,30)],[(3,31)],[],[],[(5,33),(6,34)],[(7,35)],[(8,36)],[(4,32),(9,37)],[(10,38)]] [(0,28),(1,29),(2,30),(3,31),(4,32),(5,33),(6,34),(7,35),(8,36),(9,37),(10,38),(11,27)] [] (n8T A C n c c4 E Z x K u) (by kernel_rfl) (by kernel_rfl) (by kernel_rfl) (by kernel_rfl) (by kernel_rfl) (by kernel_rfl) (zp4 A C n c c4 E Z x K u) ?_ ?_
 ·iterate 4 (refine Rely.stepsZ_cons (by
   intro g w' d a;simp only [Rely.Pre,n8T] at a;unfold Rely.gives;simp only [Rely.sel,List.foldl_cons,List.foldl_nil];go_simp
   exact⟨Below.refl _ _,rfl⟩) ?_)
  refine Rely.stepsZ_cons (by
   intro g w' d a;simp only [Rely.Pre,n8T] at a;unfold Rely.gives;simp only [Rely.sel,List.foldl_cons,List.foldl_nil];go_simp
   simp only [Rely.GivesR];refine(ab.out w' d).mono ?_;rintro e w3 ⟨rfl,rfl⟩;exact⟨_,rfl,Below.refl _ _,rfl⟩) ?_
  iterate 3 (refine Rely.stepsZ_cons (by
   intro g w' d a;simp only [Rely.Pre,n8T] at a;unfold Rely.gives;simp only [Rely.sel,List.foldl_cons,List.foldl_nil];go_simp
   exact⟨Below.refl _ _,rfl⟩) ?_)
  refine Rely.stepsZ_cons (by
   intro g w' d a;simp only [Rely.Pre,n8T] at a;unfold Rely.gives;simp only [Rely.sel,List.foldl_cons,List.foldl_nil];go_simp
   exact⟨zbl,w'.heap.size,rfl,Blk.new _ _ _⟩) ?_
  refine Rely.stepsZ_cons (by
   intro g w' d a;simp only [Rely.Pre,n8T] at a;obtain⟨⟨p,e1,O⟩,_⟩:=a;unfold Rely.gives;simp only [Rely.sel,List.foldl_cons,List.foldl_nil];go_simp
   simp only [Rely.GivesR];refine(aA.out w' p d O).mono ?_;rintro e w3 ⟨rfl,rfl⟩;exact⟨_,rfl,Below.refl _ _,rfl⟩) ?_
  iterate 2 (refine Rely.stepsZ_cons (by
   intro g w' d a;simp only [Rely.Pre,n8T] at a;unfold Rely.gives;simp only [Rely.sel,List.foldl_cons,List.foldl_nil];go_simp
   exact⟨Below.refl _ _,rfl⟩) ?_)
  exact Rely.stepsZ_nil
 ·intro g w1 ao a _;simp only [Rely.Pre,n8T] at a;obtain⟨X,I,G,N,U,V,M,T,⟨p,R,O⟩,F,S,D,_⟩:=a;simp only [Rely.sel,List.foldl_cons,List.foldl_nil,X,I,G,N,U,V,M,T,R,F,S,D];clear X I G N U V M T R F S D;have l:=zhd ao;clear O ao aA ab u1 u2 q1 q2 q;simp only [Act.put,List.setIfInBounds_toArray,List.set_cons_succ,List.set_cons_zero];cases u
  ·obtain⟨i,hc,z,t,Q⟩:=HG.out;obtain⟨b,o,rfl,d,aB⟩:=(ah.out w (Below.refl _ _)).open_ (by rw [List.length_map];omega);have af:1<bs.length:=by omega
   have Y:=aB 1 (by rw [List.length_map];exact af);rw [zbn bs 1 af,<-zfL bs 1 af] at Y;obtain⟨r,am⟩:∃ r,bs.getD 1 0=r:=⟨_,rfl⟩;have J:zbg bs=.ok (r,(bs.drop 6).take L):=by rw [HX.out,if_neg (by decide),am]
   rw [am] at Y;have aK:Hid (∀ W,Below w1.heap.size w1 W->W.cell? ⟨b,o+1,none⟩=some (int .u8 (r.toNat:Int))):=zhd fun W y=>
    ((l.out.trans (y.mono l.out.size)).cell (p:=⟨b,o+1,none⟩) d).trans Y
   have aN:(1:Int)<(n:Int):=by omega
   have u3:∀ W,(Instr.slice 27 (slice (some ⟨b,o,none⟩) n c) (some (int i64 6)) (some (int i64 (E:Int))) none).run Tryz.prog W=.ok (slice (zc7 (some ⟨b,o,none⟩) 6 c) L (c - 6)) W:=fun W=>by
    have:=zcj (P:=Tryz.prog) (w:=W) 27 5 _ _ Tryz.underlying27 zaB (some ⟨b,o,none⟩) n c 6 E (by omega) (by omega);rw [show E - 6=L by omega] at this;exact this
   obtain⟨k,ag⟩:∃ k,(bs.drop 6).take L=k:=⟨_,rfl⟩;have ak:k.length=L:=by rw [<-ag,List.length_take,List.length_drop];omega
   have ax:Hid (∀ W,Below w1.heap.size w1 W->Calls Tryz.prog 71 #[slice (zc7 (some ⟨b,o,none⟩) 6 c) L (c - 6)] W (zex W.heap.size k W)):=zhd fun W y=>
    za4 W.heap.size (c - 6) _ k L ak.symm W (by
     rw [<-ag,List.map_take,List.map_drop];exact zby (zde (ah.out W (l.out.trans (y.mono l.out.size))) 6 c (by rw [List.length_map];omega)) L) (Nat.le_refl _) (by omega)
   obtain⟨C6,aw⟩:∃ C6,zc7 (some ⟨b,o,none⟩) 6 c=C6:=⟨_,rfl⟩;obtain⟨c6,ay⟩:∃ c6,c - 6=c6:=⟨_,rfl⟩;rw [aw,ay] at u3 ax;rw [ag] at J;have al:=zhd (And.intro J (And.intro ak t));clear i hc z t Q aB Y am J ag ak aw ay af aj HX HG ah;go_wp2_with fail
   refine Rely.wp_region_by [[],[(0,39)],[(1,40)],[],[],[(3,42),(4,43)],[(5,44)],[],[(2,41)],[(6,45)],[(7,46)],[]] [(0,39),(1,40),(2,41),(3,42),(4,43),(5,44),(6,45),(7,46),(8,2),(9,3),(10,4),(11,5)] [] (zoN w.heap.size (some ⟨b,o,none⟩) C6 (.pointer (some ⟨b,o+1,none⟩)) n c c6 E Z L r.toNat k) (by kernel_rfl) (by kernel_rfl) (by kernel_rfl) (by kernel_rfl) (by kernel_rfl) (by kernel_rfl) (znY w.heap.size (some ⟨b,o,none⟩) C6 (.pointer (some ⟨b,o+1,none⟩)) n c c6 E Z L r.toNat k) ?_ ?_
   ·iterate 2 (refine Rely.stepsZ_cons (by
     intro g w' d a;simp only [Rely.Pre,zoN] at a;unfold Rely.gives;simp only [Rely.sel,List.foldl_cons,List.foldl_nil];go_simp
     exact⟨Below.refl _ _,rfl⟩) ?_)
    refine Rely.stepsZ_cons (by
     intro g w' d a;simp only [Rely.Pre,zoN] at a;have aL:=aK.out w' d;unfold Rely.gives;simp only [Rely.sel,List.foldl_cons,List.foldl_nil];go_simp
     exact⟨Below.refl _ _,rfl⟩) ?_
    iterate 3 (refine Rely.stepsZ_cons (by
     intro g w' d a;simp only [Rely.Pre,zoN] at a;unfold Rely.gives;simp only [Rely.sel,List.foldl_cons,List.foldl_nil];go_simp
     exact⟨Below.refl _ _,rfl⟩) ?_)
    refine Rely.stepsZ_cons (by
     intro g w' d a;simp only [Rely.Pre,zoN] at a;unfold Rely.gives;simp only [Rely.sel,List.foldl_cons,List.foldl_nil];go_simp
     simp only [Rely.GivesR];refine(ax.out w' d).mono ?_;rintro e w3 ⟨A3,c3,rfl,ai,aJ⟩;exact⟨_,rfl,aJ,A3,c3,rfl,zaz ai (Nat.le_trans l.out.size d.size)⟩) ?_
    iterate 2 (refine Rely.stepsZ_cons (by
     intro g w' d a;simp only [Rely.Pre,zoN] at a;unfold Rely.gives;simp only [Rely.sel,List.foldl_cons,List.foldl_nil];go_simp
     exact⟨Below.refl _ _,rfl⟩) ?_)
    refine Rely.stepsZ_cons (by
     intro g w' d a;simp only [Rely.Pre,zoN] at a;obtain⟨⟨a3,c3,e3,ai⟩,_⟩:=a;unfold Rely.gives;simp only [Rely.sel,List.foldl_cons,List.foldl_nil];go_simp
     exact⟨Below.refl _ _,a3,c3,rfl,ai⟩) ?_
    iterate 2 (refine Rely.stepsZ_cons (by
     intro g w' d a;simp only [Rely.Pre,zoN] at a;unfold Rely.gives;simp only [Rely.sel,List.foldl_cons,List.foldl_nil];go_simp
     exact⟨Below.refl _ _,rfl⟩) ?_)
    exact Rely.stepsZ_nil
   ·intro g w2 y a _;simp only [Rely.Pre,zoN] at a;obtain⟨X,I,G,N,U,V,⟨a6,b6,M,_⟩,T,R,⟨a9,b9,F,aE⟩,S,D,_⟩:=a;simp only [Rely.sel,List.foldl_cons,List.foldl_nil,X,I,G,N,U,V,M,T,R,F,S,D];clear X I G N U V M T R F S D;have HO:=zhd aE;have aH:=zhd (l.out.trans (y.mono l.out.size));clear aE y;simp only [Act.put,List.setIfInBounds_toArray,List.set_cons_succ,List.set_cons_zero];go_wp2;refine bodyPost_ret (v:=.tuple #[int .u8 (r.toNat:Int),slice a9 k.length b9,int i64 (Z:Int),int i64 0]) (by simp [results,Tryz.results176,go_sem]) rfl ?_;rw [al.out.1];refine⟨a9,b9,?_,HO.out,aH.out⟩;simp only;rw [al.out.2.1,al.out.2.2]
  ·have J:Hid (zbg bs=.bad 20):=zhd (by rw [HX.out,if_pos rfl]);clear HX aj HG ah az;go_wp2;refine bodyPost_ret (v:=.tuple #[int .u8 0,slice none 0 0,int i64 0,int i64 20]) (by simp [results,Tryz.results176,go_sem]) rfl ?_;rw [J.out];exact⟨rfl,l.out⟩
end
section
open Go.RowKit Mem Be Word Frm
def zvl(B0:Nat)(ys:List UInt8)(A:Option Addr)(c:Nat)(w:World):Prop:=w.ownsRow B0 5 1 (slice A ys.length c) ys.length (ys.map zaa)
def znZ(B0:Nat)(A C:Option Addr)(P:Value)(n c c6 E L:Nat)(kd:Nat)(ys:List UInt8):Nat->Value->World->Prop
 | 0,v,_=>v=slice A n c
 | 1,v,_=>v=P
 | 2,v,_=>v=int .u8 (kd:Int)
 | 3,v,_=>v=slice A n c
 | 4,v,_=>v=int i64 (L:Int)
 | 5,v,_=>v=int i64 (E:Int)
 | 6,v,_=>v=slice C L c6
 | 7,v,w=>∃ A' c',v=.tuple #[slice A' ys.length c',int i64 0]/\zvl B0 ys A' c' w
 | 8,v,w=>∃ A' c',v=.tuple #[slice A' ys.length c',int i64 0]/\zvl B0 ys A' c' w
 | 9,v,w=>∃ A' c',v=slice A' ys.length c'/\zvl B0 ys A' c' w
 | 10,v,_=>v=int i64 0
 | 11,v,w=>∃ A' c',v=slice A' ys.length c'/\zvl B0 ys A' c' w
 | _,v,_=>v=int i64 0
theorem zn0(k:Nat)(A C:Option Addr)(P:Value)(n c c6 E L:Nat)(g:Nat)(j:List UInt8):∀ i v w1 d,znZ k A C P n c c6 E L g j i v w1->Below w1.heap.size w1 d->znZ k A C P n c c6 E L g j i v d:=by
 intro i v w1 d h l;unfold znZ at h ⊢;split at h<;>first|exact h|(obtain⟨a,b,e,m⟩:=h;exact⟨a,b,e,za5 m l⟩)
def zoO(B0:Nat)(A C:Option Addr)(P:Value)(n c c6 E Z L:Nat)(kd:Nat)(ys:List UInt8):Nat->Value->World->Prop
 | 0,v,_=>v=slice A n c
 | 1,v,_=>v=P
 | 2,v,_=>v=int .u8 (kd:Int)
 | 3,v,_=>v=slice A n c
 | 4,v,_=>v=int i64 (L:Int)
 | 5,v,_=>v=int i64 (E:Int)
 | 6,v,_=>v=slice C L c6
 | 7,v,w=>∃ A' c',v=slice A' ys.length c'/\zvl B0 ys A' c' w
 | 8,v,_=>v=int i64 (L:Int)
 | 9,v,_=>v=int i64 (Z:Int)
 | 10,v,_=>v=int .u8 (kd:Int)
 | 11,v,w=>∃ A' c',v=slice A' ys.length c'/\zvl B0 ys A' c' w
 | 12,v,_=>v=int i64 (Z:Int)
 | _,v,_=>v=int i64 0
theorem zn1(k:Nat)(A C:Option Addr)(P:Value)(n c c6 E Z L:Nat)(g:Nat)(j:List UInt8):∀ i v w1 d,zoO k A C P n c c6 E Z L g j i v w1->Below w1.heap.size w1 d->zoO k A C P n c c6 E Z L g j i v d:=by
 intro i v w1 d h l;unfold zoO at h ⊢;split at h<;>first|exact h|(obtain⟨a,b,e,m⟩:=h;exact⟨a,b,e,za5 m l⟩)
theorem zvT{bs:List UInt8}(h:bs.length=0):zbg bs=.bad 4:=by
 obtain rfl:bs=[]:=List.eq_nil_of_length_eq_zero h;rfl
theorem zwQ{bs:List UInt8}(a:bs.length≠0)(h:bs.getD 0 0≠165):zbg bs=.bad 11:=by
 have hl:zcQ bs=(0,11):=by unfold zcQ;rw [if_neg a,if_pos h]
 unfold zbg;rw [hl];rfl
theorem zwR{bs:List UInt8}(b:bs.length≠0)(h:bs.getD 0 0=165)(a:bs.length<6):zbg bs=.bad 12:=by
 have hl:zcQ bs=(0,12):=by unfold zcQ;rw [if_neg b,if_neg (by simpa using h),if_pos a]
 unfold zbg;rw [hl];rfl
theorem zwS{bs:List UInt8}(h:bs.getD 0 0=165)(a:¬ bs.length<6):zcQ bs=if 65536<rd ((bs.drop 2).take 4) then(0,11) else(rd ((bs.drop 2).take 4),0):=by
 unfold zcQ;rw [if_neg (by omega),if_neg (by simpa using h),if_neg a]
theorem zlA(B c n:Nat)(A:Option Addr)(bs:List UInt8)(y:n=bs.length)(hc:n<=c)(w:World)(h:Row w B A (bs.map zaa))(hB:B<=w.heap.size)(aY:n<=1073741824) :
 Calls Tryz.prog 160 #[slice A n c] w (zuy (zbg bs) w):=by
 by_cases x:n=0
 ·rw [zvT (by omega)];subst x;clear h y hc aY;go_enter Tryz.func160,Tryz.ntmps160
  go_wp2;exact bodyPost_ret (v:=.tuple #[int .u8 0,slice none 0 0,int i64 0,int i64 4]) (by simp [results,Tryz.results160,go_sem]) rfl ⟨rfl,Below.refl _ _⟩
 have hz:((n:Int)==0)=false:=by simp;omega
 obtain⟨b,o,rfl,d,O⟩:=h.open_ (by rw [List.length_map];omega);have aB:0<bs.length:=by omega
 have aa:=O 0 (by rw [List.length_map];omega);rw [zbn bs 0 aB,Nat.add_zero] at aa;have bg:0<n:=by omega
 by_cases g:bs.getD 0 0≠165
 ·rw [zwQ (by omega) g];rw [zfL bs 0 aB] at g;obtain⟨v,M⟩:∃ v,bs[0].toNat=v:=⟨_,rfl⟩;have bf:v≠165:=by rw [<-M];exact zp2 _ g
  have bd:((v:Int) != 165)=true:=by simp;omega
  rw [M] at aa;clear h y hc O g M x;go_enter Tryz.func160,Tryz.ntmps160
  go_wp2;exact bodyPost_ret (v:=.tuple #[int .u8 0,slice none 0 0,int i64 0,int i64 11]) (by simp [results,Tryz.results160,go_sem]) rfl ⟨rfl,Below.refl _ _⟩
 have g:=Decidable.not_not.1 g;have aw:bs[0].toNat=165:=by
  rw [zfL bs 0 aB] at g;rw [g];rfl
 rw [aw] at aa;have aa:w.cell? ⟨b,o,none⟩=some (int .u8 165):=aa;by_cases C:n<6
 ·rw [zwR (by omega) g (by omega)];have aV:(n:Int)<6:=by omega
  clear h y hc O g aw x C;go_enter Tryz.func160,Tryz.ntmps160
  go_wp2;exact bodyPost_ret (v:=.tuple #[int .u8 0,slice none 0 0,int i64 0,int i64 12]) (by simp [results,Tryz.results160,go_sem]) rfl ⟨rfl,Below.refl _ _⟩
 have aV:(6:Int)<=(n:Int):=by omega
 have hl:=zwS g (by omega:¬ bs.length<6);obtain⟨l,aj⟩:∃ l,(bs.drop 2).take 4=l:=⟨_,rfl⟩;have aP:l.length=4:=by rw [<-aj,List.length_take,List.length_drop];omega
 have aL:Hid (∀ k (hk:k<l.length),w.cell? ⟨b,o+(2+k),none⟩=some (int .u8 (l[k].toNat:Int))):=zhd fun k hk=>by
  have:=O (2+k) (by rw [List.length_map];omega);rw [zbn bs (2+k) (by omega)] at this;rw [this];subst aj;simp
 have z:=zhd aP;rw [aj] at hl;obtain⟨q,ay⟩:∃ q,bs.getD 1 0=q:=⟨_,rfl⟩;have aK:w.cell? ⟨b,o+1,none⟩=some (int .u8 (q.toNat:Int)):=by
  have:=O 1 (by rw [List.length_map];omega);rw [zbn bs 1 (by omega),<-zfL bs 1 (by omega),ay] at this;exact this
 have aI:Hid (∀ W,Below w.heap.size w W->W.cell? ⟨b,o+1,none⟩=some (int .u8 (q.toNat:Int))):=zhd fun W r=>
  ((r.mono hB).cell (p:=⟨b,o+1,none⟩) d).trans aK
 have ax:Hid (∀ W,Below w.heap.size w W->Row W W.heap.size (some ⟨b,o,none⟩) (bs.map zaa)):=zhd fun W d=>(h.below (d.mono hB)).more (Nat.le_trans hB d.size);have HN:=zhd y;have HC:=zhd hc;have J:=zhd hl;have HK:=zhd ay;clear h y hc O g aw x C hl aP ay aK aj;go_enter Tryz.func160,Tryz.ntmps160
 go_wp2;go_loop [6,7] (fun v i=>∃ k:Nat,k<=4/\i=int i64 ((2+k:Nat):Int)/\v=int i64 (rd (l.take k))) (fun _ i=>6 - (intOf i).toNat)
 case atStart=>exact⟨0,by omega,rfl,rfl⟩
 case round=>
  obtain⟨k,hk,rfl,rfl⟩:=hrel;by_cases N:k<4
  ·have aW:=aL.out k (by rw [z.out];exact N);have r0:=zb2 (l.take k);have r1:=zj1 l k (by rw [z.out];exact N) (by rw [z.out];omega);have r2:=(l[k]'(by rw [z.out];exact N)).toNat_lt;have D:=zhd (zeE l k (by rw [z.out];exact N));obtain⟨u,U⟩:∃ u,rd (l.take k)=u:=⟨_,rfl⟩;obtain⟨v,M⟩:∃ v,(l[k]'(by rw [z.out];exact N)).toNat=v:=⟨_,rfl⟩;rw [U] at r0 r1 D ⊢;rw [M] at aW r2 D;clear U M;go_wp2;go_round
   case rel=>exact⟨k+1,by omega,by go_num,by rw [D.out]⟩
   case measure=>simp [intOf];omega
  ·obtain rfl:k=4:=by omega
   have hT:l.take 4=l:=List.take_of_length_le (by rw [z.out];exact Nat.le_refl _);have r0:=zb2 l;rw [hT];obtain⟨u,U⟩:∃ u,rd l=u:=⟨_,rfl⟩;rw [U] at r0 J ⊢;clear hT U N hk aL z;by_cases ai:65536<u
   ·have hx:zbg bs=.bad 11:=by have:=J.out;rw [if_pos ai] at this;unfold zbg;rw [this];rfl
    have s:=zhd hx;clear J hx;go_wp2;refine bodyPost_ret (v:=.tuple #[int .u8 0,slice none 0 0,int i64 0,int i64 11]) (by simp [results,Tryz.results160,go_sem]) rfl ?_;rw [s.out];exact⟨rfl,Below.refl _ _⟩
   have ah:zcQ bs=(u,0):=by have:=J.out;rw [if_neg ai] at this;exact this
   obtain⟨L,hL⟩:∃ L:Nat,u=(L:Int):=⟨u.toNat,by omega⟩;subst hL;have aR:L<=65536:=by omega
   have bh:(L:Int)<=65536:=by omega
   obtain⟨E,hE⟩:∃ E,L+6=E:=⟨_,rfl⟩;obtain⟨Z,X⟩:∃ Z,L+10=Z:=⟨_,rfl⟩;have q1:(6:Int)+(L:Int)=(E:Int):=by omega
   have q2:(L:Int)+10=(Z:Int):=by omega
   have y:=HN.out;have I:zbg bs=if n<Z then .bad 12 else if rd ((bs.drop E).take 4)≠(chk (bs.take E):Int) then .bad 20 else .ok (bs.getD 1 0,(bs.drop 6).take L):=by
    unfold zbg;rw [ah];simp only [Int.toNat_natCast,ne_eq,not_true_eq_false,if_false];rw [y,<-hE,<-X]
   by_cases D:n<Z
   ·rw [if_pos D] at I;have aX:(n:Int)<(Z:Int):=by omega
    have s:=zhd I;clear J I ah hE X y D ai aR;go_wp2;refine bodyPost_ret (v:=.tuple #[int .u8 0,slice none 0 0,int i64 0,int i64 12]) (by simp [results,Tryz.results160,go_sem]) rfl ?_;rw [s.out];exact⟨rfl,Below.refl _ _⟩
   rw [if_neg D] at I;have aX:(Z:Int)<=(n:Int):=by omega
   have al:=HC.out;have Q:=zsm ah (by omega);rw [hE,X] at Q;obtain⟨j,ak⟩:∃ j,(bs.drop 6).take L=j:=⟨_,rfl⟩;have ag:j.length=L:=by rw [<-ak,List.length_take,List.length_drop];omega
   rw [HK.out,ak] at Q I;obtain⟨F,hF⟩:∃ F,frB (q,j)=F:=⟨_,rfl⟩;rw [hF] at Q;have aG:F.length=Z:=by rw [<-hF,zcJ];show j.length+10=Z;omega
   obtain⟨bb,am⟩:∃ bb:Bool,(F==bs.take Z)=bb:=⟨_,rfl⟩;have aM:zbg bs=if bb=true then .ok (q,j) else .bad 20:=by
    rw [I,<-am];by_cases hq:F=bs.take Z
    ·rw [if_neg (by simpa using Q.1 hq),if_pos (by simpa using hq)]
    ·rw [if_pos (fun e=>hq (Q.2 e)),if_neg (by simpa using hq)]
   have u3:∀ W,(Instr.slice 27 (slice (some ⟨b,o,none⟩) n c) (some (int i64 6)) (some (int i64 (E:Int))) none).run Tryz.prog W=.ok (slice (zc7 (some ⟨b,o,none⟩) 6 c) L (c - 6)) W:=fun W=>by
    have:=zcj (P:=Tryz.prog) (w:=W) 27 5 _ _ Tryz.underlying27 zaB (some ⟨b,o,none⟩) n c 6 E (by omega) (by omega);rw [show E - 6=L by omega] at this;exact this
   have u4:∀ W,(Instr.slice 27 (slice (some ⟨b,o,none⟩) n c) none (some (int i64 (Z:Int))) none).run Tryz.prog W=.ok (slice (some ⟨b,o,none⟩) Z c) W:=fun W=>
    zbk (P:=Tryz.prog) (w:=W) 27 5 _ _ Tryz.underlying27 zaB (some ⟨b,o,none⟩) n c Z (by omega)
   have ao:Hid (∀ W,Below w.heap.size w W->Row W W.heap.size (zc7 (some ⟨b,o,none⟩) 6 c) (j.map zaa)):=zhd fun W r=>by
    rw [<-ak,List.map_take,List.map_drop];exact zby (zde (ax.out W r) 6 c (by rw [List.length_map];omega)) L
   have aD:zkS (q,j)=(F,0):=by unfold zkS;rw [if_neg (by show ¬ 65536<j.length;omega),hF]
   have af:Hid (∀ W,Below w.heap.size w W->Calls Tryz.prog 100 #[int .u8 (q.toNat:Int),slice (zc7 (some ⟨b,o,none⟩) 6 c) L (c - 6)] W (ziM W.heap.size (F,0) W)):=zhd fun W r=>by
    have:=zeo q W.heap.size (c - 6) L _ j ag.symm W (ao.out W r) (Nat.le_refl _);rw [aD] at this;exact this
   have aq:Hid (∀ W,Below w.heap.size w W->Calls Tryz.prog 54 #[slice (zc7 (some ⟨b,o,none⟩) 6 c) L (c - 6)] W (zex W.heap.size j W)):=zhd fun W r=>
    ze2 W.heap.size (c - 6) L _ j ag.symm W (ao.out W r) (Nat.le_refl _) (by omega)
   have aJ:Hid (∀ W,Below w.heap.size w W->Row W W.heap.size (some ⟨b,o,none⟩) ((bs.take Z).map zaa)):=zhd fun W r=>by
    rw [List.map_take];exact zby (ax.out W r) Z
   have aO:(bs.take Z).length=Z:=by rw [List.length_take];omega
   obtain⟨K,aS⟩:∃ K,zc7 (some ⟨b,o,none⟩) 6 c=K:=⟨_,rfl⟩;obtain⟨c6,aT⟩:∃ c6,c - 6=c6:=⟨_,rfl⟩;rw [aS] at u3 af aq;rw [aT] at u3 af aq;have aZ:(1:Int)<(n:Int):=by omega
   have r5:IntKind.i64.wrap (E:Int)=(E:Int):=by rw [IntKind.wrap_i64];omega
   have r6:IntKind.i64.wrap (Z:Int)=(Z:Int):=by rw [IntKind.wrap_i64];omega
   have s:=zhd (And.intro aM (And.intro ag (And.intro X (And.intro aG (And.intro aO am)))));clear J I aM ah hE X y D ai aR al Q ak ag hF aG am aD aS aT aO ao ax HN HC HK;go_wp2_with fail
   refine Rely.wp_region_by [[],[(0,40)],[(1,41)],[],[],[(4,44)],[(3,43),(5,45)],[(2,42),(6,46)],[(7,47)],[(8,39)],[(8,39)],[(9,48)],[(10,49)]] [(0,40),(1,41),(2,42),(3,43),(4,44),(5,45),(6,46),(7,47),(8,39),(9,48),(10,49),(11,8),(12,9)] [] (znZ w.heap.size (some ⟨b,o,none⟩) K (.pointer (some ⟨b,o+1,none⟩)) n c c6 E L q.toNat F) (by kernel_rfl) (by kernel_rfl) (by kernel_rfl) (by kernel_rfl) (by kernel_rfl) (by kernel_rfl) (zn0 w.heap.size (some ⟨b,o,none⟩) K (.pointer (some ⟨b,o+1,none⟩)) n c c6 E L q.toNat F) ?_ ?_
   ·iterate 2 (refine Rely.stepsZ_cons (by
     intro m w' d a;simp only [Rely.Pre,znZ] at a;unfold Rely.gives;simp only [Rely.sel,List.foldl_cons,List.foldl_nil];go_simp
     exact⟨Below.refl _ _,rfl⟩) ?_)
    refine Rely.stepsZ_cons (by
     intro m w' d a;simp only [Rely.Pre,znZ] at a;have al:=aI.out w' d;unfold Rely.gives;simp only [Rely.sel,List.foldl_cons,List.foldl_nil];go_simp
     exact⟨Below.refl _ _,rfl⟩) ?_
    iterate 4 (refine Rely.stepsZ_cons (by
     intro m w' d a;simp only [Rely.Pre,znZ] at a;unfold Rely.gives;simp only [Rely.sel,List.foldl_cons,List.foldl_nil];go_simp
     exact⟨Below.refl _ _,rfl⟩) ?_)
    refine Rely.stepsZ_cons (by
     intro m w' d a;simp only [Rely.Pre,znZ] at a;unfold Rely.gives;simp only [Rely.sel,List.foldl_cons,List.foldl_nil];go_simp
     simp only [Rely.GivesR];refine(af.out w' d).mono ?_;rintro e w3 ⟨A3,c3,rfl,t,au⟩;exact⟨_,rfl,au,A3,c3,rfl,zaz t d.size⟩) ?_
    iterate 2 (refine Rely.stepsZ_cons (by
     intro m w' d a;simp only [Rely.Pre,znZ] at a;obtain⟨⟨a3,c3,e3,t⟩,_⟩:=a;unfold Rely.gives;simp only [Rely.sel,List.foldl_cons,List.foldl_nil];go_simp
     exact⟨Below.refl _ _,a3,c3,rfl,t⟩) ?_)
    refine Rely.stepsZ_cons (by
     intro m w' d a;simp only [Rely.Pre,znZ] at a;obtain⟨⟨a3,c3,e3,t⟩,_⟩:=a;unfold Rely.gives;simp only [Rely.sel,List.foldl_cons,List.foldl_nil];go_simp
     exact⟨Below.refl _ _,rfl⟩) ?_
    refine Rely.stepsZ_cons (by
     intro m w' d a;simp only [Rely.Pre,znZ] at a;obtain⟨⟨a3,c3,e3,t⟩,_⟩:=a;unfold Rely.gives;simp only [Rely.sel,List.foldl_cons,List.foldl_nil];go_simp
     exact⟨Below.refl _ _,a3,c3,rfl,t⟩) ?_
    refine Rely.stepsZ_cons (by
     intro m w' d a;simp only [Rely.Pre,znZ] at a;unfold Rely.gives;simp only [Rely.sel,List.foldl_cons,List.foldl_nil];go_simp
     exact⟨Below.refl _ _,rfl⟩) ?_
    exact Rely.stepsZ_nil
   intro m w1 aA a _;simp only [Rely.Pre,znZ] at a;obtain⟨x,g,S,T,V,h5,C,⟨a7,b7,h7,_⟩,⟨a8,b8,h8,_⟩,⟨a9,b9,Y,_⟩,ae,⟨aF,cF,R,aN⟩,ab,_⟩:=a;simp only [Rely.sel,List.foldl_cons,List.foldl_nil,x,g,S,T,V,h5,C,h7,h8,Y,ae,R,ab];clear x g S T V h5 C h7 h8 Y ae R ab;have G:=zhd aA;have az:=zmv w1.heap.size w1.heap.size cF c F.length Z aF (some ⟨b,o,none⟩) F (bs.take Z) w1 (Row.of_own aN) (aJ.out w1 aA) rfl s.out.2.2.2.2.1.symm;rw [s.out.2.2.2.2.2] at az;have aE:=zhd az;clear aA aN az af aJ;simp only [Act.put,List.setIfInBounds_toArray,List.set_cons_succ,List.set_cons_zero];go_wp2_with fail
   refine aE.out.mono ?_;rintro e w' ⟨rfl,rfl⟩;clear aE;cases bb
   ·have an:Hid (zbg bs=.bad 20):=zhd (by rw [s.out.1,if_neg (by decide)]);clear s;go_wp2;refine bodyPost_ret (v:=.tuple #[int .u8 0,slice none 0 0,int i64 0,int i64 20]) (by simp [results,Tryz.results160,go_sem]) rfl ?_;rw [an.out];exact⟨rfl,G.out⟩
   have an:Hid (zbg bs=.ok (q,j)):=zhd (by rw [s.out.1,if_pos rfl]);go_wp2_with fail
   refine Rely.wp_region_by [[],[(0,57)],[(1,58)],[],[],[(4,61)],[(3,60),(5,62)],[(6,63)],[],[(8,65)],[(2,59)],[(7,64)],[(9,66)],[]] [(0,57),(1,58),(2,59),(3,60),(4,61),(5,62),(6,63),(7,64),(8,65),(9,66),(10,2),(11,3),(12,4),(13,5)] [] (zoO w.heap.size (some ⟨b,o,none⟩) K (.pointer (some ⟨b,o+1,none⟩)) n c c6 E Z L q.toNat j) (by kernel_rfl) (by kernel_rfl) (by kernel_rfl) (by kernel_rfl) (by kernel_rfl) (by kernel_rfl) (zn1 w.heap.size (some ⟨b,o,none⟩) K (.pointer (some ⟨b,o+1,none⟩)) n c c6 E Z L q.toNat j) ?_ ?_
   ·iterate 2 (refine Rely.stepsZ_cons (by
     intro m w' d a;simp only [Rely.Pre,zoO] at a;unfold Rely.gives;simp only [Rely.sel,List.foldl_cons,List.foldl_nil];go_simp
     exact⟨Below.refl _ _,rfl⟩) ?_)
    refine Rely.stepsZ_cons (by
     intro m w' d a;simp only [Rely.Pre,zoO] at a;have al:=aI.out w' (G.out.trans (d.mono G.out.size));unfold Rely.gives;simp only [Rely.sel,List.foldl_cons,List.foldl_nil];go_simp
     exact⟨Below.refl _ _,rfl⟩) ?_
    iterate 4 (refine Rely.stepsZ_cons (by
     intro m w' d a;simp only [Rely.Pre,zoO] at a;unfold Rely.gives;simp only [Rely.sel,List.foldl_cons,List.foldl_nil];go_simp
     exact⟨Below.refl _ _,rfl⟩) ?_)
    refine Rely.stepsZ_cons (by
     intro m w' d a;simp only [Rely.Pre,zoO] at a;unfold Rely.gives;simp only [Rely.sel,List.foldl_cons,List.foldl_nil];go_simp
     simp only [Rely.GivesR];refine(aq.out w' (G.out.trans (d.mono G.out.size))).mono ?_;rintro e w3 ⟨A3,c3,rfl,t,au⟩;exact⟨_,rfl,au,A3,c3,rfl,zaz t (Nat.le_trans G.out.size d.size)⟩) ?_
    iterate 3 (refine Rely.stepsZ_cons (by
     intro m w' d a;simp only [Rely.Pre,zoO] at a;unfold Rely.gives;simp only [Rely.sel,List.foldl_cons,List.foldl_nil];go_simp
     exact⟨Below.refl _ _,rfl⟩) ?_)
    refine Rely.stepsZ_cons (by
     intro m w' d a;simp only [Rely.Pre,zoO] at a;obtain⟨⟨a3,c3,e3,t⟩,_⟩:=a;unfold Rely.gives;simp only [Rely.sel,List.foldl_cons,List.foldl_nil];go_simp
     exact⟨Below.refl _ _,a3,c3,rfl,t⟩) ?_
    iterate 2 (refine Rely.stepsZ_cons (by
     intro m w' d a;simp only [Rely.Pre,zoO] at a;unfold Rely.gives;simp only [Rely.sel,List.foldl_cons,List.foldl_nil];go_simp
     exact⟨Below.refl _ _,rfl⟩) ?_)
    exact Rely.stepsZ_nil
   intro m w2 r a _;simp only [Rely.Pre,zoO] at a;obtain⟨x,g,S,T,V,h5,C,⟨a7,b7,h7,_⟩,h8,Y,ae,⟨aC,cC,R,aH⟩,ab,aQ,_⟩:=a;simp only [Rely.sel,List.foldl_cons,List.foldl_nil,x,g,S,T,V,h5,C,h7,h8,Y,ae,R,ab,aQ];clear x g S T V h5 C h7 h8 Y ae R ab aQ;have HO:=zhd aH;have aU:=zhd (G.out.trans (r.mono G.out.size));clear aH r u3 u4;simp only [Act.put,List.setIfInBounds_toArray,List.set_cons_succ,List.set_cons_zero];go_wp2;refine bodyPost_ret (v:=.tuple #[int .u8 (q.toNat:Int),slice aC j.length cC,int i64 (Z:Int),int i64 0]) (by simp [results,Tryz.results160,go_sem]) rfl ?_;rw [an.out];refine⟨aC,cC,?_,HO.out,aU.out⟩;simp only;rw [s.out.2.1,s.out.2.2.1]
end
section
open Go.RowKit Mem Be Word Frm
theorem zsD(B c n:Nat)(A:Option Addr)(bs:List UInt8)(U:n=bs.length)(hc:n<=c)(w:World)(h:Row w B A (bs.map zaa))(R:B<=w.heap.size)(aq:n<=4194304) :
 Calls Tryz.prog 153 #[slice A n c] w (zsw (zar bs) w):=by
 have hcut:∀ (k:Nat) W,k<=n->(Instr.slice 27 (slice A n c) (some (int i64 (k:Int))) none none).run Tryz.prog W=.ok (slice (zc7 A k c) (n - k) (c - k)) W:=fun k W t=>
  zdm (P:=Tryz.prog) (w:=W) 27 5 _ _ Tryz.underlying27 zaB A n c k t
 have O:=zhd hcut;have z:Hid (∀ (k:Nat) W,k<=n->Below w.heap.size w W->Calls Tryz.prog 176 #[slice (zc7 A k c) (n - k) (c - k)] W (zuy (zbg (bs.drop k)) W)):=zhd fun k W t b=>
  zsC W.heap.size (c - k) (n - k) _ (bs.drop k) (by rw [List.length_drop];omega) (by omega) W (by
   rw [List.map_drop];exact zde ((h.below (b.mono R)).more (Nat.le_trans R b.size)) k c (by rw [List.length_map];omega)) (Nat.le_refl _) (by omega)
 have HN:=zhd U;have ao:(n:Int)<=4194304:=by omega
 clear h hc U hcut;go_enter Tryz.func153,Tryz.ntmps153
 go_wp2;go_step3
 go_wp2;go_step3
 go_wp2;go_loopg [5,6,7] n (fun gk l at_ aa wr=>∃ (rs:List za3) (v:Option Addr) (c2 p:Nat),p+gk=n/\l=slice v rs.length c2/\at_=int i64 (p:Int)/\aa=int i64 0/\rs.length<=p/\
  Hid (zar bs=(rs.map za1++(zar (bs.drop p)).1,p+(zar (bs.drop p)).2.1,(zar (bs.drop p)).2.2))/\
  Hid (wr.ownsRow w.heap.size 168 2 (slice v rs.length c2) rs.length (zaw rs))/\Hid (zb1 wr w.heap.size rs)/\Hid (Below w.heap.size w wr))
 case atStart=>exact⟨[],none,0,0,by omega,rfl,rfl,rfl,by simp,zhd (by simp),zhd (World.ownsRow_nil _ _ _ _),zhd (zd4 _ _),zhd (Below.refl _ _)⟩
 case round=>
  obtain⟨rs,v,c2,p,hp,rfl,rfl,rfl,am,L,D,C,m⟩:=hrel;have N:p<=n:=by omega
  have hcut:=fun W=>O.out p W N;cases hx:zbg (bs.drop p) with
  | bad e0=>
   have Y:=zhd hx;have q:=z.out p wr N m.out;rw [hx] at q;have x:=zhd q;clear hx q z O;have u:Hid (∀ w1,Below wr.heap.size wr w1->Below w.heap.size w w1):=zhd fun w1 b=>m.out.trans (b.mono m.out.size);have I:Hid (zar bs=(rs.map za1,p,if e0=4 then 0 else e0)):=zhd (by rw [L.out,zfe Y.out];simp);have h0:(e0==0)=false:=by
    rcases zmS Y.out with⟨h,_⟩|⟨h|h|h,_⟩<;>subst h<;>rfl
   by_cases E:e0=4
   ·subst E;have s:=I.out;rw [if_pos rfl] at s;have Q:=zhd s;clear I s h0;go_wp2_with fail
    refine x.out.mono ?_;rintro e w1 ⟨rfl,b⟩;have i:=zhd b;clear b;go_wp2
    try rw [Exit.noGoto_ret]
    go_ret3
    rw [Q.out];exact⟨rs,v,c2,rfl,rfl,zag D.out i.out,zaV C.out i.out,u.out _ i.out⟩
   ·have s:=I.out;rw [if_neg E] at s;have Q:=zhd s;have al:(e0==4)=false:=by simpa using E
    clear I s E;go_wp2_with fail
    refine x.out.mono ?_;rintro e w1 ⟨rfl,b⟩;have i:=zhd b;clear b;go_wp2
    try rw [Exit.noGoto_ret]
    go_ret3
    rw [Q.out];exact⟨rs,v,c2,rfl,rfl,zag D.out i.out,zaV C.out i.out,u.out _ i.out⟩
  | ok r=>
   have q:=z.out p wr N m.out;rw [hx] at q;have t:=zgI hx;have S:(bs.drop p).length=n - p:=by rw [List.length_drop,HN.out]
   rw [S] at t;obtain⟨j,a⟩:=r;simp only at t;obtain⟨G,J⟩:∃ G,gk=G+(a.length+10):=⟨gk - (a.length+10),by omega⟩;have y:=ziG hx;simp only at y;rw [List.drop_drop] at y;obtain⟨Z,F⟩:∃ Z,a.length+10=Z:=⟨_,rfl⟩;have x:Hid (Calls Tryz.prog 176 #[slice (zc7 A p c) (n - p) (c - p)] wr fun e w'=>∃ d c1,e=.returned (.tuple #[int .u8 (j.toNat:Int),slice d a.length c1,int i64 (Z:Int),int i64 0])/\
    w'.ownsRow wr.heap.size 5 1 (slice d a.length c1) a.length (a.map zaa)/\Below wr.heap.size wr w'):=zhd (by rw [<-F];exact q)
   have ah:Hid (∀ d c1,zar bs=((rs++[(j,d,a,c1)]).map za1++(zar (bs.drop (p+Z))).1,(p+Z)+(zar (bs.drop (p+Z))).2.1,(zar (bs.drop (p+Z))).2.2)):=zhd (by
    intro d c1;rw [L.out,y,F];simp only [List.map_append,List.map_cons,List.map_nil,za1,List.append_assoc,List.cons_append,List.nil_append];refine Prod.ext rfl (Prod.ext ?_ rfl);simp only;omega)
   have ak:p+Z<=n:=by omega
   have an:(p:Int)+(Z:Int)<=(n:Int):=by omega
   rw [F] at J;have X:=zhd J;have aw:10<=Z:=by omega
   clear hx q t S y F J z O L;go_wp2_with fail
   refine x.out.mono ?_;rintro e w1 ⟨d,c1,rfl,V,b⟩;have u:=zhd (m.out.trans (b.mono m.out.size));have ab:=zhd (zag D.out b);have ae:Hid (zb1 w1 w.heap.size (rs++[(j,d,a,c1)])):=zhd (zgL (zaV C.out b) (zfi (r:=(j,d,a,c1)) (zaz V m.out.size)));clear V b x D C m;have i:Hid (∀ o,Below w.heap.size w (w1.alloc o)):=zhd fun o=>u.out.alloc u.out.size o;have M:Hid (∀ o,(w1.alloc o).ownsRow w.heap.size 168 2 (slice v rs.length c2) rs.length (zaw rs)):=zhd fun o=>zag ab.out ((Below.refl _ _).alloc (Nat.le_refl _) o);have ai:Hid (∀ o,zb1 (w1.alloc o) w.heap.size (rs++[(j,d,a,c1)])):=zhd fun o=>zaV ae.out ((Below.refl _ _).alloc (Nat.le_refl _) o);have au:w.heap.size<=w1.heap.size:=u.out.size;go_wp2_with (at_builtin;refine zct rfl _ _ rfl w.heap.size _ rs.length rs rfl (M.out _) (w1.heap.size+1) _ 1 1 [(j,d,a,c1)] rfl rfl (zly (r:=(j,d,a,c1)) rfl rfl rfl) (by omega) (by simp;omega) ?_)
   intro A3 c3 w2 T K;have ag:Hid (Below w.heap.size w w2):=zhd ((i.out _).grown K (i.out _).size fun g h=>((M.out (.cells #[int .u8 (j.toNat:Int),slice d a.length c1] 168)).lt g h).1);have aj:=zhd (zeP (ai.out _) (M.out _) K);have af:=zhd T;clear T K;go_wp2;go_roundg G
   case measure=>have:=X.out;omega
   case rel=>exact⟨rs++[(j,d,a,c1)],A3,c3,p+Z,by have:=X.out;omega,by rw [List.length_append];rfl,by go_num,rfl,by rw [List.length_append];simp;omega,zhd (ah.out d c1),zhd (by rw [List.length_append,zcC];simpa [zaw] using af.out),aj,ag⟩
end
section
open Go.RowKit Mem Be Word Frm
theorem zm0(w:World)(r:za3)(n:Nat)(a:n=r.2.2.1.length):(w.alloc (.cells #[int .u8 (r.1.toNat:Int),slice r.2.1 n r.2.2.2] 168)).ownsRow w.heap.size 168 2 (slice (some ⟨w.heap.size,0,none⟩) 1 1) 1 (zaw [r]):=by
 subst a;exact⟨rfl,Or.inr ⟨w.heap.size,1,_,rfl,Nat.le_refl _,heap_alloc_new w _,Nat.le_refl _,by unfold maxLen;omega,rfl,rfl⟩⟩
theorem zfV(B c n:Nat)(A:Option Addr)(bs:List UInt8)(y:n=bs.length)(hc:n<=c)(w:World)(h:Row w B A (bs.map zaa))(hB:B<=w.heap.size)(aq:n<=4194304)
 (F:∀ (k:Nat) W,0<k->k<=n->Below w.heap.size w W->Calls Tryz.prog 133 #[slice (zc7 A k c) (n - k) (c - k)] W (zsw (zar (bs.drop k)) W)) :
 Calls Tryz.prog 133 #[slice A n c] w (zsw (zar bs) w):=by
 have m:=zlA B c n A bs y hc w h hB (by omega);cases hx:zbg bs with
 | bad e0=>
  rw [hx] at m;have u:=zhd m;have a:=zfe hx;have N:=zmS hx;by_cases D:e0=4
  ·subst D;rw [if_pos rfl] at a;rw [a];clear a N hx m h y hc F;go_enter Tryz.func133,Tryz.ntmps133
   go_wp2_with fail
   refine u.out.mono ?_;rintro e w1 ⟨rfl,l⟩;have J:=zhd l;clear l;go_wp2;go_ret3
   exact⟨[],none,0,rfl,rfl,World.ownsRow_nil _ _ _ _,zd4 _ _,J.out⟩
  ·rw [if_neg D] at a;rw [a];have az:(e0==4)=false:=by simpa using D
   have h0:(e0 != 0)=true:=by
    rcases N with⟨h,_⟩|⟨h|h|h,_⟩<;>subst h<;>rfl
   clear a N hx m h y hc F D;go_enter Tryz.func133,Tryz.ntmps133
   go_wp2_with fail
   refine u.out.mono ?_;rintro e w1 ⟨rfl,l⟩;have J:=zhd l;clear l;go_wp2;go_ret3
   exact⟨[],none,0,rfl,rfl,World.ownsRow_nil _ _ _ _,zd4 _ _,J.out⟩
 | ok r=>
  rw [hx] at m;have V:=zgI hx;have a:=ziG hx;obtain⟨j,b⟩:=r;simp only at V a;obtain⟨Z,E⟩:∃ Z,b.length+10=Z:=⟨_,rfl⟩;rw [E] at a;have u:Hid (Calls Tryz.prog 160 #[slice A n c] w fun e w'=>∃ d c1,e=.returned (.tuple #[int .u8 (j.toNat:Int),slice d b.length c1,int i64 (Z:Int),int i64 0])/\
   w'.ownsRow w.heap.size 5 1 (slice d b.length c1) b.length (b.map zaa)/\Below w.heap.size w w'):=zhd (by rw [<-E];exact m)
  have I:=zhd (fun W=>F Z W (by omega) (by omega));have v:=zd1 _ (bs.drop Z) (Nat.le_refl _);have q:=zd2 (zar (bs.drop Z)).1;unfold zc3 at q;rw [<-v.2.1] at q;obtain⟨⟨l2,C,e2⟩,X⟩:∃ s,zar (bs.drop Z)=s:=⟨_,rfl⟩;rw [X] at a I v q;simp only at a v q;have an:C<=n:=by have:=v.2.2.1;rw [List.length_drop] at this;omega
  have ah:Z<=n:=by omega
  obtain⟨S,Q⟩:∃ S,Z+C=S:=⟨_,rfl⟩;have aB:(Z:Int)+(C:Int)=(S:Int):=by omega
  have ao:(S:Int)<=8388608:=by omega
  have r7:IntKind.i64.wrap (S:Int)=(S:Int):=by rw [IntKind.wrap_i64];omega
  have aw:=zhd Q;clear ao;have hcut:=fun W=>zdm (P:=Tryz.prog) (w:=W) 27 5 _ _ Tryz.underlying27 zaB A n c Z ah;have aj:(C:Int)<=4194304:=by omega
  have af:(Z:Int)<=4194304:=by omega
  have Y:l2.length<=4194304:=by omega
  rw [a];have aA:=zhd E;clear V a E m hx F v q X h y hc Q an;go_enter Tryz.func133,Tryz.ntmps133
  go_wp2_with fail
  refine u.out.mono ?_;rintro e w1 ⟨d,c1,rfl,T,l⟩;have t:=zhd l;have O:=zhd T;clear T l u;go_wp2_with fail
  refine(I.out w1 t.out).mono ?_;rintro e i ⟨p,A2,c2,G,rfl,ae,U,K⟩;have ai:p.length<=4194304:=by rw [<-List.length_map (f:=za1),G];exact Y
  have au:=zhd G;have x:=zhd (t.out.trans (K.mono t.out.size));have ak:=zhd (zag O.out K);have am:=zhd (zfJ U t.out.size);have ay:=zhd (zcz ae);clear G ae U K I O t;have z:Hid (∀ W:World,(W.alloc (.cells #[int .u8 (j.toNat:Int),slice d b.length c1] 168)).ownsRow W.heap.size 168 2 (slice (some ⟨W.heap.size,0,none⟩) 1 1) 1 (zaw [(j,d,b,c1)])):=zhd fun W=>
   zm0 W (j,d,b,c1) b.length rfl
  have M:Hid (∀ o,Below w.heap.size w (i.alloc o)):=zhd fun o=>x.out.alloc x.out.size o;have aa:Hid (∀ o,Row (i.alloc o) i.heap.size A2 (zaw p)):=zhd fun o=>ay.out.alloc (Nat.le_refl _) o;have ab:Hid (∀ o,zb1 (i.alloc o) w.heap.size ([(j,d,b,c1)]++p)):=zhd fun o=>zaV (zgL (zfi (r:=(j,d,b,c1)) ak.out) am.out) ((Below.refl _ _).alloc (Nat.le_refl _) o);go_wp2_with (at_builtin;refine zct rfl _ _ rfl i.heap.size _ 1 [(j,d,b,c1)] rfl (z.out i) i.heap.size _ p.length c2 p rfl rfl (aa.out _) (by omega) (by simp) ?_)
  intro A3 c3 w3 R L;have al:Hid (Below w.heap.size w w3):=zhd ((M.out _).grown L (M.out _).size fun g h=>by have:=((z.out i).lt g h).1;have:=x.out.size;omega);have ax:=zhd (zeP (ab.out _) (z.out i) L);have ag:=zhd (zaz R (Nat.le_trans x.out.size (Nat.le_refl _)));clear R L ai Y aj af aq aa ab M z;go_wp2;go_ret3
  refine⟨[(j,d,b,c1)]++p,A3,c3,?_,?_,?_,ax.out,al.out⟩
  ·rw [List.map_append,au.out];rfl
  ·rw [List.length_append,aw.out];rfl
  ·rw [List.length_append];exact ag.out
theorem zgP:∀ (m B c n:Nat) (A:Option Addr) (bs:List UInt8) (i:n<=m) (b:n=bs.length) (hc:n<=c) (w:World) (h:Row w B A (bs.map zaa)) (a:B<=w.heap.size) (d:n<=4194304),
 Calls Tryz.prog 133 #[slice A n c] w (zsw (zar bs) w)
 | 0,B,c,n,A,bs,i,b,hc,w,h,a,d=>zfV B c n A bs b hc w h a d (fun k W l j=>by omega)
 | m+1,B,c,n,A,bs,i,b,hc,w,h,a,d=>zfV B c n A bs b hc w h a d (fun k W l j g=>
  zgP m W.heap.size (c - k) (n - k) (zc7 A k c) (bs.drop k) (by omega) (by rw [List.length_drop];omega) (by omega) W (by
   rw [List.map_drop];exact zde ((h.below (g.mono a)).more (Nat.le_trans a g.size)) k c (by rw [List.length_map];omega)) (Nat.le_refl _) (by omega))
end
end Go.Proofs.YtahnjkkgojfdmaaGreatDoor
