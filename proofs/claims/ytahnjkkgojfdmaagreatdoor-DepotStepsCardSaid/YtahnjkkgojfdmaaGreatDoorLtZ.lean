import Derived.Test.YtahnjkkgojfdmaaGreatDoorRefAll
import Derived.Test.YtahnjkkgojfdmaaGreatDoorLog
import Derived.OrdersHeld
import Derived.OrdersIn
import Derived.CallsIn
import Derived.Deep.RegionHeld
import Derived.RangeFuncCalls
import Derived.RangeFuncNested
import Derived.RangeFuncBound
import Derived.RangeFuncLeaves
import Derived.RangeFuncBox
import Derived.Shelf.Abstract
import Derived.Shelf.RegionOpen
import Derived.OwnWalkIn
import Derived.TacticsInMore
import Derived.LoopNIn
import Derived.LoopIn
set_option maxRecDepth 100000
set_option maxHeartbeats 4000000
set_option linter.unusedVariables false
set_option linter.unusedSimpArgs false
namespace Go.Proofs.YtahnjkkgojfdmaaGreatDoor
open Go.Obj(cells)
open Go.Value(int slice pointer)
section
open Go.RowKit Mem Be
theorem zlD{w:World}{h l:Nat}{b c:TypeId}{v1 v2:Value}{q p:Nat}{k j:List Value}(d:w.ownsRow h b 1 v1 q k)(m:w.ownsRow l c 1 v2 p j)(hne:b≠c):v1.ownBlock=none\/v1.ownBlock≠v2.ownBlock:=by
 rcases d.2 with⟨rfl,_⟩|⟨g,cap,t,rfl,_,i,_⟩
 ·exact Or.inl rfl
 ·right
  rcases m.2 with⟨rfl,_⟩|⟨o,s,r,rfl,_,a,_⟩
  ·simp [Value.ownBlock]
  ·intro e;have:g=o:=by simpa [Value.ownBlock] using e
   subst this;rw [i] at a;injection a with a;injection a with _ ht;exact hne ht
def zcH(w:World)(B:Nat)(rs:List zb3):Prop:=∀ x∈rs,w.ownsRow B 5 1 (zbN x) x.2.1.length (x.2.1.map zaa)
theorem zcH.grown{w w':World}{B B' n:Nat}{rs:List zb3}{v:Value}{xs:List Value}(h:zcH w B rs)(ho:w.ownsRow B' 27 1 v n xs)(hg:w.grownBy w' v.ownBlock):zcH w' B rs:=
 fun x hx=>(h x hx).kept hg (zlD (h x hx) ho (by decide))
theorem zcH.one{w w':World}{B g:Nat}{rs:List zb3}(h:zcH w B rs)(hg:w.grownBy w' (some g))(hB:g<B):zcH w' B rs:=fun x hx=>(h x hx).kept hg (by
 cases hv:(zbN x).ownBlock with
 | none=>exact Or.inl rfl
 | some k=>exact Or.inr (fun e=>by injection e with e;have:=((h x hx).lt k hv).1;omega))
theorem zcH.row{w:World}{B:Nat}{rs:List zb3}(h:zcH w B rs):∀ x∈rs,Row w w.heap.size x.1 (x.2.1.map zaa):=fun x hx=>Row.of_own (h x hx)
theorem zsN(B c n:Nat)(A:Option Addr)(bs:List UInt8)(I:n=bs.length)(w:World)(h:Row w B A (bs.map zaa))(hB:B<=w.heap.size)(hl:n<=1000000) :
 Calls Tryz.prog 179 #[slice A n c] w (zvO (zcG za2 bs) w):=by
 obtain⟨i0,aw,ao,ah,ay⟩:=info_parts ztL;have HR:=zhd h;have K:=zhd I;have HL:=zhd hl;clear h I;go_enter Tryz.func179,Tryz.ntmps179
 go_wp2_with fail
 go_step3
 go_wp2_with fail
 refine(zo9 _ c _ A bs K.out _ HR.out hB (by rw [<-K.out];omega)).mono ?_;rintro e w1 ⟨g,rfl,ag,m,hb⟩;have T:=zhd hb;have HG:=zhd ag;have HD:=zhd m;have Y:=zhd (rd_lt m);clear hb ag m;go_wp2_with fail
 go_step3
 go_wp2_with fail
 go_loopg [5] n (fun gk v wr=>∃ (rest:List UInt8) (a:List zb3),rest.length<=gk/\a.length+rest.length<=n/\Hid (Rd wr g rest 0)/\Hid (wr.ownsRow w1.heap.size 27 1 v a.length (a.map zbN))/\Hid (zcH wr w1.heap.size a)/\Hid (zkQ (a.map (fun x=>x.2.1)) (zcG za2 rest)=zcG za2 bs)/\Hid (Below w.heap.size w wr)/\Hid (w1.heap.size<=wr.heap.size))
 case atStart=>exact⟨bs,[],by have:=K.out;omega,by have:=K.out;simp;omega,HD,zhd (World.ownsRow_nil _ _ _ _),zhd (fun x l=>by simp at l),zhd (zhK zfg bs).symm,T,zhd (Nat.le_refl _)⟩
 case round=>
  obtain⟨rest,a,ae,aa,r,V,HX,O,y,HS⟩:=hrel;have H1:=zhd ae;have Q:=zhd aa;clear ae aa;by_cases q:rest.length=0
  ·have W:Hid ((a.map (fun x=>x.2.1),0)=zcG za2 bs):=zhd (by rw [<-O.out];exact(zmG _ _ q).symm);have N:Hid (zk3 rest 0=0):=zhd (by unfold zk3;rw [if_pos rfl,if_pos q]);have aD:(rest.length:Int)<=0:=by omega
   clear q;go_wp2_with (first
    | (go_at_call 200;refine(zie g rest 0 _ r.out).mono ?_;rintro e w' ⟨rfl,rfl⟩)
    | (go_at_call 203;refine(zk4 g rest 0 _ r.out).mono ?_;rw [N.out];rintro e w' ⟨rfl,rfl⟩))
   rw [Exit.noGoto_ret];go_ret2
   exact zpQ W.out T.out.size V.out y.out HX.out.row
  ·have aE:(0:Int)<(rest.length:Int):=by omega
   have D:=zdG rest;have z:=zjI zfg (a.map (fun x=>x.2.1)) rest q;have E:=zmF (get:=za2) (a.map (fun x=>x.2.1)) rest q;have u:zbz rest 0=((za2 rest).1,rest.drop (za2 rest).2.1,(za2 rest).2.2):=if_pos rfl;obtain⟨b,i,o,R⟩:∃ x i o,za2 rest=(x,i,o):=⟨_,_,_,rfl⟩;rw [R] at D z E u;simp only at D z E u;have af:=zhd u;by_cases F:o=0
   ·subst F;have ak:Hid (zkQ (a.map (fun x=>x.2.1)++[b]) (zcG za2 (rest.drop i))=zcG za2 bs):=zhd (by rw [<-z rfl];exact O.out);obtain⟨b1,b2⟩:1<=i/\i<=rest.length:=by rcases D with⟨_,h1,h2⟩|⟨_,_,h⟩<;>omega
    clear z E D R q u;go_wp2_with fail
    refine(zie g rest 0 _ r.out).mono ?_;rintro e w' ⟨rfl,rfl⟩;go_wp2_with fail
    refine(zgh g rest 0 _ r.out).mono ?_;rw [af.out];rintro e p ⟨j,c2,rfl,J,m,d⟩;have U:=zhd J;have C:=zhd m;have G:=zhd d;clear J m d;go_wp2_with fail
    refine(zdn g _ _ C.out).mono ?_;rintro e w' ⟨rfl,rfl⟩;have L:Hid (p.ownsRow w1.heap.size 27 1 u5 a.length (a.map zbN)):=zhd (V.out.kept G.out (by
     cases X:u5.ownBlock with
     | none=>exact Or.inl rfl
     | some k=>exact Or.inr (fun e=>by injection e with e;have:=(V.out.lt k X).1;have:=Y.out;omega)))
    have s:=zhd (zcT y.out G.out y.out.size HG.out);have ab:Hid (w1.heap.size<=p.heap.size):=zhd (Nat.le_trans HS.out G.out.size);have aq:Hid (zcH p w1.heap.size (a++[(j,b,c2)])):=zhd (by
     intro x l;rcases List.mem_append.1 l with l|l
     ·exact HX.out.one G.out Y.out x l
     ·simp only [List.mem_singleton] at l;subst l;rcases U.out.2 with I|⟨g',cap,an,X,aB,ax⟩
      ·exact⟨U.out.1,Or.inl I⟩
      ·exact⟨U.out.1,Or.inr ⟨g',cap,an,X,Nat.le_trans HS.out aB,ax⟩⟩)
    go_wp2_with (at_builtin;refine zan _ rfl _ _ 147 rfl w1.heap.size 27 i0 (slice none 0 0) 24 Tryz.underlying147 aw ao ah ay rfl _ _ _ rfl (L.out.alloc _) (p.heap.size+1) _ 1 1 [slice j b.length c2] rfl rfl (zpP p _ _) (zmU (j,b,c2)) (by have:=Q.out;unfold maxLen;omega) (by have:=Q.out;omega) (by have:=ab.out;simp;omega) ?_)
    intro v' t Z d _;have al:Hid (t.ownsRow w1.heap.size 27 1 v' (a++[(j,b,c2)]).length ((a++[(j,b,c2)]).map zbN)):=zhd (by rw [List.map_append,List.length_append];exact Z);have am:Hid (zcH t w1.heap.size (a++[(j,b,c2)])):=zhd (zcH.grown (w:=p.alloc (cells #[slice j b.length c2] 27)) (fun x l=>(aq.out x l).alloc _) (L.out.alloc _) d);have az:Hid (Rd t g (rest.drop i) 0):=zhd (zhG (zbO C.out _) d fun k S=>by have:=(L.out.lt k S).1;have:=Y.out;omega);have au:Hid (Below w.heap.size w t):=zhd ((s.out.alloc s.out.size _).grown d (by have:=s.out.size;simp;omega) fun k S=>by have:=(L.out.lt k S).1;have:=T.out.size;omega);have ai:Hid (w1.heap.size<=t.heap.size):=zhd (by have:=ab.out;have:=d.size;simp at this;omega);have aj:Hid (zkQ ((a++[(j,b,c2)]).map (fun x=>x.2.1)) (zcG za2 (rest.drop i))=zcG za2 bs):=zhd (by rw [List.map_append];exact ak.out);have M:Hid ((rest.drop i).length<=gk - 1/\(a++[(j,b,c2)]).length+(rest.drop i).length<=n/\gk - 1<gk):=zhd (by
     have:=H1.out;have:=Q.out;rw [List.length_drop,List.length_append];simp;omega)
    clear Z d;go_wp2;go_roundg (gk - 1)
    case measure=>exact M.out.2.2
    case rel=>exact⟨rest.drop i,a++[(j,b,c2)],M.out.1,M.out.2.1,az,al,am,aj,au,ai⟩
   ·have W:Hid (([],o)=zcG za2 bs):=zhd (by rw [<-O.out];exact(E F).symm);have N:Hid (zk3 (rest.drop i) o=o):=zhd (zvy _ o F);have aA:=zhd F;clear z E D R q u F;go_wp2_with fail
    refine(zie g rest 0 _ r.out).mono ?_;rintro e w' ⟨rfl,rfl⟩;go_wp2_with fail
    refine(zgh g rest 0 _ r.out).mono ?_;rw [af.out];rintro e p ⟨j,c2,rfl,J,m,d⟩;have C:=zhd m;have s:=zhd (zcT y.out d y.out.size HG.out);clear J m d;go_wp2_with fail
    refine(zco g _ o aA.out _ C.out).mono ?_;rintro e w' ⟨rfl,rfl⟩;go_wp2_with fail
    refine(zk4 g _ o _ C.out).mono ?_;rw [N.out];rintro e w' ⟨rfl,rfl⟩;go_wp2;rw [Exit.noGoto_ret];go_ret2
    exact zpQ (rs:=[]) W.out (Nat.le_refl _) (World.ownsRow_nil _ _ _ _) s.out (by simp)
end
section
open Go.RowKit Mem
namespace RoundHeld
def ziW(ops:Array Oper):Bool:=ops.toList.all fun o=>match o.op with|.defer _=>false|_=>true
theorem zke{a:Array Oper}(h:ziW a=true){i:Nat}{o:Oper}(b:a[i]?=some o):∀ c,o.op≠.defer c:=by
 intro c hc;have d:o∈a.toList:=by
  rw [Array.mem_toList_iff];exact Array.mem_of_getElem? b
 have:=List.all_eq_true.1 h o d;rw [hc] at this;cases this
variable {P : Program} {ops : Array Oper} {Q : Exit → Act → World → Prop} {md : Region.Mode} {l n : Nat}
theorem zn4{o:Oper}(i:∀ c,o.op≠.defer c){a:Act}{w:World}{K:Act->World->Prop}(h:o.wp P a w K Q):o.wpIn (Fence.wide.inRound l) n P a w K Q:=by
 unfold Oper.wp at h;unfold Oper.wpIn;refine⟨fun _ _=>trivial,?_⟩;rw [Oper.semAt_eq _ _ _ i]
 generalize (execOp a.eval o).run P w=r at *
 cases r with
 | ok x w'=>
  cases x<;>simp only [Oper.upon,Oper.uponIn] at h ⊢<;>first
   | exact h
   | exact⟨fun b=>by simp [Fence.wide] at b,CallsIn.inRound l (callsIn_wide.2 (Calls.mono h fun e d k=>by cases e<;>exact k))⟩
   | exact⟨fun b=>by simp [Fence.wide] at b,fun c g _=>by
    obtain⟨v,d,m,j⟩:=h c g;exact⟨v,d,m,stepsIn_wide.2 j⟩⟩
 | halt x w'=>cases x<;>exact h
theorem zn5(g:ziW ops=true)(j:¬ LetsOut Q){i:Nat}{K d:Act->World->Prop}(b:∀ a w,K a w->d a w){a:Act}{w:World}(h:wpOp P ops Q i K a w):wpOpIn (Fence.wide.inRound l) n P ops Q i d a w:=by
 unfold wpOp at h;unfold wpOpIn;cases ho:ops[i]? with
 | none=>rw [ho] at h;exact b _ _ h
 | some o=>
  rw [ho] at h;simp only at h ⊢;split
  ·rename_i c;rw [if_pos c] at h;rcases h with h|h
   ·exact Oper.wpIn_mono b (zn4 (zke g ho) h)
   ·exact absurd h.2 j
  ·rename_i c;rw [if_neg c] at h;exact⟨fun _ _=>trivial,b _ _ h⟩
theorem zfX(b:ziW ops=true)(c:¬ LetsOut Q):∀ (fuel:Nat) (d:Array Bool) (a:Act) (w:World),wpAny P md ops Q fuel d a w->wpAnyIn (Fence.wide.inRound l) n P md ops Q fuel d a w
 | 0,_,_,_,h=>h
 | fuel+1,_,_,_,h=>⟨h.1,fun i k=>zn5 b c (fun j w' g=>zfX b c fuel _ j w' g) (h.2 i k)⟩
theorem wpIn_region{S:World->Prop}{id:Nat}{a:Act}{w:World}(g:P.follows .mixedOrders=true)(b:ziW ops=true)(c:¬ LetsOut Q)(d:S w.drew)
 (h:S w.drew->wpAnyH P .any ops Q S ops.size (Array.replicate ops.size false) a w.drew):(Code.region id ops true).wpIn (Fence.wide.inRound l) n P Q a w:=
 wpIn_region_any g (zfX b c _ _ _ _ (wpAny_of_held _ _ _ _ (h d)))
end RoundHeld
end
section
open Go.RowKit Mem Be Word Frm
attribute [local go_sem] Oper.semAt_some
def bkF(vs:List za3)(j:Nat):Nat×za3:=(vs.length - 1 - j,(vs[vs.length - 1 - j]?).getD (0,none,[],0))
theorem zm3(a:List za3)(k:Nat)(h:k<a.length):bkF a k=(a.length - 1 - k,a[a.length - 1 - k]):=by unfold bkF;rw [List.getElem?_eq_getElem (by omega)];rfl
def bkU(vs:List za3)(k:Nat):List (Nat×za3):=(List.range k).map (bkF vs)
theorem ziX(a:List za3)(k:Nat):bkU a (k+1)=bkU a k++[bkF a k]:=by simp [bkU,List.range_succ]
theorem zn6(a:List za3)(k:Nat):(bkU a k).length=k:=by simp [bkU]
theorem zqo(a:List za3){j k:Nat}(h:j<k):bkF a j∈bkU a k:=List.mem_map.2 ⟨j,List.mem_range.2 h,rfl⟩
abbrev BkR(vs:List za3):={x:Nat×za3 // vs[x.1]?=some x.2}
def zwE(x:Nat×za3):Array Value:=#[int .i64 (x.1:Int),.agg #[int .u8 (x.2.1.toNat:Int),slice x.2.2.1 x.2.2.2.1.length x.2.2.2.2]]
theorem zsO(F:Fence)(n:Nat)(S:F.fn 197)(Q:F.round=none)(hn:1<=n)(l Bs n₀ len cap:Nat)(A:Option Addr)(a:List za3)(M:len=a.length)(hl:a.length<=1000000000)(J C:List (BkR a)->World->Prop)
 (I:∀ c x W,J c W->c.length<len->YieldAt F (n - 1) Tryz.prog l (zwE x.1) W fun e d=>
  (e=.returned (.bool true)/\J (c++[x]) d/\Below n₀ W d)\/(e=.returned (.bool false)/\C (c++[x]) d))
 (W:World) (R:W.cell? ⟨Bs,0,none⟩=some (slice A len cap)) (V:Bs<n₀) (hc:Row W n₀ A (zaw a)) (X:J [] W) :
 CallsIn F n Tryz.prog 197 #[.func (.yield l) #[] #[],pointer (some ⟨Bs,0,none⟩)] W fun e d=>(∃ v,e=.returned v)/\
  ((∃ B,B.map Subtype.val=bkU a len/\J B d)\/(∃ c,(∃ k,k<=len/\c.map Subtype.val=bkU a k)/\C c d)):=by
 subst M;have aj:(a.length:Int)<=1000000000:=by omega
 have Z:(0:Int)<=(a.length:Int):=by omega
 refine callsIn_of_wp Tryz.func197 rfl S ?_ Q;simp only [Tryz.ntmps197,List.size_toArray,List.length_cons,List.length_nil,Nat.reduceAdd,Nat.reduceSub,Array.replicate_succ,Array.replicate_zero,List.push_toArray,List.append_toArray,List.nil_append,List.cons_append]
 gi_wp2
 gi_loopw [3] (fun i wr=>∃ k:Nat,k<=a.length/\i=int .i64 ((a.length:Int) - 1 - (k:Int))/\(∃ c:List (BkR a),c.map Subtype.val=bkU a k/\J c wr)/\Below n₀ W wr)
  (fun i _=>(intOf i+1).toNat)
 case atStart=>exact⟨0,Nat.zero_le _,by simp,⟨[],rfl,X⟩,Below.refl _ _⟩
 case round=>
  obtain⟨k,hk,rfl,⟨c,j,q⟩,h⟩:=hrel;have ak:wr.cell? ⟨Bs,0,none⟩=some (slice A a.length cap):=(h.cell (p:=⟨Bs,0,none⟩) V).trans R;by_cases ai:k<a.length
  ·have m:a.length - 1 - k<a.length:=by omega
   obtain⟨b,o,rfl,u,s⟩:=zcX hc (by omega);obtain⟨c0,c1⟩:=s (a.length - 1 - k) m;have r:wr.cell? ⟨b,o+(a.length - 1 - k)*2,none⟩=_:=(h.cell (p:=⟨b,_,none⟩) u).trans c0;have E:wr.cell? ⟨b,o+(a.length - 1 - k)*2+1,none⟩=_:=(h.cell (p:=⟨b,_,none⟩) u).trans c1;have D:bkF a k=(a.length - 1 - k,a[a.length - 1 - k]):=by unfold bkF;rw [List.getElem?_eq_getElem m];rfl
   have t:a[(bkF a k).1]?=some (bkF a k).2:=by rw [D];exact List.getElem?_eq_getElem m
   obtain⟨fn,ab,af,ae,g,G⟩:=I c ⟨bkF a k,t⟩ wr q (by have:=congrArg List.length j;rw [List.length_map,zn6] at this;omega);simp only [D] at g;unfold zwE at g;dsimp only at g;obtain⟨p,O⟩:∃ p,a.length - 1 - k=p:=⟨_,rfl⟩;have U:(a.length:Int) - 1 - (k:Int)=(p:Int):=by omega
   have ah:(0:Int)<=(p:Int):=by omega
   have ag:(p:Int)<(a.length:Int):=by omega
   obtain⟨⟨Y,A1,y,aa⟩,z⟩:∃ v,a[a.length - 1 - k]=v:=⟨_,rfl⟩;rw [z] at r E g;simp only [O] at r E g;rw [U];clear c0 c1 s z
   gi_wp2
   refine G.mono ?_;rintro e W3 (⟨rfl,N,T⟩|⟨rfl,K⟩)
   ·gi_wp2
    go_roundw
    case rel=>exact⟨k+1,by omega,by congr 1;omega,⟨c++[⟨bkF a k,t⟩],by rw [List.map_append,j,ziX];rfl,N⟩,h.trans T⟩
    case measure=>simp [intOf]<;>omega
   ·gi_wp2
    refine bodyPost_ret (results_none rfl _ _ _) rfl ?_;exact⟨⟨_,rfl⟩,.inr ⟨_,⟨k+1,by omega,by rw [List.map_append,j,ziX];rfl⟩,K⟩⟩
  ·obtain rfl:k=a.length:=by omega
   have L:(a.length:Int) - 1 - (a.length:Int)=-1:=by omega
   rw [L]
   gi_wp2
   go_end0
   exact⟨⟨_,rfl⟩,.inl ⟨_,j,q⟩⟩
theorem zuH(F:Fence)(n:Nat)(c:F.fn 177)(b:F.round=none)(a:Option Addr)(len cap:Nat)(w:World) :
 CallsIn F n Tryz.prog 177 #[slice a len cap] w fun e w'=>e=.returned (.func (.func 197) #[] #[pointer (some ⟨w.heap.size,0,none⟩)])/\w'=w.alloc (cells #[slice a len cap] 30):=by
 refine callsIn_of_wp Tryz.func177 rfl c ?_ b;simp only [Tryz.ntmps177,List.size_toArray,List.length_cons,List.length_nil,Nat.reduceAdd,Nat.reduceSub,Array.replicate_succ,Array.replicate_zero,List.push_toArray,List.append_toArray,List.nil_append,List.cons_append]
 gi_wp2
 go_ret;exact⟨rfl,rfl⟩
theorem zn7(F:Fence)(n:Nat)(q:F.fn 197)(h:F.round=none)(t:1<=n)(Bs n₀ len cap:Nat)(A:Option Addr)(a:List za3)(d:len=a.length)(hl:a.length<=1000000000)(w:World)(o:Bs<n₀)(hn₀:n₀<=w.heap.size)
 (hc:w.cell? ⟨Bs,0,none⟩=some (slice A len cap)) (i:Row w n₀ A (zaw a)) :
 SeqStopsK F n Tryz.prog 197 #[pointer (some ⟨Bs,0,none⟩)] (fun x:BkR a=>zwE x.1) (Below n₀) (fun g=>g.map Subtype.val=bkU a len) (fun c=>∃ k,k<=len/\c.map Subtype.val=bkU a k) len w:=fun l J j W b _ _ r s=>by
 have m:=(b.cell (p:=⟨Bs,0,none⟩) (by show Bs<_;omega)).trans hc;exact zsO F n q h t l Bs n₀ len cap A a d hl J j r W m o (i.below (b.mono hn₀)) s
end
section
open Go.RowKit Mem Be Word Frm
theorem zqp{w:World}{B:Nat}{A:Option Addr}{rs:List za3}{c k:Nat}(h:Row w B A (zaw rs))(hc:rs.length<=c)(q:k<=rs.length):Row w B (if c=k then A else A.map (·.add (k*2))) (zaw (rs.drop k)):=by
 rcases Nat.lt_or_ge k rs.length with p|g
 ·obtain⟨b,o,rfl,l,d⟩:=h.open_ (by rw [za0];omega);rw [if_neg (by omega)];have e:(some (⟨b,o,none⟩:Addr)).map (·.add (k*2))=some ⟨b,o+k*2,none⟩:=by
   show some ((⟨b,o,none⟩:Addr).add (k*2))=_
   unfold Addr.add;split
   ·rename_i m;rw [m];rfl
   ·rfl
  rw [e];refine Or.inr ⟨b,o+k*2,rfl,l,fun j a=>?_⟩;have i:zaw rs=zaw (rs.take k)++zaw (rs.drop k):=by rw [<-zcC,List.take_append_drop]
  have hl:(zaw (rs.take k)).length=k*2:=by rw [za0,List.length_take];congr 1;omega
  rw [za0,List.length_drop] at a;have:=d (k*2+j) (by rw [za0];omega);rw [Nat.add_assoc,this]
  congr 1
  simp only [i];rw [List.getElem_append_right (by omega)]
  congr 1
  omega
 ·rw [List.drop_of_length_le g];exact Row.nil _ _ _
end
section
open Go.RowKit Mem Be Word Frm
attribute [local go_sem] Oper.semAt_some
variable {J : LgK}
structure LastIs (rs:List Rc) (p:Nat):Prop where
 le:p<=rs.length
 no:∀ j (h:j<rs.length),p<=j->rs[j].1≠0
 yes:∀ k,p=k+1->∃ h:k<rs.length,rs[k].1=0
theorem zfm{rs:List Rc}{p p':Nat}(h:LastIs rs p)(c:LastIs rs p'):p=p':=by
 rcases Nat.lt_trichotomy p p' with hl|hl|hl
 ·obtain⟨k,rfl⟩:∃ k,p'=k+1:=⟨p' - 1,by omega⟩;obtain⟨a,b⟩:=c.yes k rfl;exact absurd b (h.no k a (by omega))
 ·exact hl
 ·obtain⟨k,rfl⟩:∃ k,p=k+1:=⟨p - 1,by omega⟩;obtain⟨a,b⟩:=h.yes k rfl;exact absurd b (c.no k a (by omega))
def zn8(rs:List Rc):Nat->List UInt8
 | 0=>[]
 | k+1=>((rs[k]?).getD (0,[])).2
def zv5(rs:List Rc)(w:World)(e:Ending)(w':World):Prop:=
 ∃ (p:Nat) (A:Option Addr) (c:Nat) (us:List za3) (A2:Option Addr) (c2:Nat),LastIs rs p/\us.map za1=rs.drop p/\e=.returned (.tuple #[slice A (zn8 rs p).length c,slice A2 us.length c2])/\
  w'.ownsRow w.heap.size 5 1 (slice A (zn8 rs p).length c) (zn8 rs p).length ((zn8 rs p).map zaa)/\w'.ownsRow w.heap.size 168 2 (slice A2 us.length c2) us.length (zaw us)/\zb1 w' w.heap.size us/\Below w.heap.size w w'
theorem zqq(a:List za3)(h:∀ x∈bkU a a.length,x.2.1≠0):LastIs (a.map za1) 0:=by
 refine⟨Nat.zero_le _,fun j c _=>?_,fun k d=>by omega⟩;rw [List.length_map] at c;have b:=h _ (zqo a (show a.length - 1 - j<a.length by omega));rw [zm3 a _ (by omega)] at b;have e:a.length - 1 - (a.length - 1 - j)=j:=by omega
 simp only [e] at b;rw [List.getElem_map];exact b
theorem zqr(a:List za3)(k:Nat)(i:k<a.length)(h:∀ x∈bkU a k,x.2.1≠0)(c:(bkF a k).2.1=0):LastIs (a.map za1) (a.length - 1 - k+1):=by
 rw [zm3 a k i] at c;refine⟨by rw [List.length_map];omega,fun j d m=>?_,fun g l=>⟨by rw [List.length_map];omega,?_⟩⟩
 ·rw [List.length_map] at d;have b:=h _ (zqo a (show a.length - 1 - j<k by omega));rw [zm3 a _ (by omega)] at b;have e:a.length - 1 - (a.length - 1 - j)=j:=by omega
  simp only [e] at b;rw [List.getElem_map];exact b
 ·obtain rfl:g=a.length - 1 - k:=by omega
  rw [List.getElem_map];exact c
def zuI(w:World)(vs:List za3)(i:Nat)(W:World):Prop:=
 ∃ (y:List UInt8) (A:Option Addr) (c:Nat) (us:List za3) (A2:Option Addr) (c2:Nat) (h:i<vs.length),vs[i].2.2.1=y/\us.map za1=(vs.drop (i+1)).map za1/\
  Boxed W (w.heap.size+1) 27 (slice A y.length c)/\Boxed W (w.heap.size+1+1) 30 (slice A2 us.length c2)/\
  W.ownsRow w.heap.size 5 1 (slice A y.length c) y.length (y.map zaa)/\W.ownsRow w.heap.size 168 2 (slice A2 us.length c2) us.length (zaw us)/\zb1 W w.heap.size us/\Below w.heap.size w W
theorem ziY{β:Type}{B s n:Nat}{e:TypeId}{v:Value}{h:List Value}:Own (fun(_:β) W=>W.ownsRow B e s v n h):=fun s W l row c d j=>c.kept d (by
 rcases c.2 with⟨b,_⟩|⟨g,cap,k,b,_,i,_⟩
 ·rw [b];exact Or.inl rfl
 ·refine Or.inr fun e=>?_;rw [b] at e;obtain⟨o,a,hc⟩:=j g e.symm;rw [i] at a;injection a with a;subst a;cases hc)
theorem zkf{β:Type}(w:World)(D:List za3)(f:β->Nat)(B:Nat)(j:w.heap.size<=B):OwnFrom B (fun(s:β) W=>zuI w D (f s) W):=fun s W d row x a i=>by
 obtain⟨y,A,c,t,p,c2,h,m,C,u,l,v,q,z,g⟩:=x;have b:∀ r,row=some r->∃ o:Obj,W.heap[r]?=some o/\o.isCells=false:=fun r e=>(i r e).2;exact⟨y,A,c,t,p,c2,h,m,C,(boxed_own (β:=Unit) _ _ (fun _=>_)) () W d row u a b,(boxed_own (β:=Unit) _ _ (fun _=>_)) () W d row l a b,(ziY (β:=Unit)) () W d row v a b,(ziY (β:=Unit)) () W d row q a b,
  fun r E=>(ziY (β:=Unit)) () W d row (z r E) a b,g.grown a (g.size) (fun k e=>Nat.le_trans j (i k e).1)⟩
theorem zuJ{β:Type}(c:Nat)(t:TypeId)(g:Array Value):Own (fun(_:β) W=>Blk W c t g):=fun s W i row b d h=>b.grown d (fun e=>by
 obtain⟨o,a,hc⟩:=h c e.symm;unfold Blk at b;rw [b] at a;injection a with a;subst a;cases hc)
theorem zlE{B:Nat}{W b:World}(h:Below W.heap.size W b):KeepsFrom B W b:=⟨h.size,fun k o _ a _=>(h.block k (Array.getElem?_eq_some_iff.1 a).1).trans a⟩
theorem zsP{w W c w4:World}{k b:List za3}{i c3 c4:Nat}{y:List UInt8}{d g:Option Addr}(B:Nat)(K:i<k.length)(E:k[i].2.2.1=y)(m:Below w.heap.size w W)(u:Boxed W (w.heap.size+1) 27 (slice none 0 0))(t:Boxed W (w.heap.size+1+1) 30 (slice none 0 0))
 (l:Below W.heap.size W c) (z:c.ownsRow W.heap.size 5 1 (slice d y.length c3) y.length (y.map zaa)) (q:Below c.heap.size c w4) (F:b.map za1=(k.drop (i+1)).map za1)
 (G:w4.ownsRow c.heap.size 168 2 (slice g b.length c4) b.length (zaw b)) (A:zb1 w4 c.heap.size b) :
 KeepsFrom B W ((w4.setCell ⟨w.heap.size+1,0,none⟩ (slice d y.length c3)).setCell ⟨w.heap.size+1+1,0,none⟩ (slice g b.length c4))/\zuI w k i ((w4.setCell ⟨w.heap.size+1,0,none⟩ (slice d y.length c3)).setCell ⟨w.heap.size+1+1,0,none⟩ (slice g b.length c4)):=by
 have I:=u.lt;have C:=t.lt;have j:Below W.heap.size W w4:=l.trans (q.mono l.size);have J:Boxed w4 (w.heap.size+1) 27 (slice none 0 0):=(j.block _ I).trans u;have q3:Boxed w4 (w.heap.size+1+1) 30 (slice none 0 0):=(j.block _ C).trans t;have x:=l.size;have put:∀ {B s n:Nat} {e:TypeId} {v:Value} {o:List Value},W.heap.size<=B->w4.ownsRow B e s v n o->((w4.setCell ⟨w.heap.size+1,0,none⟩ (slice d y.length c3)).setCell ⟨w.heap.size+1+1,0,none⟩ (slice g b.length c4)).ownsRow w.heap.size e s v n o:=fun L h=>
  zaz (ownsRow_setCell_below (ownsRow_setCell_below h (a:=⟨w.heap.size+1,0,none⟩) (by show w.heap.size+1<_;omega) _) (a:=⟨w.heap.size+1+1,0,none⟩) (by show w.heap.size+1+1<_;omega) _) (by omega)
 refine⟨(zlE j).trans (((KeepsOthers.setCell _ _ _).trans (KeepsOthers.setCell _ _ _)).from _),y,d,c3,b,g,c4,K,E,F,((J.set _).other (by omega) _),((q3.other (by omega) _).set _),put (Nat.le_refl _) (zag z q),put x G,fun r D=>put x (A r D),?_⟩;exact((m.trans (j.mono m.size)).setCell (p:=⟨w.heap.size+1,0,none⟩) (Nat.le_succ _) _).setCell (p:=⟨w.heap.size+1+1,0,none⟩) (by show w.heap.size<=w.heap.size+1+1;omega) _
theorem zsQ(F:Nat->Prop)(g m q:Nat)(rs:List Rc)(w:World)(h:zcD lg0 w F g rs m q) :
 CallsIn Fence.wide 9 Tryz.prog 156 #[pointer (some ⟨g,0,none⟩)] w (zv5 rs w):=by
 have am:Fence.wide.round=none:=rfl;have h1:1<=9:=by omega
 have aM:=h.many;have aN:=h.short;obtain⟨FD,FR,b,R,c,hv,bd,br,al⟩:=h;have aL:b.length<=1000000000:=by rw [<-hv,List.length_map] at aM;omega
 have aY:∀ r∈b,r.2.2.1.length<=140737488355328:=fun r E=>by
  have h4:=aN (za1 r) (by rw [<-hv];exact List.mem_map_of_mem E);have e:(za1 r).2=r.2.2.1:=rfl;rw [e] at h4;omega
 have aZ:b.length<=c:=by
  obtain⟨A,c',he,h2,_⟩:=zat al.own;injection he with _ _ he;omega
 have d3:=zfW al.dk;have aW:g<w.heap.size:=zaq d3;have az:=zhd (zcz al.own);have aw:=zhd (zhR al.byt);have au:=zhd aY;have HV:=zhd hv;have bY:=zdN (cells #[slice none 0 0] 30) (zdN (cells #[slice none 0 0] 27) (zdN (cells #[pointer (some ⟨g,0,none⟩)] 124) d3));clear al bd br aM aN aY hv;refine callsIn_of_wp_marks Tryz.func156 rfl trivial ?_ am;simp only [Tryz.ntmps156,List.size_toArray,List.length_cons,List.length_nil,Nat.reduceAdd,Nat.reduceSub,Array.replicate_succ,Array.replicate_zero,List.push_toArray,List.append_toArray,List.nil_append,List.cons_append]
 gi_wp2_with (refine⟨trivial,?_⟩;gi_at_call 177;refine(zuH Fence.wide _ trivial am _ _ _ _).mono ?_;rintro e w' ⟨rfl,rfl⟩)
 obtain⟨o,aa⟩:∃ o,((((w.alloc (cells #[pointer (some ⟨g,0,none⟩)] 124)).alloc (cells #[slice none 0 0] 27)).alloc (cells #[slice none 0 0] 30)).alloc (cells #[slice R b.length c] 30))=o:=⟨_,rfl⟩;have k1:Boxed o w.heap.size 124 (pointer (some ⟨g,0,none⟩)):=by
  rw [<-aa];exact(((Boxed.new w _ _).alloc _).alloc _).alloc _
 have k2:Boxed o (w.heap.size+1) 27 (slice none 0 0):=by
  rw [<-aa];have:=Boxed.new (w.alloc (cells #[pointer (some ⟨g,0,none⟩)] 124)) 27 (slice none 0 0);rw [World.size_alloc] at this;exact(this.alloc _).alloc _
 have k3:Boxed o (w.heap.size+1+1) 30 (slice none 0 0):=by
  rw [<-aa];have:=Boxed.new ((w.alloc (cells #[pointer (some ⟨g,0,none⟩)] 124)).alloc (cells #[slice none 0 0] 27)) 30 (slice none 0 0);rw [World.size_alloc,World.size_alloc] at this;exact this.alloc _
 have k4:Boxed o (w.heap.size+1+1+1) 30 (slice R b.length c):=by
  rw [<-aa];have:=Boxed.new (((w.alloc (cells #[pointer (some ⟨g,0,none⟩)] 124)).alloc (cells #[slice none 0 0] 27)).alloc (cells #[slice none 0 0] 30)) 30 (slice R b.length c);rw [World.size_alloc,World.size_alloc,World.size_alloc] at this;exact this
 have ch:o.heap.size=w.heap.size+4:=by rw [<-aa];simp
 have aD:Below w.heap.size w o:=by
  rw [<-aa];exact((((Below.refl _ w).alloc (Nat.le_refl _) _).alloc (by simp) _).alloc (by simp;omega) _).alloc (by simp;omega) _
 rw [aa];clear aa;refine wpIn_rangeFunc_ownH (α:=BkR b) am h1 (gf:=197) (lb:=#[pointer (some ⟨w.heap.size+1+1+1,0,none⟩)]) rfl trivial (enters_of Tryz.func197 (by kernel_rfl) rfl)
  (zn7 Fence.wide (9 - 1) trivial am (by omega) (w.heap.size+1+1+1) o.heap.size b.length c R b rfl aL o (by omega) (Nat.le_refl _) k4.cell ((az.out.below aD).more aD.size)) belowK_t (belowK_b (Nat.le_refl _)) (Below.refl _ _) (fun _=>rfl)
  (fun T W=>(∀ x∈T,x.1.2.1≠0)/\Boxed W w.heap.size 124 (pointer (some ⟨g,0,none⟩))/\Boxed W (w.heap.size+1) 27 (slice none 0 0)/\Boxed W (w.heap.size+1+1) 30 (slice none 0 0)/\Boxed W (w.heap.size+1+1+1) 30 (slice R b.length c)/\Below w.heap.size w W)
  (fun c T W=>(c=.ret/\∃ ah Z,T=ah++[Z]/\(∀ x∈ah,x.1.2.1≠0)/\Z.1.2.1=0)/\∃ i,(∃ ah Z,T=ah++[Z]/\Z.1.1=i)/\zuI w b i W)
  (OwnFrom.and (ownFrom_pure _ _) (OwnFrom.and (Own.from (boxed_own _ _ _) _) (OwnFrom.and (Own.from (boxed_own _ _ _) _) (OwnFrom.and (Own.from (boxed_own _ _ _) _) (OwnFrom.and (Own.from (boxed_own _ _ _) _) (ownFrom_below (Nat.le_refl _) (by omega)))))))
  (fun c=>OwnFrom.and (ownFrom_pure _ _) (fun s W t row hs hg E=>by
   obtain⟨i,h2,h3⟩:=hs;exact⟨i,h2,zkf (β:=Nat) w b (fun s=>s) o.heap.size (by omega) i W t row h3 hg E⟩))
  ⟨by simp,k1,k2,k3,k4,aD⟩
  (fun x a' W=>∃ C,o.heap.size<=C/\Blk W C 168 #[int .u8 (x.1.2.1.toNat:Int),slice x.1.2.2.1 x.1.2.2.2.1.length x.1.2.2.2.2]/\a'={tmps:=#[pointer (some ⟨g,0,none⟩),pointer (some ⟨w.heap.size,0,none⟩),pointer (some ⟨w.heap.size+1,0,none⟩),pointer (some ⟨w.heap.size+1+1,0,none⟩),int .i64 (x.1.1:Int),pointer (some ⟨C,0,none⟩),pointer (some ⟨g,0,none⟩),.bool false,pointer (some ⟨g,0,none⟩),pointer (some ⟨g,0,none⟩),pointer (some ⟨g,0,none⟩),pointer (some ⟨g,3,none⟩),slice R b.length c,.func (.func 197) #[] #[pointer (some ⟨w.heap.size+1+1+1,0,none⟩)],int .i64 (x.1.1:Int),.agg #[int .u8 (x.1.2.1.toNat:Int),slice x.1.2.2.1 x.1.2.2.2.1.length x.1.2.2.2.2],undef,undef,undef,undef,undef,undef,undef,undef,undef,undef,undef,undef,undef,undef,undef,undef,undef,undef,undef,undef,undef],defers:=[]})
  (fun x a' s W t row hs hg E=>by
   obtain⟨C,h2,h3,h4⟩:=hs;exact⟨C,h2,(zuJ (β:=Unit) _ _ _) () W t row h3 hg (fun r e=>(E r e).2),h4⟩)
  ?assign ?body ?done ?stop
 case assign=>
  rintro l T x W K ⟨hne,b1,N,M,b4,u⟩ j;have aq:o.heap.size<=W.heap.size:=by have:=b4.lt;omega
  simp only [zwE]
  gi_wp2
  exact j _ _ ((KeepsOthers.alloc _ _).from _) ((Below.refl _ W).alloc aq _) ⟨hne,b1.alloc _,N.alloc _,M.alloc _,b4.alloc _,u.alloc u.size _⟩ ⟨W.heap.size,aq,Blk.new W _ _,rfl⟩
 case body=>
  rintro l T ⟨⟨i,kd,A1,y,c1⟩,U⟩ a' W bS ⟨rr,E⟩ ⟨hne,b1,N,M,b4,u⟩ ⟨C,bT,bX,rfl⟩ ci;simp only at U bX ⊢;obtain⟨hi,aH⟩:=List.getElem?_eq_some_iff.1 U;have x0:=bX.cell 0;have x1:=bX.cell 1;by_cases hk:kd=0
  ·subst hk;have aT:y.length<=140737488355328:=by have:=au.out b[i] (List.getElem_mem hi);rw [aH] at this;exact this
   have aE:=aw.out b[i] (List.getElem_mem hi);rw [aH] at aE;have bn:Hid (∀ t,Below w.heap.size w t->Calls Tryz.prog 71 #[slice A1 y.length c1] t (zex t.heap.size y t)):=zhd fun t hb=>za4 w.heap.size c1 A1 y y.length rfl t (aE.below hb) hb.size aT;obtain⟨q,hq⟩:∃ q,i+1=q:=⟨_,rfl⟩;have bW:(i:Int)+1=(q:Int):=by omega
   obtain⟨AT,bH⟩:∃ AT,(if c=q then R else R.map (·.add (q*2)))=AT:=⟨_,rfl⟩;have bZ:q<=b.length:=by omega
   have ck:IntKind.i64.wrap (q:Int)=(q:Int):=by rw [IntKind.wrap_i64];omega
   have ay:=zqp az.out aZ (by omega:q<=b.length);rw [bH] at ay;have bp:Hid (∀ t,Below w.heap.size w t->Calls Tryz.prog 178 #[slice AT (b.length - q) (c - q)] t (zv1 ((b.drop q).map za1) t)):=zhd fun t hb=>
    zhY (b.length - q) (c - q) AT (b.drop q) (by rw [List.length_drop]) t ((ay.below hb).more hb.size) (zhQ (zsv aw.out (fun r E=>List.mem_of_mem_drop E)) hb) (by omega) (fun r E=>au.out r (List.mem_of_mem_drop E))
   have r1:=b1.cell;have rg:W.cell? ⟨g,3,none⟩=some (slice R b.length c):=(u.cell (p:=⟨g,3,none⟩) aW).trans d3;have bx:Hid (Below w.heap.size w W.drew):=zhd u.drew;have aR:Hid (Below W.heap.size W W.drew):=zhd (Below.refl _ _).drew;have aV:=zhd b1;have ai:=zhd N;have ak:=zhd M;have aB:=zhd u;have bK:=zhd hne;have HQ:=zhd hq;have bJ:=zhd aH;have cj:(i:Int)<=1000000000:=by omega
   have bQ:(0:Int)<=(i:Int):=by omega
   clear aT aE ay E b1 N M b4 u hne hq
   gi_wp2
   refine RoundHeld.wpIn_region (S:=fun w'=>w'.cell? ⟨C,1,none⟩=some (slice A1 y.length c1)/\w'.cell? ⟨w.heap.size,0,none⟩=some (pointer (some ⟨g,0,none⟩))/\w'.cell? ⟨g,3,none⟩=some (slice R b.length c)) (by kernel_rfl) (by kernel_rfl) ?_ ⟨x1,r1,rg⟩ (fun L=>?_)
   ·rintro⟨_,_,h⟩;exact h
   refine wpAnyH_take (i:=0) (v:=pointer (some ⟨C,1,none⟩)) rfl (by kernel_rfl) (by kernel_rfl) (by kernel_rfl) (fun _ _ _ h=>h) (Or.inl ⟨by rfl,fun w1 d=>by obtain⟨O,Y,X⟩:=d;go_simp⟩) L ?_
   try simp only [Act.put,List.setIfInBounds_toArray,List.set_cons_zero,List.set_cons_succ]
   refine wpAnyH_take (i:=1) (v:=slice A1 y.length c1) rfl (by kernel_rfl) (by kernel_rfl) (by kernel_rfl) (fun _ _ _ h=>h) (Or.inl ⟨by rfl,fun w1 d=>by obtain⟨O,Y,X⟩:=d;go_simp⟩) L ?_
   try simp only [Act.put,List.setIfInBounds_toArray,List.set_cons_zero,List.set_cons_succ]
   refine wpAnyH_take (i:=3) (v:=pointer (some ⟨g,0,none⟩)) rfl (by kernel_rfl) (by kernel_rfl) (by kernel_rfl) (fun _ _ _ h=>h) (Or.inl ⟨by rfl,fun w1 d=>by obtain⟨O,Y,X⟩:=d;go_simp⟩) L ?_
   try simp only [Act.put,List.setIfInBounds_toArray,List.set_cons_zero,List.set_cons_succ]
   refine wpAnyH_take (i:=4) (v:=pointer (some ⟨g,0,none⟩)) rfl (by kernel_rfl) (by kernel_rfl) (by kernel_rfl) (fun _ _ _ h=>h) (Or.inl ⟨by rfl,fun w1 d=>by obtain⟨O,Y,X⟩:=d;go_simp⟩) L ?_
   try simp only [Act.put,List.setIfInBounds_toArray,List.set_cons_zero,List.set_cons_succ]
   refine wpAnyH_take (i:=5) (v:=pointer (some ⟨g,0,none⟩)) rfl (by kernel_rfl) (by kernel_rfl) (by kernel_rfl) (fun _ _ _ h=>h) (Or.inl ⟨by rfl,fun w1 d=>by obtain⟨O,Y,X⟩:=d;go_simp⟩) L ?_
   try simp only [Act.put,List.setIfInBounds_toArray,List.set_cons_zero,List.set_cons_succ]
   refine wpAnyH_take (i:=6) (v:=pointer (some ⟨g,3,none⟩)) rfl (by kernel_rfl) (by kernel_rfl) (by kernel_rfl) (fun _ _ _ h=>h) (Or.inl ⟨by rfl,fun w1 d=>by obtain⟨O,Y,X⟩:=d;go_simp⟩) L ?_
   try simp only [Act.put,List.setIfInBounds_toArray,List.set_cons_zero,List.set_cons_succ]
   refine wpAnyH_take (i:=7) (v:=slice R b.length c) rfl (by kernel_rfl) (by kernel_rfl) (by kernel_rfl) (fun _ _ _ h=>h) (Or.inl ⟨by rfl,fun w1 d=>by obtain⟨O,Y,X⟩:=d;go_simp⟩) L ?_
   try simp only [Act.put,List.setIfInBounds_toArray,List.set_cons_zero,List.set_cons_succ]
   refine wpAnyH_take (i:=8) (v:=int .i64 (i:Int)) rfl (by kernel_rfl) (by kernel_rfl) (by kernel_rfl) (fun _ _ _ h=>h) (Or.inl ⟨by rfl,fun w1 d=>by obtain⟨O,Y,X⟩:=d;go_simp⟩) L ?_
   try simp only [Act.put,List.setIfInBounds_toArray,List.set_cons_zero,List.set_cons_succ]
   refine wpAnyH_take (i:=9) (v:=int .i64 (q:Int)) rfl (by kernel_rfl) (by kernel_rfl) (by kernel_rfl) (fun _ _ _ h=>h) (Or.inl ⟨by rfl,fun w1 d=>by obtain⟨O,Y,X⟩:=d;go_simp⟩) L ?_
   try simp only [Act.put,List.setIfInBounds_toArray,List.set_cons_zero,List.set_cons_succ]
   refine wpAnyH_take (i:=10) (v:=slice AT (b.length - q) (c - q)) rfl (by kernel_rfl) (by kernel_rfl) (by kernel_rfl) (fun _ _ _ h=>h) (Or.inl ⟨by rfl,fun w1 d=>by obtain⟨O,Y,X⟩:=d;go_simp⟩) L ?_
   try simp only [Act.put,List.setIfInBounds_toArray,List.set_cons_zero,List.set_cons_succ]
   refine wpAnyH_ready (rs:=[2]) (by kernel_rfl) (by simp) (AllReadyH.cons rfl (fun K j=>?_) AllReadyH.nil);go_simp
   go_at_call 71
   refine(bn.out _ bx.out).mono ?_;rintro e J ⟨I,c3,rfl,aJ,Q⟩;have ab:=zhd (aR.out.trans (Q.mono aR.out.size));have bg:=zhd aJ;refine j.out _ _ ⟨(ab.out.cell (p:=⟨C,1,none⟩) (zaq x1)).trans x1,(ab.out.cell (p:=⟨w.heap.size,0,none⟩) aV.out.lt).trans r1,(ab.out.cell (p:=⟨g,3,none⟩) (zaq rg)).trans rg⟩ (fun ce=>?_);clear j K aJ Q
   try simp only [Act.put,List.setIfInBounds_toArray,List.set_cons_zero,List.set_cons_succ]
   refine wpAnyH_ready (rs:=[11]) (by kernel_rfl) (by simp) (AllReadyH.cons rfl (fun K j=>?_) AllReadyH.nil);go_simp
   go_at_call 178
   refine(bp.out _ (aB.out.trans (ab.out.mono aB.out.size))).mono ?_;rintro e w4 ⟨G,A4,c4,ag,rfl,an,af,ao⟩;have bw:=zhd ag;have bo:=zhd an;have bk:=zhd af;have bD:=zhd ao;have ae:=zhd (ab.out.trans (ao.mono ab.out.size));have q2:=Boxed.cell ((ae.out.block _ ai.out.lt).trans ai.out);have bI:=Boxed.frozen ((ae.out.block _ ai.out.lt).trans ai.out);have q3:=Boxed.cell ((ae.out.block _ ak.out.lt).trans ak.out);have bm:=Boxed.frozen ((ae.out.block _ ak.out.lt).trans ak.out);have y1:=(ae.out.cell (p:=⟨C,1,none⟩) (zaq x1)).trans x1;have y2:=(ae.out.cell (p:=⟨w.heap.size,0,none⟩) aV.out.lt).trans r1;have y3:=(ae.out.cell (p:=⟨g,3,none⟩) (zaq rg)).trans rg;refine j.out _ _ ⟨y1,y2,y3⟩ (fun cg=>?_);clear j K ag an af ao
   try simp only [Act.put,List.setIfInBounds_toArray,List.set_cons_zero,List.set_cons_succ]
   refine wpAnyH_ready (rs:=[12]) (by kernel_rfl) (by simp) (AllReadyH.cons rfl (fun K j=>?_) AllReadyH.nil);go_simp
   refine j.out _ _ ⟨(World.cell?_setCell_far _ _ _ _ (by show w.heap.size+1≠C;omega)).trans y1,(World.cell?_setCell_far _ _ _ _ (by show w.heap.size+1≠w.heap.size;omega)).trans y2,(World.cell?_setCell_far _ _ _ _ (by show w.heap.size+1≠g;omega)).trans y3⟩ (fun cd=>?_);clear j K
   try simp only [Act.put,List.setIfInBounds_toArray,List.set_cons_zero,List.set_cons_succ]
   refine wpAnyH_ready (rs:=[13]) (by kernel_rfl) (by simp) (AllReadyH.cons rfl (fun K j=>?_) AllReadyH.nil);go_simp
   refine j.out _ _ ⟨(World.cell?_setCell_far _ _ _ _ (by show w.heap.size+1+1≠C;omega)).trans ((World.cell?_setCell_far _ _ _ _ (by show w.heap.size+1≠C;omega)).trans y1),(World.cell?_setCell_far _ _ _ _ (by show w.heap.size+1+1≠w.heap.size;omega)).trans ((World.cell?_setCell_far _ _ _ _ (by show w.heap.size+1≠w.heap.size;omega)).trans y2),(World.cell?_setCell_far _ _ _ _ (by show w.heap.size+1+1≠g;omega)).trans ((World.cell?_setCell_far _ _ _ _ (by show w.heap.size+1≠g;omega)).trans y3)⟩ (fun bP=>?_);clear j K
   try simp only [Act.put,List.setIfInBounds_toArray,List.set_cons_zero,List.set_cons_succ]
   refine wpAnyH_done (by kernel_rfl) ?_ _
   all_goals
    gi_wp2
    have aP:=zsP o.heap.size hi (by rw [bJ.out]) aB.out ai.out ak.out ab.out bg.out bD.out (by rw [HQ.out];exact bw.out) bo.out bk.out;exact⟨aP.1,⟨rfl,T,_,rfl,bK.out,rfl⟩,i,⟨T,_,rfl,rfl⟩,aP.2⟩
  ·have bi:=zgR hk;have bO:((kd.toNat:Int)==0)=false:=by simpa using bi
   gi_wp2
   refine⟨KeepsFrom.refl _ _,Below.refl _ _,⟨fun z V=>?_,b1,N,M,b4,u⟩⟩;rcases List.mem_append.1 V with V|V
   ·exact hne z V
   ·have:z=⟨(i,kd,A1,y,c1),U⟩:=by simpa using V
    subst this;exact hk
 case done=>
  rintro D ys W hD bC ⟨hne,b1,N,M,b4,u⟩ j;have bG:=zhd (zhY b.length c R b rfl W ((az.out.below u).more u.size) (zhQ aw.out u) aL au.out);have r1:=b1.cell;have rg:W.cell? ⟨g,3,none⟩=some (slice R b.length c):=(u.cell (p:=⟨g,3,none⟩) aW).trans d3;have aq:o.heap.size<=W.heap.size:=by have:=b4.lt;omega
  gi_wp2_with (refine⟨trivial,?_⟩;gi_at_call 178;refine(callsIn_wide.2 bG.out).mono ?_;rintro e J ⟨G,I,c3,ag,rfl,an,af,Q⟩;have q2:Boxed J (w.heap.size+1) 27 (slice none 0 0):=(Q.block _ N.lt).trans N;have q3:Boxed J (w.heap.size+1+1) 30 (slice none 0 0):=(Q.block _ M.lt).trans M;have cf:=q2.cell;have bI:=q2.frozen;have bU:=q3.cell;have bm:=q3.frozen)
  have aj:((J.setCell ⟨w.heap.size+1,0,none⟩ (slice none 0 0)).setCell ⟨w.heap.size+1+1,0,none⟩ (slice I G.length c3)).heap[D]?=some (.deferred (some [])):=
   ((KeepsOthers.setCell J ⟨w.heap.size+1,0,none⟩ (slice none 0 0)).trans (KeepsOthers.setCell _ ⟨w.heap.size+1+1,0,none⟩ (slice I G.length c3))).same D _ ((Q.block D (Array.getElem?_eq_some_iff.1 j).1).trans j) rfl
  refine⟨by simp,.inl ⟨_,_,rfl,run_takeDeferred aj,?_⟩⟩;have ca:=N.lt;have bV:=M.lt;have bv:Boxed ((J.setCell ⟨w.heap.size+1,0,none⟩ (slice none 0 0)).setCell ⟨w.heap.size+1+1,0,none⟩ (slice I G.length c3)) (w.heap.size+1) 27 (slice none 0 0):=(q2.set _).other (by omega) _;have bf:Boxed ((J.setCell ⟨w.heap.size+1,0,none⟩ (slice none 0 0)).setCell ⟨w.heap.size+1+1,0,none⟩ (slice I G.length c3)) (w.heap.size+1+1) 30 (slice I G.length c3):=(q3.other (by omega) _).set _;have aS:∀ {B s n:Nat} {e:TypeId} {v:Value} {xs:List Value},W.heap.size<=B->J.ownsRow B e s v n xs->(((J.setCell ⟨w.heap.size+1,0,none⟩ (slice none 0 0)).setCell ⟨w.heap.size+1+1,0,none⟩ (slice I G.length c3)).putObj D (.deferred none)).ownsRow w.heap.size e s v n xs:=fun cb h=>
   (ziY (β:=Unit)) () _ _ (some D) (zaz (ownsRow_setCell_below (ownsRow_setCell_below h (a:=⟨w.heap.size+1,0,none⟩) (by show w.heap.size+1<_;omega) _) (a:=⟨w.heap.size+1+1,0,none⟩) (by show w.heap.size+1+1<_;omega) _) (by omega)) (grownBy_putObj' _ D (.deferred none)) (fun r e=>by cases e;exact⟨_,aj,rfl⟩)
  have aG:=cell_kept bv.cell (grownBy_putObj' _ D (.deferred none)) (fun r e=>by cases e;exact⟨_,aj,rfl⟩);have ax:=cell_kept bf.cell (grownBy_putObj' _ D (.deferred none)) (fun r e=>by cases e;exact⟨_,aj,rfl⟩);have aA:Below w.heap.size w (((J.setCell ⟨w.heap.size+1,0,none⟩ (slice none 0 0)).setCell ⟨w.heap.size+1+1,0,none⟩ (slice I G.length c3)).putObj D (.deferred none)):=
   (((u.trans (Q.mono u.size)).setCell (p:=⟨w.heap.size+1,0,none⟩) (Nat.le_succ _) _).setCell (p:=⟨w.heap.size+1+1,0,none⟩) (by show w.heap.size<=w.heap.size+1+1;omega) _).trans (belowK_b (w:=w) (Nat.le_refl _) _ D _ _ (by omega) aj rfl rfl)
  refine⟨.tuple #[slice none 0 0,slice I G.length c3],?_,0,none,0,G,I,c3,?_,?_,rfl,World.ownsRow_nil _ _ _ _,aS (Nat.le_refl _) an,fun r E=>aS (Nat.le_refl _) (af r E),aA⟩
  ·simp [results,Tryz.f156,go_sem,aG,ax]
  ·rw [<-HV.out];refine zqq b fun x U=>?_;rw [<-bC] at U;obtain⟨z,V,rfl⟩:=List.mem_map.1 U;exact hne z V
  ·rw [ag,HV.out];rfl
 case stop=>
  rintro D c' T W hD ⟨k,hk,aI⟩ ⟨⟨rfl,ah,Z,e1,e2,e3⟩,i,⟨bu,aU,e4,e5⟩,hq⟩ j
  gi_wp2
  refine⟨by simp,.inl ⟨_,_,rfl,run_takeDeferred j,?_⟩⟩;have bA:=zkf (β:=Nat) w b (fun s=>s) o.heap.size (by omega) i W _ (some D) hq (grownBy_putObj' W D (.deferred none)) (fun r e=>by cases e;exact⟨hD,_,j,rfl⟩);obtain⟨y,A,cy,G,A2,c2,hi,hy,ag,bj,Q,bh,bq,af,aA⟩:=bA;have aG:=bj.cell;have ax:=Q.cell;obtain⟨k',rfl⟩:∃ k',k=k'+1:=by
   cases k with
   | zero=>rw [e1] at aI;simp [bkU] at aI
   | succ k'=>exact⟨k',rfl⟩
  have aQ:=aI;rw [e1,List.map_append,ziX] at aQ;obtain⟨bl,bz⟩:=List.append_inj' aQ rfl;have aX:Z.1=bkF b k':=by simpa using bz
  have e6:ah++[Z]=bu++[aU]:=e1.symm.trans e4;obtain⟨_,e7⟩:=List.append_inj' e6 rfl;have e8:Z=aU:=by simpa using e7
  have bM:i=b.length - 1 - k':=by rw [<-e5,<-e8,aX,zm3 b k' (by omega)]
  have aO:=zqr b k' (by omega) (fun x U=>by
   rw [<-bl] at U;obtain⟨z,V,rfl⟩:=List.mem_map.1 U;exact e2 z V) (by rw [<-aX];exact e3)
  rw [<-bM,HV.out] at aO;have aK:zn8 rs (i+1)=y:=by
   rw [<-HV.out];show(((b.map za1)[i]?).getD (0,[])).2=y
   rw [List.getElem?_map,List.getElem?_eq_getElem hi];exact hy
  refine⟨.tuple #[slice A y.length cy,slice A2 G.length c2],?_,i+1,A,cy,G,A2,c2,aO,?_,by rw [aK],by rw [aK];exact bh,bq,af,aA⟩
  ·simp [results,Tryz.f156,go_sem,aG,ax]
  ·rw [ag,<-HV.out,List.map_drop]
theorem zqs(F:Nat->Prop)(g m q:Nat)(rs:List Rc)(w:World)(h:zcD lg0 w F g rs m q) :
 Calls Tryz.prog 156 #[pointer (some ⟨g,0,none⟩)] w (zv5 rs w):=callsIn_wide.1 (zsQ F g m q rs w h)
end
end Go.Proofs.YtahnjkkgojfdmaaGreatDoor
