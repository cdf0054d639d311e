import Derived.Test.YtahnjkkgojfdmaaGreatDoorCore
import Derived.IntWalk
import Derived.Deep.LoopGhost
import Derived.Deep.OwnRows
import Derived.Lib.Small
import Derived.Lib.Strings
import Derived.Lib.Slices
import Derived.Lib.Walk
import Derived.Lib.SlBytesConst
set_option maxRecDepth 10000
set_option maxHeartbeats 2000000
set_option linter.unusedVariables false
namespace Go.Proofs.YtahnjkkgojfdmaaGreatDoor
open Go.Value(int)
section
open Mem Be Word
namespace Frm
abbrev Rc:=UInt8×List UInt8
def chk(bs:List UInt8):Nat:=zew (ze0 zbE bs)
theorem zpM(bs:List UInt8):chk bs<4294967296:=by
 have a:=zhD _ ze1 bs;unfold U64 at a;unfold chk zew;have:=Nat.xor_lt_two_pow (n:=32) (x:=ze0 zbE bs / 4294967296) (y:=ze0 zbE bs % 4294967296) (by omega) (by omega);omega
def b4(n:Nat):List UInt8:=be 4 (n:Int)
theorem zb8(n:Nat):(b4 n).length=4:=zch _ _
def zds(k:UInt8)(n:Nat):List UInt8:=165 :: k :: b4 n
theorem zb9(k:UInt8)(n:Nat):(zds k n).length=6:=by simp [zds,zb8]
def zcs(r:Rc):List UInt8:=zds r.1 r.2.length++r.2
theorem zgn(r:Rc):(zcs r).length=r.2.length+6:=by simp [zcs,zb9];omega
def frB(r:Rc):List UInt8:=zcs r++b4 (chk (zcs r))
theorem zcJ(r:Rc):(frB r).length=r.2.length+10:=by simp [frB,zgn,zb8]
theorem zur(n:Nat)(h:n<4294967296):rd (b4 n)=(n:Int):=by
 have p:=zgd.2.2.2.2.1;exact zvo 4 _ (by omega) (by rw [p];omega)
def zcQ(bs:List UInt8):Int×Int:=
 if bs.length=0 then(0,4) else if bs.getD 0 0≠165 then(0,11) else if bs.length<6 then(0,12) else
 if 65536<rd ((bs.drop 2).take 4) then(0,11) else(rd ((bs.drop 2).take 4),0)
inductive Nx where
 | bad (e:Int)
 | ok (r:Rc)
def zbg(bs:List UInt8):Nx:=
 if(zcQ bs).2≠0 then .bad (zcQ bs).2 else
 if bs.length<(zcQ bs).1.toNat+10 then .bad 12 else
 if rd ((bs.drop ((zcQ bs).1.toNat+6)).take 4)≠(chk (bs.take ((zcQ bs).1.toNat+6)):Int) then .bad 20 else .ok (bs.getD 1 0,(bs.drop 6).take (zcQ bs).1.toNat)
theorem zjS(bs:List UInt8):0<=(zcQ bs).1/\(zcQ bs).1<=65536:=by
 unfold zcQ
 repeat' split
 all_goals first|exact⟨by decide,by decide⟩|exact⟨zb2 _,by show rd _<=_;omega⟩
theorem zmQ(k:UInt8)(n:Nat)(c:n<=65536)(more:List UInt8):zcQ (zds k n++more)=((n:Int),0):=by
 have d:(zds k n++more).length=6+more.length:=by rw [List.length_append,zb9]
 have a:(zds k n++more).getD 0 0=165:=rfl;have b:((zds k n++more).drop 2).take 4=b4 n:=by
  show(b4 n++more).take 4=_
  rw [List.take_append_of_le_length (by rw [zb8];omega),List.take_of_length_le (by rw [zb8];omega)]
 unfold zcQ;rw [if_neg (by omega),if_neg (by rw [a];decide),if_neg (by omega),b,zur n (by omega),if_neg (by omega)]
theorem znR(r:Rc)(a:r.2.length<=65536)(more:List UInt8):zbg (frB r++more)=.ok r:=by
 have hl:zcQ (frB r++more)=((r.2.length:Int),0):=by
  have:frB r++more=zds r.1 r.2.length++(r.2++(b4 (chk (zcs r))++more)):=by simp [frB,zcs]
  rw [this];exact zmQ _ _ a _
 have b:(frB r++more).length=r.2.length+10+more.length:=by rw [List.length_append,zcJ]
 have e:frB r++more=zcs r++(b4 (chk (zcs r))++more):=by simp [frB]
 unfold zbg;rw [hl];simp only [Int.toNat_natCast,ne_eq,not_true_eq_false,if_false];rw [if_neg (by omega),if_neg]
 ·congr 1
  refine Prod.ext rfl ?_;show((frB r++more).drop 6).take r.2.length=r.2
  have:frB r++more=zds r.1 r.2.length++(r.2++(b4 (chk (zcs r))++more)):=by simp [frB,zcs]
  rw [this,List.drop_left' (zb9 _ _),List.take_left' rfl]
 ·rw [e,List.drop_left' (zgn r),List.take_left' (zgn r),List.take_left' (zb8 _),zur _ (zpM _)];simp
theorem zhN(bs:List UInt8)(n:Nat)(h:n+10<=bs.length):bs.take (n+6)=bs.take 2++((bs.drop 2).take 4++(bs.drop 6).take n):=by
 have b:bs.take (n+6)=bs.take 2++(bs.drop 2).take (n+4):=by
  rw [show n+6=2+(n+4) by omega,List.take_add]
 have a:(bs.drop 2).take (n+4)=(bs.drop 2).take 4++(bs.drop 6).take n:=by
  rw [show n+4=4+n by omega,List.take_add,List.drop_drop]
 rw [b,a]
theorem zsl(a:List UInt8)(h:a.length=4):b4 (rd a).toNat=a:=by
 have b:=zb2 a;unfold b4;rw [Int.toNat_of_nonneg b];have:=zvp a;rw [h] at this;exact this
theorem zmR(bs:List UInt8)(h:6<=bs.length)(c:bs.getD 0 0=165):bs.take 2=[165,bs.getD 1 0]:=by
 match bs,h with
 | a :: b :: l,_=>simp at c;simp [c]
theorem zgI{bs:List UInt8}{r:Rc}(h:zbg bs=.ok r):r.2.length<=65536/\r.2.length+10<=bs.length/\bs.take (r.2.length+10)=frB r:=by
 have s:=zjS bs;unfold zbg at h;split at h
 ·cases h
 ·rename_i p;split at h
  ·cases h
  ·rename_i j;split at h
   ·cases h
   ·rename_i hc;injection h with h;obtain⟨n,g⟩:∃ n,(zcQ bs).1.toNat=n:=⟨_,rfl⟩;rw [g] at h j hc;have d:((bs.drop 6).take n).length=n:=by rw [List.length_take,List.length_drop];omega
    subst h;simp only [d];refine⟨by omega,by omega,?_⟩;have a:(zcQ bs).2=0:=by simpa using p
    have c:bs.getD 0 0=165/\(zcQ bs).1=rd ((bs.drop 2).take 4):=by
     unfold zcQ at a ⊢;by_cases i:bs.length=0
     ·rw [if_pos i] at a;cases a
     ·rw [if_neg i] at a ⊢;by_cases b:bs.getD 0 0≠165
      ·rw [if_pos b] at a;cases a
      ·rw [if_neg b] at a ⊢;by_cases a3:bs.length<6
       ·rw [if_pos a3] at a;cases a
       ·rw [if_neg a3] at a ⊢;by_cases a4:65536<rd ((bs.drop 2).take 4)
        ·rw [if_pos a4] at a;cases a
        ·rw [if_neg a4];exact⟨by simpa using b,rfl⟩
    have k:((bs.drop 2).take 4).length=4:=by rw [List.length_take,List.length_drop];omega
    have l:b4 n=(bs.drop 2).take 4:=by rw [<-g,c.2];exact zsl _ k
    have o:zcs (bs.getD 1 0,(bs.drop 6).take n)=bs.take (n+6):=by
     rw [zhN bs n (by omega),zmR bs (by omega) c.1];simp only [zcs,zds,d,l];simp
    have m:rd ((bs.drop (n+6)).take 4)=(chk (bs.take (n+6)):Int):=by simpa using hc
    have q:((bs.drop (n+6)).take 4).length=4:=by rw [List.length_take,List.length_drop];omega
    have ht:=zsl _ q;rw [m,Int.toNat_natCast] at ht;unfold frB;rw [o,ht,show n+10=n+6+4 by omega,List.take_add]
theorem zmS{bs:List UInt8}{e:Int}(h:zbg bs=.bad e):(e=4/\bs=[])\/((e=11\/e=12\/e=20)/\bs≠[]):=by
 by_cases b:bs=[]
 ·subst b;refine Or.inl ⟨?_,rfl⟩;injection h with h;exact h.symm
 ·refine Or.inr ⟨?_,b⟩;have hl:bs.length≠0:=fun d=>b (List.eq_nil_of_length_eq_zero d);have a:(zcQ bs).2=11\/(zcQ bs).2=12\/(zcQ bs).2=0:=by
   unfold zcQ;rw [if_neg hl]
   repeat' split
   all_goals simp
  unfold zbg at h;split at h
  ·injection h with h;subst h;rename_i c;rcases a with a|a|a
   ·exact Or.inl a
   ·exact Or.inr (Or.inl a)
   ·exact absurd a c
  ·split at h
   ·injection h with h;exact Or.inr (Or.inl h.symm)
   ·split at h
    ·injection h with h;exact Or.inr (Or.inr h.symm)
    ·cases h
theorem zvN{bs:List UInt8}{b:Int}(h:zcQ bs=(b,0)):6<=bs.length/\bs.getD 0 0=165/\b=rd ((bs.drop 2).take 4):=by
 unfold zcQ at h;by_cases c:bs.length=0
 ·rw [if_pos c] at h;cases h
 ·rw [if_neg c] at h;by_cases a:bs.getD 0 0≠165
  ·rw [if_pos a] at h;cases h
  ·rw [if_neg a] at h;by_cases a3:bs.length<6
   ·rw [if_pos a3] at h;cases h
   ·rw [if_neg a3] at h;by_cases a4:65536<rd ((bs.drop 2).take 4)
    ·rw [if_pos a4] at h;cases h
    ·rw [if_neg a4] at h;injection h with h;exact⟨by omega,by simpa using a,h.symm⟩
theorem zus{bs:List UInt8}{L:Nat}(h:zcQ bs=((L:Int),0))(hl:L+10<=bs.length):zcs (bs.getD 1 0,(bs.drop 6).take L)=bs.take (L+6):=by
 obtain⟨a,c,i⟩:=zvN h;have b:((bs.drop 6).take L).length=L:=by rw [List.length_take,List.length_drop];omega
 have d:((bs.drop 2).take 4).length=4:=by rw [List.length_take,List.length_drop];omega
 have g:b4 L=(bs.drop 2).take 4:=by
  have:=zsl _ d;rw [<-i,Int.toNat_natCast] at this;exact this
 rw [zhN bs L hl,zmR bs a c];simp only [zcs,zds,b,g];simp
theorem zsm{bs:List UInt8}{L:Nat}(h:zcQ bs=((L:Int),0))(hl:L+10<=bs.length) :
 frB (bs.getD 1 0,(bs.drop 6).take L)=bs.take (L+10)↔rd ((bs.drop (L+6)).take 4)=(chk (bs.take (L+6)):Int):=by
 have b:=zus h hl;have c:((bs.drop (L+6)).take 4).length=4:=by rw [List.length_take,List.length_drop];omega
 have e:bs.take (L+10)=bs.take (L+6)++(bs.drop (L+6)).take 4:=by rw [show L+10=L+6+4 by omega,List.take_add]
 unfold frB;rw [b,e];constructor
 ·intro a;have d:=List.append_cancel_left a;rw [<-d,zur _ (zpM _)]
 ·intro a
  congr 1
  have:=zsl _ c;rw [a,Int.toNat_natCast] at this;exact this
theorem zsn:zbg []=.bad 4:=rfl
theorem zso(r:Rc)(c:r.2.length<=65536)(j:Nat)(h:0<j)(g:j<r.2.length+10):zbg ((frB r).take j)=.bad 12:=by
 have hl:((frB r).take j).length=j:=by rw [List.length_take,zcJ];omega
 have b:((frB r).take j).getD 0 0=165:=by
  obtain⟨i,rfl⟩:∃ i,j=i+1:=⟨j - 1,by omega⟩;rfl
 by_cases d:j<6
 ·have:zcQ ((frB r).take j)=(0,12):=by
   unfold zcQ;rw [if_neg (by omega),if_neg (by rw [b];decide),if_pos (by omega)]
  unfold zbg;rw [this];rfl
 ·have e:(frB r).take j=zds r.1 r.2.length++(r.2++b4 (chk (zcs r))).take (j - 6):=by
   have:frB r=zds r.1 r.2.length++(r.2++b4 (chk (zcs r))):=by simp [frB,zcs]
   rw [this,List.take_append,zb9,List.take_of_length_le (by rw [zb9];omega)]
  have a:zcQ ((frB r).take j)=((r.2.length:Int),0):=by rw [e];exact zmQ _ _ c _
  unfold zbg;rw [a];simp only [Int.toNat_natCast,ne_eq,not_true_eq_false,if_false];rw [if_pos (by omega)]
def ziF:Nat->List UInt8->List Rc×Nat×Int
 | 0,_=>([],0,0)
 | f+1,bs=>match zbg bs with
  | .bad e=>([],0,if e=4 then 0 else e)
  | .ok r=>(r :: (ziF f (bs.drop (r.2.length+10))).1,r.2.length+10+(ziF f (bs.drop (r.2.length+10))).2.1,(ziF f (bs.drop (r.2.length+10))).2.2)
def zar(bs:List UInt8):List Rc×Nat×Int:=ziF (bs.length+1) bs
theorem zjT:∀ (f g:Nat) (bs:List UInt8),bs.length<f->bs.length<g->ziF f bs=ziF g bs
 | 0,_,_,h,_=>absurd h (by omega)
 | _,0,_,_,h=>absurd h (by omega)
 | f+1,g+1,bs,hf,hg=>by
  unfold ziF;cases hn:zbg bs with
  | bad e=>rfl
  | ok r=>
   have:=zgI hn;simp only;rw [zjT f g (bs.drop (r.2.length+10)) (by rw [List.length_drop];omega) (by rw [List.length_drop];omega)]
theorem zfe{bs:List UInt8}{e:Int}(h:zbg bs=.bad e):zar bs=([],0,if e=4 then 0 else e):=by
 unfold zar ziF;rw [h]
theorem ziG{bs:List UInt8}{r:Rc}(h:zbg bs=.ok r) :
 zar bs=(r :: (zar (bs.drop (r.2.length+10))).1,r.2.length+10+(zar (bs.drop (r.2.length+10))).2.1,(zar (bs.drop (r.2.length+10))).2.2):=by
 have:=zgI h;unfold zar;rw [ziF,h];simp only;rw [zjT bs.length ((bs.drop (r.2.length+10)).length+1) _ (by rw [List.length_drop];omega) (by omega)]
theorem zmT:zar []=([],0,0):=zfe zsn
def zac(rs:List Rc):List UInt8:=rs.flatMap frB
theorem zdK(r:Rc)(rs:List Rc):zac (r :: rs)=frB r++zac rs:=rfl
theorem zdh(a b:List Rc):zac (a++b)=zac a++zac b:=by unfold zac;rw [List.flatMap_append]
theorem ziH(rs:List Rc)(k:Nat)(h:k<rs.length):zac (rs.take (k+1))=zac (rs.take k)++frB rs[k]:=by
 rw [List.take_succ_eq_append_getElem h,zdh];simp [zac]
def zca(rs:List Rc):Prop:=∀ r∈rs,r.2.length<=65536
theorem zff:∀ (rs:List Rc) (_:zca rs) (more:List UInt8),zar (zac rs++more)=(rs++(zar more).1,(zac rs).length+(zar more).2.1,(zar more).2.2)
 | [],_,more=>by simp [zac]
 | r :: rs,h,more=>by
  have hr:=h r (by simp);have e:zac (r :: rs)++more=frB r++(zac rs++more):=by rw [zdK,List.append_assoc]
  have a:=znR r hr (zac rs++more);rw [e,ziG a,List.drop_left' (zcJ r),zff rs (fun x b=>h x (by simp [b])) more];simp only [zdK,List.length_append,zcJ,List.cons_append];refine Prod.ext rfl (Prod.ext ?_ rfl);simp only;omega
theorem zsp(rs:List Rc)(h:zca rs):zar (zac rs)=(rs,(zac rs).length,0):=by
 have:=zff rs h [];rw [List.append_nil,zmT] at this;simpa using this
theorem zd1:∀ (n:Nat) (bs:List UInt8),bs.length<=n->zca (zar bs).1/\(zar bs).2.1=(zac (zar bs).1).length/\(zar bs).2.1<=bs.length/\zac (zar bs).1=bs.take (zar bs).2.1
 | n,bs,hn=>by
  cases h:zbg bs with
  | bad e=>
   rw [zfe h];refine⟨?_,rfl,Nat.zero_le _,rfl⟩;intro r hr;exact absurd hr List.not_mem_nil
  | ok r=>
   have hk:=zgI h;obtain⟨m,rfl⟩:∃ m,n=m+1:=⟨n - 1,by omega⟩;have ih:=zd1 m (bs.drop (r.2.length+10)) (by rw [List.length_drop];omega);rw [ziG h];simp only;obtain⟨g,d,b,c⟩:=ih;rw [List.length_drop] at b;refine⟨?_,?_,by omega,?_⟩
   ·intro x a;rcases List.mem_cons.1 a with rfl|a
    ·exact hk.1
    ·exact g x a
   ·rw [zdK,List.length_append,zcJ,<-d]
   ·rw [zdK,c,List.take_add,<-hk.2.2]
theorem zfH(bs:List UInt8):zca (zar bs).1:=(zd1 _ bs (Nat.le_refl _)).1
theorem zfI(bs:List UInt8):(zar bs).2.1<=bs.length:=(zd1 _ bs (Nat.le_refl _)).2.2.1
theorem zdt(bs:List UInt8):zac (zar bs).1=bs.take (zar bs).2.1:=(zd1 _ bs (Nat.le_refl _)).2.2.2
theorem zbp(rs:List Rc)(n:Nat):zac rs=zac (rs.take n)++zac (rs.drop n):=by rw [<-zdh,List.take_append_drop]
theorem zsq(rs:List Rc)(h:zca rs)(k n:Nat)(m:n<=rs.length)(b:(zac (rs.take n)).length<=k)(l:k<=(zac rs).length)(d:∀ (hl:n<rs.length),k<(zac (rs.take n)).length+(rs[n].2.length+10)) :
 zar ((zac rs).take k)=(rs.take n,(zac (rs.take n)).length,if(zac (rs.take n)).length=k then 0 else 12):=by
 have g:zca (rs.take n):=fun r i=>h r (List.mem_of_mem_take i);have e:(zac rs).take k=zac (rs.take n)++(zac (rs.drop n)).take (k - (zac (rs.take n)).length):=by
  conv=>lhs;rw [zbp rs n]
  rw [List.take_append,List.take_of_length_le b]
 rw [e,zff _ g];by_cases a:(zac (rs.take n)).length=k
 ·rw [if_pos a,show k - (zac (rs.take n)).length=0 by omega,List.take_zero,zmT];simp
 ·rw [if_neg a];rcases Nat.lt_or_ge n rs.length with hl|hl
  ·have j:=d hl;have c:rs.drop n=rs[n] :: rs.drop (n+1):=List.drop_eq_getElem_cons hl;have hc:=zso rs[n] (h rs[n] (List.getElem_mem hl)) (k - (zac (rs.take n)).length) (by omega) (by omega);rw [c,zdK,List.take_append_of_le_length (by rw [zcJ];omega),zfe hc];simp
  ·rw [List.take_of_length_le hl] at b a ⊢;omega
def zc3(rs:List Rc):Nat:=(zac rs).length
theorem zpN(rs:List Rc)(k:Nat)(h:k<rs.length):zc3 (rs.take (k+1))=zc3 (rs.take k)+10+rs[k].2.length:=by
 unfold zc3;rw [ziH rs k h,List.length_append,zcJ];omega
theorem zpO(rs:List Rc)(k:Nat):zc3 (rs.take k)<=zc3 rs:=by
 unfold zc3
 conv=>rhs;rw [zbp rs k]
 rw [List.length_append];omega
theorem zjU{rs:List Rc}{r:Rc}(h:r∈rs):r.2.length+10<=zc3 rs:=by
 obtain⟨k,a,rfl⟩:=List.mem_iff_getElem.1 h;have:=zpN rs k a;have:=zpO rs (k+1);omega
theorem zd2(rs:List Rc):rs.length*10<=zc3 rs:=by
 induction rs with
 | nil=>simp
 | cons r rs ih=>unfold zc3 at *;rw [zdK,List.length_append,zcJ,List.length_cons];omega
end Frm
end
section
open Go.RowKit Mem Be Word
theorem ziL(n:Nat):IntKind.u64.wrap (n:Int)=((n % 18446744073709551616:Nat):Int):=by
 rw [IntKind.wrap_u64,Int.natCast_emod];rfl
theorem zsx(h c:Nat)(w:World)(d:U64 h)(hc:c<=255) :
 Calls Tryz.prog 212 #[int .u64 (h:Int),int .u8 (c:Int)] w fun e w'=>e=.returned (int .u64 (stepN h c:Int))/\w=w':=by
 have g:=bits_xor_u64_nat h c d (by omega);obtain⟨x,a⟩:∃ x:Nat,h ^^^ c=x:=⟨_,rfl⟩;rw [a] at g;have i:IntKind.u64.wrap ((x:Int)*1099511628211)=(stepN h c:Int):=by
  have:=ziL (x*1099511628211);unfold stepN;rw [a,<-this];exact congrArg _ (Int.natCast_mul x 1099511628211).symm
 have j:IntKind.u64.wrap (c:Int)=(c:Int):=by rw [IntKind.wrap_u64];omega
 obtain⟨y,b⟩:∃ y:Nat,stepN h c=y:=⟨_,rfl⟩;rw [b] at i ⊢;clear a b d hc;go_enter Tryz.func212,Tryz.ntmps212
 go_wp2;go_ret;exact⟨rfl,rfl⟩
theorem zmV(x y:Nat):IntKind.u64.wrap ((x:Int)*(y:Int))=((x*y % 18446744073709551616:Nat):Int):=by
 rw [<-ziL,Int.natCast_mul]
theorem zlz(h c:Nat)(w:World)(g:U64 h)(hc:c<=255) :
 Calls Tryz.prog 181 #[int .u64 (h:Int),int .u8 (c:Int)] w fun e w'=>e=.returned (int .u64 (stepN h c:Int))/\w=w':=by
 obtain⟨l,hl⟩:∃ l,h % 256=l:=⟨_,rfl⟩;obtain⟨q,hq⟩:∃ q,h - l=q:=⟨_,rfl⟩;obtain⟨y,d⟩:∃ y,l ^^^ c=y:=⟨_,rfl⟩;obtain⟨x,i⟩:∃ x,q+y=x:=⟨_,rfl⟩;obtain⟨z,a⟩:∃ z,stepN h c=z:=⟨_,rfl⟩;have j:l<256:=by omega
 have D:y<256:=by
  have:=Nat.xor_lt_two_pow (n:=8) (x:=l) (y:=c) (by omega) (by omega);omega
 have A:(h:Int).tmod 256=(l:Int):=by rw [Int.tmod_eq_emod_of_nonneg (by omega)];omega
 have m:(h:Int) % 256=(l:Int):=by omega
 have B:IntKind.u64.wrap ((h:Int) - (l:Int))=(q:Int):=by rw [IntKind.wrap_u64];unfold U64 at g;omega
 have k:bits .xor .u8 (l:Int) (c:Int)=(y:Int):=by rw [<-d];exact u8_xor_nat l c j (by omega)
 have o:IntKind.u64.wrap ((q:Int)+(y:Int))=(x:Int):=by rw [IntKind.wrap_u64];unfold U64 at g;omega
 have e:=zrM h c (by omega) x (by rw [hl,hq,d,i]);obtain⟨s,b⟩:∃ s,x*1099511627776 % 18446744073709551616=s:=⟨_,rfl⟩;obtain⟨t,ht⟩:∃ t,x*435 % 18446744073709551616=t:=⟨_,rfl⟩;rw [b,ht,a] at e;have u:IntKind.u64.wrap ((x:Int)*1099511627776)=(s:Int):=by rw [<-b];exact zmV x 1099511627776
 have v:IntKind.u64.wrap ((x:Int)*435)=(t:Int):=by rw [<-ht];exact zmV x 435
 have r:IntKind.u64.wrap ((s:Int)+(t:Int))=(z:Int):=by
  rw [<-e,<-ziL,Int.natCast_add]
 have p:IntKind.u64.wrap (y:Int)=(y:Int):=by rw [IntKind.wrap_u64];omega
 have C:IntKind.u8.wrap (l:Int)=(l:Int):=by rw [IntKind.wrap_u8'];omega
 rw [a];clear hl hq d i a b ht e g;go_enter Tryz.func181,Tryz.ntmps181
 go_wp2;go_ret;exact⟨rfl,rfl⟩
end
section
open Go.RowKit Mem Be Word
theorem zuw(B c n:Nat)(A:Option Addr)(rs:List zb3)(y:n=rs.length)(w:World)(h:Row w B A (rs.map zbN))(E:zdT w rs)(F:∀ r∈rs,r.2.1.length<=9223372036854775807)(Z:n<=9223372036854775807) :
 Calls Tryz.prog 194 #[.slice A n c] w fun e w'=>e=.returned (int .u64 (ze0 zbE (zbi rs):Int))/\w=w':=by
 have I:=zhd h;have S:=zhd E;have M:=zhd F;have u:=zhd y;clear h E F y;go_enter Tryz.func194,Tryz.ntmps194
 go_wp2;go_step3
 go_wp2;go_step3
 go_wp2;go_loopg [3,9] n (fun gk v i wr=>∃ (k h:Nat),k+gk=n/\i=int .i64 k/\v=int .u64 (h:Int)/\Hid (ze0 zbE (zbi (rs.take k))=h)/\wr=w)
 case atStart=>exact⟨0,zbE,by omega,rfl,rfl,zhd rfl,rfl⟩
 case round=>
  obtain⟨k,h,hk,rfl,rfl,t,rfl⟩:=hrel;by_cases N:k<n
  ·obtain⟨G,rfl⟩:∃ G,gk=G+1:=⟨gk - 1,by omega⟩;obtain⟨b,o,rfl,T,hc⟩:=I.out.open_ (by rw [List.length_map,<-u.out];omega);have m:k<rs.length:=by rw [<-u.out];exact N
   have g:=hc k (by rw [List.length_map];exact m);rw [List.getElem_map] at g;have l:=S.out rs[k] (List.getElem_mem m);have D:=M.out rs[k] (List.getElem_mem m);have p:=zdV rs k m;obtain⟨⟨a,bs,cp⟩,z⟩:∃ r,rs[k]=r:=⟨_,rfl⟩;rw [z] at g l D p;unfold zbN at g;simp only at g l D p;have K:=zhd p;have V:=zhd l;have L:Hid (U64 h):=zhd (by rw [<-t.out];exact zhD _ ze1 _);clear hc p l z T;go_wp2;go_loopg [3,6] bs.length (fun g2 v i R=>∃ (j d:Nat),j+g2=bs.length/\i=int .i64 j/\v=int .u64 (d:Int)/\Hid (ze0 h (bs.take j)=d)/\R=wr)
   case atStart=>exact⟨0,h,by omega,rfl,rfl,zhd rfl,rfl⟩
   case round=>
    obtain⟨j,d,X,rfl,rfl,q,rfl⟩:=hrel;by_cases s:j<bs.length
    ·obtain⟨Y,o2,rfl,U,C⟩:=V.out.open_ (by rw [List.length_map];omega);have W:=C j (by rw [List.length_map];exact s);rw [zbn bs j s] at W;have hq:((j:Int)==(bs.length:Int))=false:=by simp;omega
     have J:=zhd (zmu h bs j s);have Q:U64 d:=by rw [<-q.out];exact zhD _ L.out _
     have O:bs[j].toNat<=255:=by have:=bs[j].toNat_lt;omega
     clear C U;go_wp2_with fail
     refine(zsx d _ _ Q O).mono ?_;rintro e w' ⟨rfl,rfl⟩;go_wp2;go_roundg (gk - 1)
     case measure=>omega
     case rel=>exact⟨j+1,stepN d bs[j].toNat,by omega,by go_num,rfl,zhd (by rw [J.out,q.out]),rfl⟩
    ·obtain rfl:j=bs.length:=by omega
     have x:Hid (ze0 zbE (zbi (rs.take (k+1)))=d):=zhd (by rw [K.out,zoT,t.out,<-q.out,List.take_of_length_le (Nat.le_refl _)]);go_wp2;go_roundg G
     case measure=>omega
     case rel=>exact⟨k+1,d,by omega,by go_num,rfl,x,rfl⟩
  ·have x:Hid (ze0 zbE (zbi rs)=h):=zhd (by rw [<-t.out,List.take_of_length_le (by rw [<-u.out];omega)]);go_wp2
   try rw [Exit.noGoto_ret]
   go_ret;rw [x.out];exact⟨rfl,rfl⟩
theorem znV(B c n:Nat)(A:Option Addr)(bs:List UInt8)(j:n=bs.length)(w:World)(h:Row w B A (bs.map zaa))(y:n<=9223372036854775807) :
 Calls Tryz.prog 159 #[.slice A n c] w fun e w'=>e=.returned (int .u64 (ze0 zbE bs:Int))/\w=w':=by
 have r:=zhd h;have g:=zhd j;clear h j;go_enter Tryz.func159,Tryz.ntmps159
 go_wp2;go_loop [3,4] (fun v i=>∃ (k h:Nat),k<=n/\i=int .i64 k/\v=int .u64 (h:Int)/\Hid (ze0 zbE (bs.take k)=h)) (fun _ i=>n - (intOf i).toNat)
 case atStart=>exact⟨0,zbE,by omega,rfl,rfl,zhd rfl⟩
 case round=>
  obtain⟨k,h,x,rfl,rfl,d⟩:=hrel;by_cases l:k<n
  ·obtain⟨b,o,rfl,t,hc⟩:=r.out.open_ (by rw [List.length_map,<-g.out];omega);have a:k<bs.length:=by rw [<-g.out];exact l
   have p:=hc k (by rw [List.length_map];exact a);rw [zbn bs k a] at p;have s:=zhd (zmu zbE bs k a);have q:U64 h:=by rw [<-d.out];exact zhD _ ze1 _
   have m:bs[k].toNat<=255:=by have:=bs[k].toNat_lt;omega
   clear hc t;go_wp2_with fail
   refine(zlz h _ _ q m).mono ?_;rintro e w' ⟨rfl,rfl⟩;go_wp2;go_round
   case rel=>exact⟨k+1,stepN h bs[k].toNat,by omega,by go_num,rfl,zhd (by rw [s.out,d.out])⟩
   case measure=>simp [intOf];omega
  ·have u:Hid (ze0 zbE bs=h):=zhd (by rw [<-d.out,List.take_of_length_le (by rw [<-g.out];omega)]);go_wp2;go_ret;rw [u.out];exact⟨rfl,rfl⟩
end
section
open Go.RowKit Mem Be Word
def w8(n:Int):List UInt8:=be 8 (uZ n)
end
section
open Go.RowKit Mem Be Word
end
section
open Go.RowKit Mem Be Word
theorem ztN(n:Nat)(h:n<4294967296):IntKind.u32.wrap (n:Int)=(n:Int):=by rw [IntKind.wrap_u32'];omega
theorem zjY(h:Nat)(a:U64 h):bits .xor .u32 ((h / 4294967296:Nat):Int) ((h % 4294967296:Nat):Int)=(zew h:Int):=by
 unfold U64 at a;exact u32_xor_nat _ _ (by omega) (by omega)
theorem zjZ(B c n:Nat)(A:Option Addr)(rs:List zb3)(o:n=rs.length)(w:World)(h:Row w B A (rs.map zbN))(k:zdT w rs)(m:∀ r∈rs,r.2.1.length<=9223372036854775807)(q:n<=9223372036854775807) :
 Calls Tryz.prog 175 #[.slice A n c] w fun e w'=>e=.returned (int .u32 (zew (ze0 zbE (zbi rs)):Int))/\w=w':=by
 have C:=zuw B c n A rs o w h k m q;have d:=zhD _ ze1 (zbi rs);obtain⟨x,l⟩:∃ x,ze0 zbE (zbi rs)=x:=⟨_,rfl⟩;rw [l] at C d ⊢;have p:=zjY x d;obtain⟨a,i⟩:∃ a:Nat,x / 4294967296=a:=⟨_,rfl⟩;obtain⟨b,j⟩:∃ b:Nat,x % 4294967296=b:=⟨_,rfl⟩;obtain⟨y,g⟩:∃ y:Nat,zew x=y:=⟨_,rfl⟩;rw [i,j,g] at p;have s:IntKind.u32.wrap ((x:Int) / 4294967296)=(a:Int):=by rw [IntKind.wrap_u32'];unfold U64 at d;omega
 have t:IntKind.u32.wrap (x:Int)=(b:Int):=by rw [IntKind.wrap_u32'];omega
 rw [g];clear i j g l d h k m o;go_enter Tryz.func175,Tryz.ntmps175
 go_wp2_with fail
 refine C.mono ?_;rintro e w' ⟨rfl,rfl⟩;go_wp2;go_ret;exact⟨rfl,rfl⟩
theorem zj0(B c n:Nat)(A:Option Addr)(bs:List UInt8)(l:n=bs.length)(w:World)(h:Row w B A (bs.map zaa))(o:n<=9223372036854775807) :
 Calls Tryz.prog 131 #[.slice A n c] w fun e w'=>e=.returned (int .u32 (zew (ze0 zbE bs):Int))/\w=w':=by
 have C:=znV B c n A bs l w h o;have d:=zhD _ ze1 bs;obtain⟨x,k⟩:∃ x,ze0 zbE bs=x:=⟨_,rfl⟩;rw [k] at C d ⊢;have m:=zjY x d;obtain⟨a,i⟩:∃ a:Nat,x / 4294967296=a:=⟨_,rfl⟩;obtain⟨b,j⟩:∃ b:Nat,x % 4294967296=b:=⟨_,rfl⟩;obtain⟨y,g⟩:∃ y:Nat,zew x=y:=⟨_,rfl⟩;rw [i,j,g] at m;have s:(x:Int) / 4294967296=(a:Int):=by omega
 have t:(x:Int) % 4294967296=(b:Int):=by omega
 have p:IntKind.u64.wrap (a:Int)=(a:Int):=by rw [IntKind.wrap_u64];unfold U64 at d;omega
 have q:IntKind.u32.wrap (a:Int)=(a:Int):=ztN a (by unfold U64 at d;omega);have r:IntKind.u32.wrap (b:Int)=(b:Int):=ztN b (by omega);rw [g];clear i j g k d h l;go_enter Tryz.func131,Tryz.ntmps131
 go_wp2_with fail
 refine C.mono ?_;rintro e w' ⟨rfl,rfl⟩;go_wp2;go_ret;exact⟨rfl,rfl⟩
end
section
open Go.RowKit Mem Be Word Frm
def CF(u:Int)(hi:Nat):Array Value:=((List.range 4).map fun j=>if j<hi then Value.int .u8 (u / 256 ^ (3 - j) % 256) else int .u8 0).toArray
theorem zeQ(u:Int)(a:Nat):(CF u a).size=4:=by simp [CF]
theorem zsy(u:Int)(a j:Nat)(h:j<4):(CF u a)[j]'(by rw [zeQ];exact h)=if j<a then Value.int .u8 (u / 256 ^ (3 - j) % 256) else int .u8 0:=by
 simp [CF]
theorem zux(u:Int):madeCells #[int .u8 0] 4=CF u 0:=by
 apply Array.ext
 ·rw [zeQ,<-Array.length_toList,toList_madeCells_one];simp
 ·intro j c a;have b:j<4:=by rw [zeQ] at a;exact a
  rw [zsy u 0 j b,if_neg (by omega),<-Array.getElem_toList];simp only [toList_madeCells_one,List.getElem_replicate]
theorem zvP(u:Int)(a:Nat)(x:Int)(g:x=u / 256 ^ (3 - a) % 256):(CF u a).setIfInBounds a (int .u8 x)=CF u (a+1):=by
 apply Array.ext
 ·simp [zeQ]
 ·intro j i d;have b:j<4:=by rw [zeQ] at d;exact d
  rw [Array.getElem_setIfInBounds (by rw [zeQ];exact b),zsy u (a+1) j b];by_cases h:a=j
  ·subst h;rw [if_pos rfl,if_pos (by omega),g]
  ·rw [if_neg h,zsy u a j b];by_cases c:j<a
   ·rw [if_pos c,if_pos (by omega)]
   ·rw [if_neg c,if_neg (by omega)]
theorem zsz(u:Int):(CF u 4).toList=(be 4 u).map zaa:=by
 apply List.ext_getElem
 ·simp [CF,zch]
 ·intro j c b;have a:j<4:=by simpa [zch] using b
  rw [Array.getElem_toList,zsy u 4 j a,if_pos (by omega),List.getElem_map,zms _ _ _ a];unfold zaa;rw [zdk]
theorem zpU{w:World}(bs:List UInt8)(a:Array Value)(h:a.toList=bs.map zaa)(b:bs.length<=1000000):(w.alloc (.cells a 5)).ownsRow w.heap.size 5 1 (.slice (some ⟨w.heap.size,0,none⟩) bs.length bs.length) bs.length (bs.map zaa):=by
 have hl:a.size=bs.length:=by rw [<-Array.length_toList,h,List.length_map]
 refine⟨by simp,Or.inr ⟨w.heap.size,bs.length,_,rfl,Nat.le_refl _,heap_alloc_new w _,Nat.le_refl _,by unfold maxLen;omega,by rw [hl,Nat.mul_one],?_⟩⟩;rw [h,List.take_of_length_le (by simp)]
theorem zpV(bs:List UInt8)(a:Array Value)(h:a.toList=bs.map zaa)(b:bs.length<=1000000)(w:World)(n:Nat)(c:n=bs.length):zex w.heap.size bs w (.returned (.slice (some ⟨w.heap.size,0,none⟩) n n)) (w.alloc (.cells a 5)):=by
 subst c;exact⟨some ⟨w.heap.size,0,none⟩,bs.length,rfl,zpU bs a h b,zbl⟩
theorem zvQ(W:World):(Instr.makeSlice 27 (int .i64 4) (int .i64 4)).run Tryz.prog W=.ok (.slice (some ⟨W.heap.size,0,none⟩) 4 4) (W.alloc (.cells (madeCells #[int .u8 0] 4) 5)):=
 run_make_row' (P:=Tryz.prog) 27 5 (int .u8 0) 1 Tryz.underlying27 zaB rfl .i64 .i64 4 (by omega) (by omega) W
theorem zhT(n:Nat)(w:World):Calls Tryz.prog 174 #[int .u32 (n:Int)] w (zex w.heap.size (b4 n) w):=by
 obtain⟨u,a⟩:∃ u:Int,u=(n:Int):=⟨_,rfl⟩;have j:0<=u:=by omega
 have d:=zhd a;have c:=zvQ;rw [<-a];clear a;go_enter Tryz.func174,Tryz.ntmps174
 go_wp2;rw [zux u];clear c;go_loopw [8] (fun i wr=>∃ k:Nat,k<=4/\i=int .i64 k/\wr=w.alloc (.cells (CF u k) 5)) (fun i _=>4 - (intOf i).toNat)
 case atStart=>exact⟨0,by omega,rfl,rfl⟩
 case round=>
  obtain⟨k,p,rfl,rfl⟩:=hrel;by_cases h:k<4
  ·obtain⟨m,b⟩:∃ m:Nat,m=3 - k:=⟨_,rfl⟩;have o:(3:Int) - (k:Int)=(m:Int):=by omega
   have l:m<=3:=by omega
   have g:=zhd b;clear b;obtain⟨old,hold⟩:∃ old,(CF u k)[k]?=some old:=⟨_,Array.getElem?_eq_getElem (by rw [zeQ];omega)⟩;go_wp2;go_roundw
   case rel=>exact⟨k+1,by omega,by go_num,by rw [zvP u k _ (by rw [show(256:Int)=2 ^ 8 by decide,<-Int.pow_mul,<-g.out])]⟩
   case measure=>simp [intOf];omega
  ·obtain rfl:k=4:=by omega
   go_wp2;go_ret;rw [d.out];exact zpV (b4 n) _ (zsz _) (by rw [zb8];omega) w 4 (zb8 n).symm
theorem zsA(u:Int)(b:UInt8)(g:0<=u)(d:u<=16777215):bits .or .u32 (u*256 % 4294967296) ((b.toNat:Int) % 4294967296)=u*256+(b.toNat:Int):=by
 have c:=b.toNat_lt;have a:u*256 % 4294967296=u*256:=by omega
 have e2:(b.toNat:Int) % 4294967296=(b.toNat:Int):=by omega
 rw [a,e2,u32_or _ _ (by omega) (by omega) (by omega) (by omega)];have:(u*256).toNat||| ((b.toNat:Int)).toNat=(u*256).toNat+b.toNat:=by
  rw [show((b.toNat:Int)).toNat=b.toNat by omega];exact nat_join 8 _ _ (by omega) (by omega)
 rw [this];omega
theorem zj1(bs:List UInt8)(k:Nat)(h:k<bs.length)(a:bs.length<=4):rd (bs.take k)<=16777215:=by
 have c:=rd_lt (bs.take k);have b:(256:Int) ^ (bs.take k).length<=256 ^ 3:=zc6 (by rw [List.length_take];omega);have p:=zgd.2.2.2.1;omega
theorem zfU(B c n:Nat)(A:Option Addr)(bs:List UInt8)(g:n=bs.length)(l:bs.length<=4)(w:World)(h:Row w B A (bs.map zaa)) :
 Calls Tryz.prog 196 #[.slice A n c] w fun e w'=>e=.returned (int .u32 (rd bs))/\w=w':=by
 have q:=zhd h;have d:=zhd g;have s:n<=4:=by omega
 clear h g;go_enter Tryz.func196,Tryz.ntmps196
 go_wp2;go_loop [3,8] (fun v i=>∃ k:Nat,k<=n/\i=int .i64 k/\v=int .u32 (rd (bs.take k))) (fun _ i=>n - (intOf i).toNat)
 case atStart=>exact⟨0,by omega,rfl,rfl⟩
 case round=>
  obtain⟨k,t,rfl,rfl⟩:=hrel;by_cases m:k<n
  ·obtain⟨b,o,rfl,r,hc⟩:=q.out.open_ (by rw [List.length_map,<-d.out];omega);have a:k<bs.length:=by rw [<-d.out];exact m
   have p:=hc k (by rw [List.length_map];exact a);rw [zbn bs k a] at p;clear hc r;go_wp2;go_round
   case rel=>exact⟨k+1,by omega,by go_num,by rw [zsA _ _ (zb2 _) (zj1 _ _ a l),zeE bs k a]⟩
   case measure=>simp [intOf];omega
  ·have j:Hid (bs.take k=bs):=zhd (List.take_of_length_le (by rw [<-d.out];omega));go_wp2;go_ret;rw [j.out];exact⟨rfl,rfl⟩
theorem znW(n a b c:Nat)(d:Array Value)(i:n / 16777216=a)(k:n / 65536=b)(hc:n / 256=c)
 (h:d=#[int .u8 ((a:Int) % 256),int .u8 ((b:Int) % 256),int .u8 ((c:Int) % 256),int .u8 ((n:Int) % 256)]):d.toList=(b4 n).map zaa:=by
 subst h;have e:∀ x:Int,zaa (UInt8.ofNat (x % 256).toNat)=int .u8 (x % 256):=fun x=>by unfold zaa;rw [zdk]
 apply List.ext_getElem
 ·simp [zb8]
 ·intro j l m;have g:j<4:=by simpa using l
  rw [List.getElem_map];unfold b4;rw [zms 4 _ j g,e];have p:=zgd;rcases j with _|_|_|_|j
  ·show Value.int .u8 ((a:Int) % 256)=int .u8 ((n:Int) / 256 ^ 3 % 256)
   rw [p.2.2.2.1,<-i];rfl
  ·show Value.int .u8 ((b:Int) % 256)=int .u8 ((n:Int) / 256 ^ 2 % 256)
   rw [p.2.2.1,<-k];rfl
  ·show Value.int .u8 ((c:Int) % 256)=int .u8 ((n:Int) / 256 ^ 1 % 256)
   rw [p.2.1,<-hc];rfl
  ·show Value.int .u8 ((n:Int) % 256)=int .u8 ((n:Int) / 256 ^ 0 % 256)
   rw [p.1,Int.ediv_one]
  ·omega
theorem zmW(n:Nat)(i:n<4294967296)(w:World):Calls Tryz.prog 130 #[int .i64 (n:Int)] w (zex w.heap.size (b4 n) w):=by
 obtain⟨a,g⟩:∃ a:Nat,n / 16777216=a:=⟨_,rfl⟩;obtain⟨b,h⟩:∃ b:Nat,n / 65536=b:=⟨_,rfl⟩;obtain⟨c,hc⟩:∃ c:Nat,n / 256=c:=⟨_,rfl⟩;have o:(n:Int).tdiv 16777216=(a:Int):=by rw [Int.tdiv_eq_ediv_of_nonneg (by omega)];omega
 have p:(n:Int).tdiv 65536=(b:Int):=by rw [Int.tdiv_eq_ediv_of_nonneg (by omega)];omega
 have t3:(n:Int).tdiv 256=(c:Int):=by rw [Int.tdiv_eq_ediv_of_nonneg (by omega)];omega
 have d:=zhd (And.intro i (And.intro g (And.intro h hc)));clear i g h hc;go_enter Tryz.func130,Tryz.ntmps130
 go_wp2;go_ret;have w1:wrap64 (a:Int)=(a:Int):=by have:=d.out;unfold wrap64;omega
 have k:wrap64 (b:Int)=(b:Int):=by have:=d.out;unfold wrap64;omega
 have l:wrap64 (c:Int)=(c:Int):=by have:=d.out;unfold wrap64;omega
 have j:(b:Int).tmod 256=(b:Int) % 256:=Int.tmod_eq_emod_of_nonneg (by omega);have m:(c:Int).tmod 256=(c:Int) % 256:=Int.tmod_eq_emod_of_nonneg (by omega);rw [w1,k,l,j,m];exact zpV (b4 n) _ (znW n a b c _ d.out.2.1 d.out.2.2.1 d.out.2.2.2 (by rw [Int.emod_emod_of_dvd _ (Int.dvd_refl _),Int.emod_emod_of_dvd _ (Int.dvd_refl _)])) (by rw [zb8];omega) w 4 (zb8 n).symm
end
end Go.Proofs.YtahnjkkgojfdmaaGreatDoor
