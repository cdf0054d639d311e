import Derived.Test.YtahnjkkgojfdmaaGreatDoorRows
import Derived.WalkKit
import Derived.WalkLawsBesides
import Derived.Lib.Hide
import Derived.Laws.OwnMore
import Derived.Laws.IdiomStrings
import Derived.Deep.Draws
import Derived.Lib.BufferRead
import Derived.OpenShut
import Derived.Laws.Bits64
import Derived.Laws.BitsAllLaws
import Derived.Maps.AppendAt
import Derived.Deep.AppendLies
import Derived.OwnWalk
import Derived.Lib.SliceRun
import Derived.Deep.Matrix
import Derived.ChangeArms
import Derived.Lib.ConvBytes
import Derived.Deep.QuietTactic
import Derived.BigQuiet
import Derived.Lib.AppendZeros
set_option maxRecDepth 100000
set_option maxHeartbeats 8000000
set_option linter.unusedVariables false
namespace Go.Proofs.YtahnjkkgojfdmaaGreatDoor
open Go.Value(int slice)
theorem zhd{p:Prop}(h:p):Go.RowKit.Hid p:=Lib.hid h
theorem zbl{w:World}{o:Obj}:Go.RowKit.Below w.heap.size w (w.alloc o):=(Go.RowKit.Below.refl _ _).alloc (Nat.le_refl _) _
section
open Go.RowKit
namespace Mem
def zaa(b:UInt8):Value:=int .u8 (b.toNat:Int)
def Row(w:World)(B:Nat)(A:Option Addr)(xs:List Value):Prop:=
 xs=[]\/∃ b o,A=some ⟨b,o,none⟩/\b<B/\∀ j (h:j<xs.length),w.cell? ⟨b,o+j,none⟩=some xs[j]
section
variable {w w' : World} {B B' : Nat} {A : Option Addr} {xs : List Value}
theorem Row.nil(w:World)(B:Nat)(A:Option Addr):Row w B A []:=Or.inl rfl
theorem Row.keep(h:Row w B A xs)(hk:∀ p:Addr,p.block<B->w'.cell? p=w.cell? p):Row w' B A xs:=by
 rcases h with h|⟨b,o,e,hb,hc⟩
 ·exact Or.inl h
 ·exact Or.inr ⟨b,o,e,hb,fun j hj=>(hk ⟨b,o+j,none⟩ hb).trans (hc j hj)⟩
theorem Row.more(h:Row w B A xs)(hB:B<=B'):Row w B' A xs:=by
 rcases h with h|⟨b,o,e,hb,hc⟩
 ·exact Or.inl h
 ·exact Or.inr ⟨b,o,e,by omega,hc⟩
theorem Row.below(h:Row w B A xs)(hb:Below B w w'):Row w' B A xs:=h.keep fun _ hp=>hb.cell hp
theorem Row.drew(h:Row w B A xs):Row w.drew B A xs:=h
theorem Row.drewN(h:Row w B A xs)(k:Nat):Row (w.drewN k) B A xs:=h
theorem Row.alloc(h:Row w B A xs)(hB:B<=w.heap.size)(o:Obj):Row (w.alloc o) B A xs:=h.keep fun p hp=>World.cell?_alloc_lt w o p (by omega)
theorem Row.of_own{base:Nat}{e:TypeId}{n c:Nat}(h:w.ownsRow base e 1 (slice A n c) n xs):Row w w.heap.size A xs:=by
 have hl:=h.1;rcases h.2 with⟨_,hn⟩|⟨g,cap,cur,hv,_,hh,_⟩
 ·refine Or.inl (List.eq_nil_of_length_eq_zero ?_);rw [hl,hn]
 ·have hA:A=some ⟨g,0,none⟩:=by injection hv
  subst hA;refine Or.inr ⟨g,0,rfl,?_,fun j hj=>?_⟩
  ·rcases Nat.lt_or_ge g w.heap.size with hlt|hge
   ·exact hlt
   ·rw [Array.getElem?_eq_none hge] at hh;cases hh
  ·have hcap:Value.slice (some ⟨g,0,none⟩) n c=Value.slice (some ⟨g,0,none⟩) n cap:=hv;rw [hcap] at h;have:=h.cellAt j (by omega);rw [Nat.zero_add,this,List.getElem?_eq_getElem hj]
theorem Row.open_(h:Row w B A xs)(hn:0<xs.length):∃ b o,A=some ⟨b,o,none⟩/\b<B/\∀ j (h:j<xs.length),w.cell? ⟨b,o+j,none⟩=some xs[j]:=by
 rcases h with h|h
 ·rw [h] at hn;exact absurd hn (by simp)
 ·exact h
end
theorem zbn(bs:List UInt8)(j:Nat)(h:j<bs.length):(bs.map zaa)[j]'(by simpa using h)=int .u8 (bs[j].toNat:Int):=by
 rw [List.getElem_map];rfl
theorem zgc{P:Program}{w:World}{B:Nat}{A:Option Addr}{bs:List UInt8}(c:Nat)(d dst e:TypeId)(l:P.underlying d=some (.slice e))(m:P.underlying e=some (.int .u8))(k:P.underlying dst=some .string)
 (h:Row w B A (bs.map zaa)):(convert d dst (slice A bs.length c)).run P w=.ok (.string ⟨bs.toArray⟩) w:=by
 rcases A with _|a
 ·have p:bs=[]:=by
   rcases h with h|⟨b,o,e,_⟩
   ·simpa using h
   ·cases e
  subst p;have:=Lib.run_convert_nil_bytes (P:=P) w d dst e c l m k;exact this
 ·refine run_convert_bytes_back w d dst e a c bs l m k fun j i=>?_;obtain⟨b,o,g,_,hc⟩:=h.open_ (by simp;omega);injection g with g;subst g;have:=hc j (by simpa using i);rw [zbn bs j i] at this;rw [<-this];unfold Addr.add;split
  ·subst_vars;rfl
  ·rfl
theorem zaq{w:World}{p:Addr}{v:Value}(h:w.cell? p=some v):p.block<w.heap.size:=by
 rcases Nat.lt_or_ge p.block w.heap.size with a|b
 ·exact a
 ·have:w.heap[p.block]?=none:=Array.getElem?_eq_none b;simp [World.cell?,this] at h
theorem bytes_eq(a b:List UInt8):((⟨a.toArray⟩:ByteArray)=⟨b.toArray⟩)↔a=b:=by
 constructor
 ·intro h;have:=congrArg (fun x:ByteArray=>x.data.toList) h;simpa using this
 ·intro h;rw [h]
end Mem
end
section
open Go.RowKit Mem
namespace Be
def be:Nat->Int->List UInt8
 | 0,_=>[]
 | k+1,u=>be k (u / 256)++[UInt8.ofNat (u % 256).toNat]
theorem zch(k:Nat)(u:Int):(be k u).length=k:=by
 induction k generalizing u with
 | zero=>rfl
 | succ k ih=>simp [be,ih]
theorem zc5(k:Nat):0<(256:Int) ^ k:=Int.pow_pos (by decide)
theorem zoQ(u:Int)(a b:Nat):u / 256 ^ a / 256 ^ b=u / 256 ^ (a+b):=by
 rw [Int.ediv_ediv_of_nonneg (Int.le_of_lt (zc5 a)),<-Int.pow_add]
theorem ztZ(k:Nat)(u:Int):be (k+1) u=UInt8.ofNat ((u / 256 ^ k) % 256).toNat :: be k u:=by
 induction k generalizing u with
 | zero=>simp [be]
 | succ k ih=>
  rw [be,ih];have:u / 256 / 256 ^ k=u / 256 ^ (k+1):=by
   have:=zoQ u 1 k;rw [Nat.add_comm k 1];simpa using this
  rw [this];rfl
theorem zt8(k:Nat)(u:Int)(j:Nat)(h:j<=k):(be k u).take j=be j (u / 256 ^ (k - j)):=by
 induction k generalizing u with
 | zero=>
  obtain rfl:j=0:=by omega
  rfl
 | succ k ih=>
  by_cases a:j=k+1
  ·subst a;rw [List.take_of_length_le (by rw [zch];omega)];simp
  ·rw [be,List.take_append_of_le_length (by rw [zch];omega),ih (u / 256) (by omega)]
   congr 1
   have:=zoQ u 1 (k - j);rw [show k+1 - j=1+(k - j) by omega];simpa using this
theorem zms(k:Nat)(u:Int)(j:Nat)(h:j<k):(be k u)[j]'(by rw [zch];exact h)=UInt8.ofNat ((u / 256 ^ (k - 1 - j)) % 256).toNat:=by
 have e:be (j+1) (u / 256 ^ (k - (j+1)))=be j (u / 256 ^ (k - (j+1)) / 256)++[UInt8.ofNat (u / 256 ^ (k - (j+1)) % 256).toNat]:=rfl;have t:=zt8 k u (j+1) (by omega);rw [List.take_succ_eq_append_getElem (by rw [zch];exact h)] at t;have:=(List.append_inj' (t.trans e) rfl).2;rw [show k - 1 - j=k - (j+1) by omega];simpa using this
theorem zdk(x:Int):((UInt8.ofNat (x % 256).toNat).toNat:Int)=x % 256:=by
 rw [UInt8.toNat_ofNat'];have:=Int.emod_nonneg x (b:=256) (by decide);have:=Int.emod_lt_of_pos x (b:=256) (by decide);omega
def rd(bs:List UInt8):Int:=bs.foldl (fun u b=>u*256+(b.toNat:Int)) 0
theorem zty(a:List UInt8)(b:UInt8):rd (a++[b])=rd a*256+(b.toNat:Int):=by
 unfold rd;rw [List.foldl_append];rfl
theorem zeE(bs:List UInt8)(k:Nat)(h:k<bs.length):rd (bs.take (k+1))=rd (bs.take k)*256+(bs[k].toNat:Int):=by
 rw [List.take_succ_eq_append_getElem h,zty]
theorem zb2(bs:List UInt8):0<=rd bs:=by
 have:∀ n,∀ bs:List UInt8,bs.length=n->0<=rd bs:=by
  intro n
  induction n with
  | zero=>intro bs h;rw [List.length_eq_zero_iff.1 h];simp [rd]
  | succ n ih=>
   intro bs h;have:=zeE bs n (by omega);rw [List.take_of_length_le (by omega)] at this;have:=ih (bs.take n) (by simp;omega);omega
 exact this _ bs rfl
theorem rd_lt(bs:List UInt8):rd bs<256 ^ bs.length:=by
 have:∀ n,∀ bs:List UInt8,bs.length=n->rd bs<256 ^ n:=by
  intro n
  induction n with
  | zero=>intro bs h;rw [List.length_eq_zero_iff.1 h];simp [rd]
  | succ n ih=>
   intro bs h;have e:=zeE bs n (by omega);rw [List.take_of_length_le (by omega)] at e;have:=ih (bs.take n) (by simp;omega);have:=bs[n].toNat_lt;rw [Int.pow_succ];omega
 exact this _ bs rfl
theorem zvo(k:Nat)(u:Int)(b:0<=u)(a:u<256 ^ k):rd (be k u)=u:=by
 induction k generalizing u with
 | zero=>simp at a;simp [be,rd];omega
 | succ k ih=>
  rw [be,zty,zdk,ih (u / 256) (by omega) (by rw [Int.pow_succ] at a;omega)];omega
theorem zvp(bs:List UInt8):be bs.length (rd bs)=bs:=by
 have:∀ n,∀ bs:List UInt8,bs.length=n->be n (rd bs)=bs:=by
  intro n
  induction n with
  | zero=>intro bs h;rw [List.length_eq_zero_iff.1 h];rfl
  | succ n ih=>
   intro bs h;have e:=zeE bs n (by omega);have e2:=List.take_succ_eq_append_getElem (l:=bs) (i:=n) (by omega);rw [List.take_of_length_le (by omega)] at e e2;have c:=bs[n].toNat_lt;have b:=ih (bs.take n) (by simp;omega);have e3:rd bs / 256=rd (bs.take n):=by omega
   have a:(rd bs % 256).toNat=bs[n].toNat:=by omega
   rw [be,e3,b,a,UInt8.ofNat_toNat];exact e2.symm
 exact this _ bs rfl
def zaD(u:Int):Nat:=
 if u<1 then 0 else if u<256 then 1 else if u<65536 then 2 else if u<16777216 then 3 else if u<4294967296 then 4
 else if u<1099511627776 then 5 else if u<281474976710656 then 6 else if u<72057594037927936 then 7 else 8
theorem zgd:(256:Int) ^ 0=1/\(256:Int) ^ 1=256/\(256:Int) ^ 2=65536/\(256:Int) ^ 3=16777216/\(256:Int) ^ 4=4294967296/\(256:Int) ^ 5=1099511627776/\
 (256:Int) ^ 6=281474976710656/\(256:Int) ^ 7=72057594037927936/\(256:Int) ^ 8=18446744073709551616:=by decide
theorem zfu(u:Int):zaD u<=8:=by
 unfold zaD
 repeat' (split;omega)
 omega
theorem zh8(u:Int)(h:u<18446744073709551616):u<256 ^ zaD u:=by
 obtain⟨p0,p1,o,p,s,r,q,m,l⟩:=zgd;unfold zaD;by_cases i:u<1
 ·rw [if_pos i,p0];exact i
 rw [if_neg i];by_cases b:u<256
 ·rw [if_pos b,p1];exact b
 rw [if_neg b];by_cases k:u<65536
 ·rw [if_pos k,o];exact k
 rw [if_neg k];by_cases d:u<16777216
 ·rw [if_pos d,p];exact d
 rw [if_neg d];by_cases a:u<4294967296
 ·rw [if_pos a,s];exact a
 rw [if_neg a];by_cases g:u<1099511627776
 ·rw [if_pos g,r];exact g
 rw [if_neg g];by_cases c:u<281474976710656
 ·rw [if_pos c,q];exact c
 rw [if_neg c];by_cases j:u<72057594037927936
 ·rw [if_pos j,m];exact j
 rw [if_neg j,l];exact h
theorem zkU(u:Int)(k:Nat)(a:zaD u=k+1):256 ^ k<=u:=by
 obtain⟨p0,p1,o,p,s,r,q,m,t⟩:=zgd;unfold zaD at a;by_cases i:u<1
 ·rw [if_pos i] at a;omega
 rw [if_neg i] at a;by_cases c:u<256
 ·rw [if_pos c] at a;obtain rfl:k=0:=by omega
  rw [p0];omega
 rw [if_neg c] at a;by_cases l:u<65536
 ·rw [if_pos l] at a;obtain rfl:k=1:=by omega
  rw [p1];omega
 rw [if_neg l] at a;by_cases g:u<16777216
 ·rw [if_pos g] at a;obtain rfl:k=2:=by omega
  rw [o];omega
 rw [if_neg g] at a;by_cases b:u<4294967296
 ·rw [if_pos b] at a;obtain rfl:k=3:=by omega
  rw [p];omega
 rw [if_neg b] at a;by_cases h:u<1099511627776
 ·rw [if_pos h] at a;obtain rfl:k=4:=by omega
  rw [s];omega
 rw [if_neg h] at a;by_cases d:u<281474976710656
 ·rw [if_pos d] at a;obtain rfl:k=5:=by omega
  rw [r];omega
 rw [if_neg d] at a;by_cases j:u<72057594037927936
 ·rw [if_pos j] at a;obtain rfl:k=6:=by omega
  rw [q];omega
 rw [if_neg j] at a;obtain rfl:k=7:=by omega
 rw [m];omega
theorem zoR(u:Int):zaD u=0↔u<1:=by
 constructor
 ·intro h;rcases Int.lt_or_le u 1 with a|a
  ·exact a
  ·exfalso
   unfold zaD at h;rw [if_neg (by omega)] at h
   revert h
   repeat' (split;omega)
   omega
 ·intro h;unfold zaD;rw [if_pos h]
theorem zc6{a b:Nat}(h:a<=b):(256:Int) ^ a<=256 ^ b:=by
 obtain⟨c,rfl⟩:=Nat.exists_eq_add_of_le h;rw [Int.pow_add];have d:=zc5 a;have g:=zc5 c;have:=Int.mul_le_mul_of_nonneg_left (show(1:Int)<=256 ^ c by omega) (Int.le_of_lt d);omega
theorem zoS(u:Int)(k:Nat)(d:u<18446744073709551616)(i:u<256 ^ k)(g:∀ j,k=j+1->256 ^ j<=u):zaD u=k:=by
 rcases Nat.lt_trichotomy (zaD u) k with h|h|h
 ·obtain⟨j,rfl⟩:∃ j,k=j+1:=⟨k - 1,by omega⟩;have:=g j rfl;have:=zh8 u d;have:=zc6 (a:=zaD u) (b:=j) (by omega);omega
 ·exact h
 ·obtain⟨j,c⟩:∃ j,zaD u=j+1:=⟨zaD u - 1,by omega⟩;have:=zkU u j c;have:=zc6 (a:=k) (b:=j) (by omega);omega
def uZ(n:Int):Int:=n % 18446744073709551616
def iZ(u:Int):Int:=(u+9223372036854775808) % 18446744073709551616 - 9223372036854775808
def zrF(n:Int):Prop:=-9223372036854775808<=n/\n<=9223372036854775807
theorem zh9(n:Int):0<=uZ n/\uZ n<18446744073709551616:=by unfold uZ;omega
theorem iu(n:Int)(h:zrF n):iZ (uZ n)=n:=by unfold iZ uZ zrF at *;omega
theorem ui(u:Int)(b:0<=u)(a:u<18446744073709551616):uZ (iZ u)=u:=by unfold iZ uZ;omega
theorem i_in(u:Int):zrF (iZ u):=by unfold iZ zrF;omega
def zf6(u:Int):List UInt8:=UInt8.ofNat (zaD u) :: be (zaD u) u
def zbj(n:Int):List UInt8:=zf6 (uZ n)
theorem zia(n:Int):(zbj n).length=1+zaD (uZ n):=by simp [zbj,zf6,zch];omega
theorem zbo(n:Int):(zbj n).length<=9:=by have:=zia n;have:=zfu (uZ n);omega
theorem zrK(n:Int):0<(zbj n).length:=by have:=zia n;omega
theorem zgu(u:Int):(UInt8.ofNat (zaD u)).toNat=zaD u:=by
 rw [UInt8.toNat_ofNat'];have:=zfu u;omega
def zbP(bs:List UInt8):Int×Nat×Int:=
 if bs.length=0 then(0,0,12)
 else if 8<(bs.headD 0).toNat then(0,0,11)
 else if bs.length<1+(bs.headD 0).toNat then(0,0,12)
 else if 0<(bs.headD 0).toNat/\(bs.tail.headD 0).toNat=0 then(0,0,11)
 else(iZ (rd (bs.tail.take (bs.headD 0).toNat)),1+(bs.headD 0).toNat,0)
theorem zmt(n:Int)(h:zrF n)(more:List UInt8):zbP (zbj n++more)=(n,(zbj n).length,0):=by
 have c:=zh9 n;have m:=zfu (uZ n);have e:zbj n++more=UInt8.ofNat (zaD (uZ n)) :: (be (zaD (uZ n)) (uZ n)++more):=rfl;rw [zia,e];unfold zbP;simp only [List.headD_cons,List.tail_cons,zgu,List.length_cons,List.length_append,zch];rw [if_neg (by omega),if_neg (by omega),if_neg (by omega)];rw [if_neg]
 ·rw [List.take_append_of_le_length (by rw [zch];omega),List.take_of_length_le (by rw [zch];omega),zvo _ _ c.1 (zh8 _ c.2),iu n h]
 ·rintro⟨o,b⟩;obtain⟨k,a⟩:∃ k,zaD (uZ n)=k+1:=⟨zaD (uZ n) - 1,by omega⟩;have l:=zkU _ k a;have d:=zh8 (uZ n) c.2;rw [a,ztZ] at b;rw [a,Int.pow_succ] at d;simp only [List.cons_append,List.headD_cons] at b;have i:=zdk (uZ n / 256 ^ k);have g:=zc5 k;have q1:1<=uZ n / 256 ^ k:=by rw [Int.le_ediv_iff_mul_le g];omega
  have j:uZ n / 256 ^ k<256:=by rw [Int.ediv_lt_iff_lt_mul g];rw [Int.mul_comm];exact d
  rw [b,Int.emod_eq_of_lt (by omega) j] at i;omega
theorem zjq(bs:List UInt8)(n:Int)(k:Nat)(h:zbP bs=(n,k,0)):zrF n/\k<=bs.length/\bs.take k=zbj n:=by
 unfold zbP at h;by_cases q:bs.length=0
 ·rw [if_pos q] at h;simp at h
 rw [if_neg q] at h;by_cases o:8<(bs.headD 0).toNat
 ·rw [if_pos o] at h;simp at h
 rw [if_neg o] at h;by_cases g:bs.length<1+(bs.headD 0).toNat
 ·rw [if_pos g] at h;simp at h
 rw [if_neg g] at h;by_cases m:0<(bs.headD 0).toNat/\(bs.tail.headD 0).toNat=0
 ·rw [if_pos m] at h;simp at h
 rw [if_neg m] at h
 match bs,q with
 | b :: rest,_=>
  simp only [List.headD_cons,List.tail_cons,List.length_cons] at h o g m;simp only [Prod.mk.injEq] at h;obtain⟨s,x,_⟩:=h;have hl:(rest.take b.toNat).length=b.toNat:=by rw [List.length_take];omega
  have t:=zb2 (rest.take b.toNat);have r:=rd_lt (rest.take b.toNat);rw [hl] at r;have E:=zc6 (a:=b.toNat) (b:=8) (by omega);have A:=zgd.2.2.2.2.2.2.2.2;have p:uZ n=rd (rest.take b.toNat):=by rw [<-s];exact ui _ t (by omega)
  refine⟨by rw [<-s];exact i_in _,by simp only [List.length_cons];omega,?_⟩;subst x;have z:zaD (uZ n)=b.toNat:=by
   refine zoS _ _ (zh9 n).2 (by rw [p];exact r) ?_;intro j i;rw [p]
   match hrest:rest,i with
   | [],i=>simp at g;omega
   | c :: more,i=>
    simp only [List.headD_cons] at m;have hc:1<=c.toNat:=by omega
    rw [i,List.take_succ_cons];have:∀ (l:List UInt8) (a:Int),0<=a->a*256 ^ l.length<=l.foldl (fun u b=>u*256+(b.toNat:Int)) a:=by
     intro l
     induction l with
     | nil=>intro a _;simp
     | cons d l ih=>
      intro a B;have:=ih (a*256+(d.toNat:Int)) (by omega);simp only [List.length_cons,List.foldl_cons];refine Int.le_trans ?_ this;rw [Int.pow_succ,Int.add_mul];have D:0<=(d.toNat:Int)*256 ^ l.length:=Int.mul_nonneg (by omega) (Int.le_of_lt (zc5 _));rw [Int.mul_comm (256 ^ l.length) 256,<-Int.mul_assoc];omega
    have v:=this (more.take j) (c.toNat:Int) (by omega);have y:(more.take j).length=j:=by simp only [List.length_cons] at g;rw [List.length_take];omega
    rw [y] at v;have C:(1:Int)*256 ^ j<=(c.toNat:Int)*256 ^ j:=Int.mul_le_mul_of_nonneg_right (by omega) (Int.le_of_lt (zc5 j));show(256:Int) ^ j<=List.foldl (fun u b=>u*256+(b.toNat:Int)) (0*256+(c.toNat:Int)) (more.take j)
    rw [Int.zero_mul,Int.zero_add];omega
  rw [Nat.add_comm 1,List.take_succ_cons];unfold zbj zf6;rw [z,UInt8.ofNat_toNat,p];have:=zvp (rest.take b.toNat);rw [hl] at this;rw [this]
theorem zeZ(bs:List UInt8):((zbP bs).2.2=0/\1<=(zbP bs).2.1/\(zbP bs).2.1<=bs.length)\/((zbP bs).1=0/\(zbP bs).2.1=0/\((zbP bs).2.2=11\/(zbP bs).2.2=12)):=by
 unfold zbP;by_cases d:bs.length=0
 ·rw [if_pos d];simp
 rw [if_neg d];by_cases c:8<(bs.headD 0).toNat
 ·rw [if_pos c];simp
 rw [if_neg c];by_cases a:bs.length<1+(bs.headD 0).toNat
 ·rw [if_pos a];simp
 rw [if_neg a];by_cases b:0<(bs.headD 0).toNat/\(bs.tail.headD 0).toNat=0
 ·rw [if_pos b];simp
 rw [if_neg b]
 left
 refine⟨rfl,?_,?_⟩<;>simp only<;>omega
end Be
end
section
open Go.RowKit Mem Be
namespace Word
def M:Nat:=18446744073709551616
def U64(x:Nat):Prop:=x<18446744073709551616
def stepN(h c:Nat):Nat:=(h ^^^ c)*1099511628211 % 18446744073709551616
def zbE:Nat:=14695981039346656037
def ze0(h:Nat)(bs:List UInt8):Nat:=bs.foldl (fun h b=>stepN h b.toNat) h
def zew(h:Nat):Nat:=h / 4294967296 ^^^ h % 4294967296
theorem zt9(h c:Nat):U64 (stepN h c):=by unfold U64 stepN;exact Nat.mod_lt _ (by decide)
theorem mod_lt(x:Nat):U64 (x % 18446744073709551616):=by unfold U64;exact Nat.mod_lt _ (by decide)
theorem ze1:U64 zbE:=by unfold U64 zbE;decide
theorem zua(h:Nat)(b:UInt8):ze0 h [b]=stepN h b.toNat:=by unfold ze0;rw [List.foldl_cons,List.foldl_nil]
theorem zrL(h:Nat)(b:UInt8)(bs:List UInt8):ze0 h (b :: bs)=ze0 (stepN h b.toNat) bs:=by unfold ze0;rw [List.foldl_cons]
theorem zhD(h:Nat)(a:U64 h)(bs:List UInt8):U64 (ze0 h bs):=by
 induction bs generalizing h with
 | nil=>exact a
 | cons b bs ih=>rw [zrL];exact ih _ (zt9 _ _)
theorem zoT(h:Nat)(a b:List UInt8):ze0 h (a++b)=ze0 (ze0 h a) b:=List.foldl_append
theorem zmu(h:Nat)(bs:List UInt8)(k:Nat)(a:k<bs.length):ze0 h (bs.take (k+1))=stepN (ze0 h (bs.take k)) bs[k].toNat:=by
 rw [List.take_succ_eq_append_getElem a,zoT,zua]
theorem zub(h c:Nat)(hc:c<256):h ^^^ c=h - h % 256+(h % 256 ^^^ c):=by
 have g:h % 256 ^^^ c<2 ^ 8:=Nat.xor_lt_two_pow (by omega) (by omega);have e:h=2 ^ 8*(h / 256)+h % 256:=by
  have:(2:Nat) ^ 8=256:=by decide
  omega
 have l:=Nat.two_pow_add_eq_or_of_lt (i:=8) (b:=h % 256) (by omega) (h / 256);have d:=Nat.two_pow_add_eq_or_of_lt (i:=8) (b:=h % 256 ^^^ c) g (h / 256);have z:(2 ^ 8*(h / 256))&&& (h % 256)=0:=by
  apply Nat.eq_of_testBit_eq;intro i;rw [Nat.testBit_and,Nat.testBit_two_pow_mul];by_cases a:8<=i
  ·have:(h % 256).testBit i=false:=Nat.testBit_lt_two_pow (Nat.lt_of_lt_of_le (show h % 256<2 ^ 8 by omega) (Nat.pow_le_pow_right (by decide) a));simp [this]
  ·simp [a]
 have key:h ^^^ c=2 ^ 8*(h / 256)+(h % 256 ^^^ c):=by
  rw [d];apply Nat.eq_of_testBit_eq;intro i;rw [Nat.testBit_or,Nat.testBit_xor,Nat.testBit_xor,Nat.testBit_two_pow_mul];rw [show h % 256=h % 2 ^ 8 by rfl,Nat.testBit_mod_two_pow,show h / 256=h / 2 ^ 8 by rfl];by_cases a:8<=i
  ·have j:c.testBit i=false:=Nat.testBit_lt_two_pow (Nat.lt_of_lt_of_le (show c<2 ^ 8 by omega) (Nat.pow_le_pow_right (by decide) a));rw [<-Nat.shiftRight_eq_div_pow,Nat.testBit_shiftRight];simp [a,j,show ¬ i<8 by omega,show 8+(i - 8)=i by omega]
  ·simp [a,show i<8 by omega]
 rw [key];have:(2:Nat) ^ 8=256:=by decide
 omega
theorem zrM(h c:Nat)(hc:c<256)(x:Nat)(a:x=h - h % 256+(h % 256 ^^^ c)):(x*1099511627776 % 18446744073709551616+x*435 % 18446744073709551616) % 18446744073709551616=stepN h c:=by
 unfold stepN;rw [zub h c hc,<-a,<-Nat.add_mod,<-Nat.mul_add]
end Word
end
section
open Go.RowKit
namespace Mem
section
variable {P : Program} (w : World)
theorem zjr(base:Nat)(t ty e:TypeId)(i:TypeInfo)(ht:P.underlying t=some (.slice e))(b:P.info? e=some i)
 (v:Value) (n:Nat) (h:List Value) (j:w.ownsRow base e 1 v n h) (A:Option Addr) (c:Nat):(Builtin.append_ #[t,t] ty #[v,slice A 0 c]).run P w=.ok v w:=by
 rcases j.2 with⟨rfl,rfl⟩|⟨g,cap,k,rfl,_,_,d,_⟩<;>rcases A with _|a
 ·simp [Builtin.append_,run_underlying ht,sizeOf,typeInfo,b,Builtin.lenOf,Builtin.firstCells]
 ·simp [Builtin.append_,run_underlying ht,sizeOf,typeInfo,b,Builtin.lenOf,Builtin.firstCells,loadCells,loadCellsFrom]
 ·simp [Builtin.append_,run_underlying ht,sizeOf,typeInfo,b,Builtin.lenOf,Builtin.firstCells,d,storeCells]
 ·simp [Builtin.append_,run_underlying ht,sizeOf,typeInfo,b,Builtin.lenOf,Builtin.firstCells,d,storeCells,loadCells,loadCellsFrom]
theorem zoU(base:Nat)(t ty e:TypeId)(i:TypeInfo)(z:Value)(bytes:Nat)(ht:P.underlying t=some (.slice e))(l:P.info? e=some i)(s:i.zero=some z)
 (r:i.size=1) (F:i.bytes=bytes) (M:z.cells.size=1)
 (v:Value) (n:Nat) (g:List Value) (h:w.ownsRow base e 1 v n g)
 (B:Nat) (A:Option Addr) (m c:Nat) (a:List Value) (hl:a.length=m) (D:Row w B A a) (I:∀ u∈a,u.oneCell'=true)
 (y:n+m<=maxLen) (J:(n+m)*bytes<=140737488355328) (q:base<=w.heap.size) :
 ∃ d w',(Builtin.append_ #[t,t] ty #[v,slice A m c]).run P w=.ok d w'/\w'.ownsRow base e 1 d (n+m) (g++a)/\w.grownBy w' v.ownBlock/\
  (d.ownBlock=v.ownBlock\/d.ownBlock=some w.heap.size):=by
 rcases Nat.eq_zero_or_pos m with k|k
 ·subst k;obtain rfl:a=[]:=List.eq_nil_of_length_eq_zero hl;exact⟨v,w,zjr w base t ty e i ht l v n g h A c,by simpa using h,⟨rfl,rfl,rfl,Nat.le_refl _,fun _ _ _=>rfl⟩,Or.inl rfl⟩
 ·obtain⟨b,o,rfl,_,hc⟩:=D.open_ (by omega);have E:∀ j u,a[j]?=some u->w.cell? ((⟨b,o,none⟩:Addr).add j)=some u:=by
   intro j u x;obtain⟨p,e⟩:=List.getElem?_eq_some_iff.1 x;have:=hc j p;rw [<-e,<-this];unfold Addr.add;split
   ·subst_vars;rfl
   ·rfl
  obtain⟨d,w',C,K,G,_,L⟩:=run_append_own_at (P:=P) w base t ty e i z 1 bytes ht l s r F M (by decide) v n g h ⟨b,o,none⟩ m c a (by omega) E I y J q;exact⟨d,w',C,K,G,L⟩
theorem zan{j:Array Oper}{rest:List Oper}{o:Oper}{a:Act}{Q:Exit->Act->World->Prop}(G:o.guard=none)(s x:Operand)(t:TypeId)
 (J:o.op=.call {callee:=.builtin .append,args:=#[s,x],argTypes:=#[t,t]})
 (base:Nat) (e:TypeId) (i:TypeInfo) (z:Value) (bytes:Nat) (ht:P.underlying t=some (.slice e)) (T:P.info? e=some i) (p:i.zero=some z)
 (l:i.size=1) (E:i.bytes=bytes) (R:z.cells.size=1)
 (v:Value) (n:Nat) (g:List Value) (q:a.eval s=v) (C:w.ownsRow base e 1 v n g)
 (B:Nat) (A:Option Addr) (m c:Nat) (d:List Value) (O:a.eval x=slice A m c) (hl:d.length=m) (D:Row w B A d) (L:∀ u∈d,u.oneCell'=true)
 (r:n+m<=maxLen) (M:(n+m)*bytes<=140737488355328) (k:base<=w.heap.size)
 (h:∀ b w',w'.ownsRow base e 1 b (n+m) (g++d)->w.grownBy w' v.ownBlock->(b.ownBlock=v.ownBlock\/b.ownBlock=some w.heap.size)->wpList P j Q rest (a.put o.dst b) w') :
 wpList P j Q (o :: rest) a w:=by
 refine wpList_plain G fun K I=>?_;obtain⟨b,w',S,y,N,F⟩:=zoU (P:=P) w base t o.type e i z bytes ht T p l E R v n g C B A m c d hl D L r M k;unfold Oper.wp execOp;simp only [J,resolve,invoke,builtin,Sem.run_bind,Sem.run_pure,Result.andThen_ok,List.map_toArray,List.map_cons,List.map_nil,q,O,S];exact I _ _ (h b w' y N F)
theorem zrN{j:Array Oper}{o:Oper}{a:Act}{K:Act->World->Prop}{Q:Exit->Act->World->Prop}{E:Prop}(J:o.guard=none)(s x:Operand)(t:TypeId)
 (L:o.op=.call {callee:=.builtin .append,args:=#[s,x],argTypes:=#[t,t]})
 (base:Nat) (e:TypeId) (i:TypeInfo) (z:Value) (bytes:Nat) (ht:P.underlying t=some (.slice e)) (U:P.info? e=some i) (p:i.zero=some z)
 (l:i.size=1) (G:i.bytes=bytes) (S:z.cells.size=1)
 (v:Value) (n:Nat) (g:List Value) (q:a.eval s=v) (C:w.ownsRow base e 1 v n g)
 (B:Nat) (A:Option Addr) (m c:Nat) (d:List Value) (R:a.eval x=slice A m c) (hl:d.length=m) (D:Row w B A d) (M:∀ u∈d,u.oneCell'=true)
 (r:n+m<=maxLen) (N:(n+m)*bytes<=140737488355328) (k:base<=w.heap.size)
 (h:∀ b w',w'.ownsRow base e 1 b (n+m) (g++d)->w.grownBy w' v.ownBlock->(b.ownBlock=v.ownBlock\/b.ownBlock=some w.heap.size)->K (a.put o.dst b) w') :
 if Region.wanted o (yielded j a.tmps)=true then Oper.wp P o a w K Q else E:=by
 have F:Region.wanted o (yielded j a.tmps)=true:=by simp [Region.wanted,J]
 rw [if_pos F];obtain⟨b,w',T,y,O,I⟩:=zoU (P:=P) w base t o.type e i z bytes ht U p l G S v n g C B A m c d hl D M r N k;unfold Oper.wp execOp;simp only [L,resolve,invoke,builtin,Sem.run_bind,Sem.run_pure,Result.andThen_ok,List.map_toArray,List.map_cons,List.map_nil,q,R,T];exact h b w' y O I
end
theorem zaH(bs:List UInt8):∀ u∈bs.map zaa,u.oneCell'=true:=by
 intro u a;obtain⟨b,_,rfl⟩:=List.mem_map.1 a;rfl
def Blk(w:World)(g:Nat)(t:TypeId)(cs:Array Value):Prop:=w.heap[g]?=some (.cells cs t (0,0))
section
variable {w w' : World} {g : Nat} {t : TypeId} {cs : Array Value}
theorem Blk.lt(h:Blk w g t cs):g<w.heap.size:=(Array.getElem?_eq_some_iff.1 h).1
theorem Blk.cell(h:Blk w g t cs)(i:Nat):w.cell? ⟨g,i,none⟩=cs[i]?:=cell_of_row w g i cs t (0,0) h
theorem Blk.frozen(h:Blk w g t cs)(i:Nat):w.frozen? ⟨g,i,none⟩=false:=by
 unfold Blk at h;simp [World.frozen?,h]
theorem Blk.new(w:World)(t:TypeId)(cs:Array Value):Blk (w.alloc (.cells cs t)) w.heap.size t cs:=heap_alloc_new w _
theorem Blk.drew(h:Blk w g t cs):Blk w.drew g t cs:=h
theorem Blk.drewN(h:Blk w g t cs)(n:Nat):Blk (w.drewN n) g t cs:=h
theorem Blk.alloc(h:Blk w g t cs)(o:Obj):Blk (w.alloc o) g t cs:=(Below.heap_alloc w o g h.lt).trans h
theorem Blk.set_(h:Blk w g t cs)(i:Nat)(u:Value):Blk (w.setCell ⟨g,i,none⟩ u) g t (cs.setIfInBounds i u):=by
 unfold Blk at h ⊢;simp [World.setCell,Array.getElem?_modify,h]
theorem Blk.far(h:Blk w g t cs){p:Addr}(hp:g≠p.block)(u:Value):Blk (w.setCell p u) g t cs:=(Below.heap_setCell w p u g hp).trans h
theorem Blk.below{B:Nat}(h:Blk w g t cs)(hb:Below B w w')(hg:g<B):Blk w' g t cs:=(hb.block g hg).trans h
theorem Blk.grown{row:Option Nat}(h:Blk w g t cs)(hb:w.grownBy w' row)(hg:some g≠row):Blk w' g t cs:=(hb.block g h.lt hg).trans h
theorem Blk.ne_{g':Nat}{t':TypeId}{cs':Array Value}(h:Blk w g t cs)(h':Blk w g' t' cs')(hne:t≠t'):g≠g':=by
 rintro rfl;unfold Blk at h h';rw [h] at h';injection h' with h';injection h' with _ ht;exact hne ht
end
theorem zaf{w w1 d:World}{g:Option Nat}(a:w.grownBy w1 g)(b:w1.grownBy d g):w.grownBy d g:=
 ⟨b.os.trans a.os,b.tape.trans a.tape,b.output.trans a.output,Nat.le_trans a.size b.size,fun k c hne=>(b.block k (Nat.lt_of_lt_of_le c a.size) hne).trans (a.block k c hne)⟩
theorem zdl(w:World)(g:Option Nat):w.grownBy w g:=⟨rfl,rfl,rfl,Nat.le_refl _,fun _ _ _=>rfl⟩
theorem zap(w:World)(g i:Nat)(u:Value):w.grownBy (w.setCell ⟨g,i,none⟩ u) (some g):=
 ⟨rfl,rfl,rfl,by simp [World.setCell],fun k _ hne=>Below.heap_setCell w _ u k (fun e=>hne (by rw [e]))⟩
theorem zbQ{w w':World}{B:Nat}(h:Below B w w')(a:w.heap.size<=B)(g:Option Nat):w.grownBy w' g:=
 ⟨h.os,h.tape,h.output,h.size,fun k b _=>h.block k (by omega)⟩
theorem zcT{b w w':World}{B g:Nat}(h:Below B b w)(d:w.grownBy w' (some g))(c:B<=w.heap.size)(i:B<=g):Below B b w':=
 h.grown d c (fun k a=>by injection a with a;omega)
theorem Row.grown{w w':World}{B g:Nat}{A:Option Addr}{xs:List Value}(h:Row w B A xs)(hg:w.grownBy w' (some g))(hB:B<=w.heap.size)(hBg:B<=g):Row w' B A xs:=
 h.keep fun p hp=>World.cell?_of_block (hg.block p.block (by omega) (fun e=>by injection e with e;omega))
theorem Row.grownBy{w w':World}{B:Nat}{row:Option Nat}{A:Option Addr}{xs:List Value}(h:Row w B A xs)(hg:w.grownBy w' row)(hB:B<=w.heap.size)(hr:∀ g,row=some g->B<=g):Row w' B A xs:=
 h.keep fun p hp=>World.cell?_of_block (hg.block p.block (by omega) (fun e=>by have:=hr _ e.symm;omega))
end Mem
end
section
open Go.RowKit Mem
namespace Mem
def zc7(A:Option Addr)(k c:Nat):Option Addr:=if c=k then A else A.map (·.add k)
theorem zoV(a:Addr):a.add 0=a:=by simp [Addr.add]
theorem zoW(A:Option Addr)(c:Nat):zc7 A 0 c=A:=by
 unfold zc7;split
 ·rfl
 ·cases A<;>simp [zoV]
theorem zjs(b o k c:Nat)(h:k<c):zc7 (some ⟨b,o,none⟩) k c=some ⟨b,o+k,none⟩:=by
 unfold zc7;rw [if_neg (by omega)];show some ((⟨b,o,none⟩:Addr).add k)=_
 unfold Addr.add;split
 ·subst_vars;rfl
 ·rfl
theorem zde{w:World}{B:Nat}{A:Option Addr}{a:List Value}(h:Row w B A a)(k c:Nat)(hc:a.length<=c):Row w B (zc7 A k c) (a.drop k):=by
 rcases Nat.lt_or_ge k a.length with d|d
 ·obtain⟨b,o,rfl,l,i⟩:=h.open_ (by omega);rw [zjs b o k c (by omega)];refine Or.inr ⟨b,o+k,rfl,l,fun j g=>?_⟩;rw [List.length_drop] at g;have:=i (k+j) (by omega);rw [Nat.add_assoc,this,List.getElem_drop]
 ·rw [List.drop_of_length_le d];exact Row.nil _ _ _
theorem zby{w:World}{B:Nat}{A:Option Addr}{a:List Value}(h:Row w B A a)(k:Nat):Row w B A (a.take k):=by
 rcases h with h|⟨b,o,e,d,hc⟩
 ·rw [h];exact Or.inl (by simp)
 ·refine Or.inr ⟨b,o,e,d,fun j c=>?_⟩;rw [List.length_take] at c;rw [hc j (by omega),List.getElem_take]
section
variable {P : Program} {w : World} (t e : TypeId) (z : Value) (bytes : Nat) (ht : P.underlying t = some (.slice e)) (hinfo : (P.info? e).map (fun i => (i.zero, i.size, i.bytes)) = some (some z, 1, bytes))
include ht hinfo
theorem zdm(A:Option Addr)(n c k:Nat)(h:k<=n):(Instr.slice t (slice A n c) (some (int .i64 (k:Int))) none none).run P w=.ok (slice (zc7 A k c) (n - k) (c - k)) w:=by
 obtain⟨i,d,a⟩:=Option.map_eq_some_iff.1 hinfo;simp only [Prod.mk.injEq] at a;obtain⟨_,b,_⟩:=a;simp [Instr.slice,run_underlying ht,Instr.sliceBounds,Instr.sliceBound,asIntOf,sizeOf,typeInfo,d,b,zc7,h]
theorem zbk(A:Option Addr)(n c k:Nat)(h:k<=c):(Instr.slice t (slice A n c) none (some (int .i64 (k:Int))) none).run P w=.ok (slice A k c) w:=by
 obtain⟨i,d,a⟩:=Option.map_eq_some_iff.1 hinfo;simp only [Prod.mk.injEq] at a;obtain⟨_,g,_⟩:=a;have b:(if c=0 then A else Option.map (fun x=>x.add 0) A)=A:=zoW A c;simp [Instr.slice,run_underlying ht,Instr.sliceBounds,Instr.sliceBound,asIntOf,sizeOf,typeInfo,d,h];simpa using b
theorem zcj(A:Option Addr)(n c k m:Nat)(h:k<=m)(b:m<=c):(Instr.slice t (slice A n c) (some (int .i64 (k:Int))) (some (int .i64 (m:Int))) none).run P w=.ok (slice (zc7 A k c) (m - k) (c - k)) w:=by
 obtain⟨i,g,a⟩:=Option.map_eq_some_iff.1 hinfo;simp only [Prod.mk.injEq] at a;obtain⟨_,d,_⟩:=a;simp [Instr.slice,run_underlying ht,Instr.sliceBounds,Instr.sliceBound,asIntOf,sizeOf,typeInfo,g,d,zc7,h,b]
end
end Mem
theorem zmv(B B' c c' n g:Nat)(A i:Option Addr)(b a:List UInt8)(w:World)(h:Row w B A (b.map zaa))(d:Row w B' i (a.map zaa))(j:n=b.length)(k:g=a.length) :
 Calls Tryz.prog 29 #[slice A n c,slice i g c'] w fun e w'=>e=.returned (.bool (b==a))/\w=w':=by
 subst j;subst k;have l:=zgc (P:=Tryz.prog) c 27 9 5 Tryz.underlying27 Tryz.underlying5 Tryz.underlying9 h;have m:=zgc (P:=Tryz.prog) c' 27 9 5 Tryz.underlying27 Tryz.underlying5 Tryz.underlying9 d;clear h d;go_enter Tryz.func29,Tryz.ntmps29
 go_wp2;go_ret;exact⟨rfl,rfl⟩
end
section
open Go.RowKit Mem
theorem zaB:(Tryz.prog.info? 5).map (fun i=>(i.zero,i.size,i.bytes))=some (some (int .u8 0),1,1):=by kernel_rfl
def zex(B:Nat)(bs:List UInt8)(w:World)(e:Ending)(w':World):Prop:=∃ A c,e=.returned (slice A bs.length c)/\w'.ownsRow B 5 1 (slice A bs.length c) bs.length (bs.map zaa)/\Below B w w'
theorem zbR{w:World}{B:Nat}{e:TypeId}{A:Option Addr}{n m c:Nat}{d:List Value}(h:w.ownsRow B e 1 (slice A m c) n d):m<=c/\c<=maxLen:=by
 rcases h.2 with⟨a,j⟩|⟨g,cap,i,a,_,_,hc,b,_⟩
 ·injection a with _ h1 h2;subst h1;subst h2;exact⟨Nat.le_refl _,by unfold maxLen;omega⟩
 ·injection a with _ h1 h2;subst h1;subst h2;exact⟨hc,b⟩
theorem zck{B:Nat}{bs:List UInt8}{n:Nat}{w w1:World}{v:Value}{c:List Value}(a:w1.ownsRow B 5 1 v n c)(d:c=bs.map zaa)(h:Below B w w1):zex B bs w (.returned v) w1:=by
 have b:n=bs.length:=by have:=a.1;rw [d] at this;simp at this;exact this.symm
 subst b;subst d;rcases a.2 with⟨rfl,b⟩|⟨g,cap,i,rfl,_⟩
 ·rw [b] at a;refine⟨none,0,by rw [b],?_,h⟩;rw [b];exact a
 ·exact⟨_,cap,rfl,a,h⟩
theorem zoX(w:World):(w.alloc (.cells #[] 5)).ownsRow w.heap.size 5 1 (slice (some ⟨w.heap.size,0,none⟩) 0 0) 0 []:=
 World.ownsRow_made w #[] 0 (Nat.le_refl _) (by unfold maxLen;omega) rfl
theorem zoY(A:Option Addr)(n c:Nat)(W:World):(binOp .eql 27 (slice A n c) (slice none 0 0)).run Tryz.prog W=.ok (.bool A.isNone) W:=
 Lib.run_eql_slice_nil W 27 5 A n c 0 0 Tryz.underlying27
theorem za4(B c:Nat)(A:Option Addr)(bs:List UInt8)(n:Nat)(y:n=bs.length)(w:World)(h:Row w B A (bs.map zaa))(j:B<=w.heap.size)(hl:bs.length<=140737488355328) :
 Calls Tryz.prog 71 #[slice A n c] w (zex w.heap.size bs w):=by
 subst y;obtain⟨p,l,t,m,k⟩:=info_parts zaB;rcases A with _|a
 ·have u:bs=[]:=by
   rcases h with h|⟨b,o,e,_⟩
   ·simpa using h
   ·cases e
  subst u;clear h;have v:=zoY none 0 c;go_enter Tryz.func71,Tryz.ntmps71
  go_wp2;go_ret;exact⟨none,0,rfl,World.ownsRow_nil _ _ _ _,Below.refl _ _⟩
 ·have q:=Lib.hid (h.alloc j (.cells #[] 5));have s:=Lib.hid (zoX w);clear h;have v:=zoY (some a) bs.length c;go_enter Tryz.func71,Tryz.ntmps71
  go_wp2_with (at_builtin;refine zan _ rfl _ _ 27 rfl w.heap.size 5 p (int .u8 0) 1 Tryz.underlying27 l t m k rfl _ 0 [] rfl s.out B _ bs.length c (bs.map zaa) rfl (by simp) q.out (zaH bs) (by unfold maxLen;omega) (by omega) (by simp) ?_)
  intro z w1 i d _;have x:=Lib.hid i;have r:Hid (Below w.heap.size w w1):=Lib.hid ((zbl).grown d (by simp) (fun g d=>by simp [Value.ownBlock] at d;omega));clear i d;go_wp2;go_ret;exact zck x.out (by simp) r.out
end
section
open Go.RowKit Go.ChangeShapes Go.Deep Go.WideShapes
namespace Mem
theorem zkV{α:Type}{f:α->Value}{Q:α->Prop}:∀ b:List Value,(∀ v∈b,∃ x,v=f x/\Q x)->∃ a:List α,b=a.map f/\∀ x∈a,Q x
 | [],_=>⟨[],rfl,by simp⟩
 | v :: b,h=>by
  obtain⟨x,rfl,hx⟩:=h v (by simp);obtain⟨a,rfl,d⟩:=zkV b (fun u c=>h u (by simp [c]));exact⟨x :: a,rfl,by simpa using ⟨hx,d⟩⟩
section
variable {H : Type} {enc : TypeId × Value → H} {P : Program} {w : World} {base : Nat} {held : Bool}
theorem zjt{t e:TypeId}{fuel:Nat}{a:Option Addr}{len cap:Nat}{x:DataW H×List MemPlace}(ht:P.underlying t=some (.slice e))(hc:P.cellsOf e=1)
 (h:DataW.trod enc P w base (fun _=>true) held fuel t [slice a len cap]=some x) :
 ∃ k:List Value,len=k.length/\Row w w.heap.size a k/\len<=cap/\cap<=maxLen/\∀ v∈k,∃ n y,DataW.trod enc P w base (fun _=>true) held n e [v]=some y:=by
 rcases open_slice1 ht hc h with⟨d,_⟩|⟨x,l,c,m,n,V,D,B,d,_,hl,A,q,_,i⟩
 ·simp only [List.cons.injEq,and_true] at d;injection d with h1 h2 h3;subst h1;subst h2;subst h3;exact⟨[],rfl,Row.nil _ _ _,Nat.le_refl _,by unfold maxLen;omega,by simp⟩
 ·simp only [List.cons.injEq,and_true] at d;injection d with h1 h2 h3;subst h1;subst h2;subst h3;simp only [if_true] at q;subst q;refine⟨(List.range len).map V,by simp,?_,hl,A,?_⟩
  ·rcases Nat.eq_zero_or_pos len with r|r
   ·subst r;exact Or.inl rfl
   ·have p:=(i 0 (by omega)).1;obtain⟨b,o,u⟩:=x;have z:u=none:=by simpa [Addr.add] using World.cell?_spot p
    subst z;refine Or.inr ⟨b,o,rfl,?_,fun j g=>?_⟩
    ·have:=zaq p;simpa [Addr.add] using this
    ·simp only [List.length_map,List.length_range] at g;have:=(i j (by omega)).1;have e:(⟨b,o,none⟩:Addr).add j=⟨b,o+j,none⟩:=by
      unfold Addr.add;split
      ·subst_vars;rfl
      ·rfl
     rw [e] at this;rw [this,List.getElem_map,List.getElem_range]
  ·intro v s;obtain⟨j,g,rfl⟩:=List.mem_map.1 s;have C:=List.mem_range.1 g;exact⟨n,_,(i j (by omega)).2⟩
abbrev zb3:=Option Addr×List UInt8×Nat
def zbN(r:zb3):Value:=slice r.1 r.2.1.length r.2.2
def znu(w:World)(B:Nat)(r:zb3):Prop:=Row w B r.1 (r.2.1.map zaa)/\r.2.1.length<=r.2.2/\r.2.2<=maxLen
theorem zkW{t e:TypeId}{fuel:Nat}{v:Value}{x:DataW H×List MemPlace}(ht:P.underlying t=some (.slice e))(k:P.underlying e=some (.int .u8))(hc:P.cellsOf e=1)
 (h:DataW.trod enc P w base (fun _=>true) held fuel t [v]=some x):∃ r:zb3,v=zbN r/\znu w w.heap.size r:=by
 have i:∃ a len cap,v=slice a len cap:=by
  rcases DataW.trod_slice ht h with⟨d,_⟩|⟨a,len,cap,_,_,_,_,d,_⟩
  ·exact⟨none,0,0,by simpa using d⟩
  ·exact⟨some a,len,cap,by simpa using d⟩
 obtain⟨a,len,cap,rfl⟩:=i;obtain⟨B,hl,o,C,l,q⟩:=zjt ht hc h;obtain⟨c,rfl,j⟩:=zkV (f:=Value.int .u8) (Q:=fun z=>(Lit.int .u8 z).wf=true) B (fun v u=>by
  obtain⟨n,y,s⟩:=q v u;obtain⟨b,A,_,p⟩:=DataW.trod_int k s;exact⟨b,by simpa using A,p⟩)
 have g:(c.map fun n=>UInt8.ofNat n.toNat).map zaa=c.map (Value.int .u8):=by
  rw [List.map_map];apply List.map_congr_left;intro n m;have:=bounds_u8 (j n m);show Value.int .u8 ((UInt8.ofNat n.toNat).toNat:Int)=_
  congr 1
  rw [UInt8.toNat_ofNat'];omega
 refine⟨(a,c.map fun n=>UInt8.ofNat n.toNat,cap),?_,?_,?_,l⟩
 ·unfold zbN;simp only [List.length_map];rw [hl];simp
 ·show Row w w.heap.size a _;rw [g];exact o
 ·simp only [List.length_map];simp at hl;omega
end
theorem znu.below{w w':World}{B:Nat}{r:zb3}(h:znu w B r)(hb:Below B w w'):znu w' B r:=⟨h.1.below hb,h.2⟩
end Mem
end
section
open Go.RowKit Mem
def kb(s:ByteArray):List UInt8:=s.data.toList
theorem zc8(s:ByteArray):(kb s).length=s.size:=by unfold kb;rw [Array.length_toList];rfl
theorem zrO(a:List UInt8):kb ⟨a.toArray⟩=a:=by simp [kb]
theorem zib(w:World)(e:TypeId)(s:ByteArray):Row (Lib.bytesWorld w e s) (w.heap.size+1) (some ⟨w.heap.size,0,none⟩) ((kb s).map zaa):=by
 refine Or.inr ⟨w.heap.size,0,rfl,by omega,fun j a=>?_⟩;have b:j<s.size:=by rw [List.length_map,zc8] at a;exact a
 have c:j<(kb s).length:=by rw [zc8];exact b
 rw [Nat.zero_add,Lib.bytesWorld_cell w e s j b,List.getElem_map];have:s.data.toList.getD j 0=(kb s)[j]:=by
  show(kb s).getD j 0=_
  rw [List.getD_eq_getElem?_getD,List.getElem?_eq_getElem c];rfl
 rw [this];rfl
theorem zkX(w:World)(e:TypeId)(s:ByteArray):Below w.heap.size w (Lib.bytesWorld w e s):=by
 refine⟨?_,?_,?_,by rw [Lib.bytesWorld_size];omega,fun k a=>Lib.bytesWorld_at_old w e s k a⟩
 all_goals (simp [Lib.bytesWorld,World.freeze,World.alloc,World.drew,-World.alloc_eq,-World.drew_eq])
theorem zdD{P:Program}(w:World){d:Array Oper}{rest:List Oper}{o:Oper}{a:Act}{Q:Exit->Act->World->Prop}(g:o.guard=none)(x:Operand)(b dst e:TypeId)
 (j:o.op=.convert b dst x) (s:ByteArray) (l:a.eval x=.string s) (m:P.underlying b=some .string) (k:P.underlying dst=some (.slice e)) (p:P.underlying e=some (.int .u8))
 (h:∀ A c w',Row w' w'.heap.size A ((kb s).map zaa)->Below w.heap.size w w'->s.size<=c->wpList P d Q rest (a.put o.dst (slice A s.size c)) w'):wpList P d Q (o :: rest) a w:=by
 refine wpList_plain g fun K i=>?_;unfold Oper.wp execOp;have q:=Lib.run_convert_string_bytes w b dst e s m k p;simp only [j,l,Sem.run_bind,q,Result.andThen_ok,Sem.run_pure];refine i _ _ (h _ _ _ ?_ (zkX w e s) (grownCap_ge w s.size 0 e));rw [Lib.bytesWorld_size];exact zib w e s
def zbi(rs:List zb3):List UInt8:=rs.flatMap (fun r=>r.2.1)
theorem zdV(rs:List zb3)(k:Nat)(h:k<rs.length):zbi (rs.take (k+1))=zbi (rs.take k)++rs[k].2.1:=by
 unfold zbi;rw [List.take_succ_eq_append_getElem h,List.flatMap_append];simp
theorem zic(rs:List zb3)(k:Nat):(zbi (rs.take k)).length<=(zbi rs).length:=by
 have:zbi rs=zbi (rs.take k)++zbi (rs.drop k):=by unfold zbi;rw [<-List.flatMap_append,List.take_append_drop]
 rw [this,List.length_append];omega
theorem za5{w w':World}{B n:Nat}{e:TypeId}{v:Value}{a:List Value}(h:w.ownsRow B e 1 v n a)(b:Below w.heap.size w w'):w'.ownsRow B e 1 v n a:=
 h.kept (zbQ b (Nat.le_refl _) none) (Classical.em _)
def zdT(w:World)(rs:List zb3):Prop:=∀ r∈rs,Row w w.heap.size r.1 (r.2.1.map zaa)
theorem zge(w:World):zdT w []:=fun r h=>by cases h
theorem zfv{w w':World}{rs:List zb3}(h:zdT w rs)(a:Below w.heap.size w w'):zdT w' rs:=fun r b=>((h r b).below a).more a.size
theorem zcu{w w':World}{rs:List zb3}{B:Nat}{A:Option Addr}{a:List UInt8}{c:Nat}(h:zdT w rs)(d:Below w.heap.size w w')(g:w'.ownsRow B 5 1 (slice A a.length c) a.length (a.map zaa)):zdT w' (rs++[(A,a,c)]):=fun r b=>by
 rcases List.mem_append.1 b with b|b
 ·exact zfv h d r b
 ·have:r=(A,a,c):=by simpa using b
  subst this;exact Row.of_own g
theorem zcl{w:World}{rs:List zb3}(h:zdT w rs)(o:Obj):zdT (w.alloc o) rs:=zfv h (zbl)
theorem zbs{w:World}{t:TypeId}{a:Array Value}{b:List Value}(h:a.toList=b):Row (w.alloc (.cells a t)) (w.heap.size+1) (some ⟨w.heap.size,0,none⟩) b:=by
 refine Or.inr ⟨w.heap.size,0,rfl,by omega,fun j c=>?_⟩;have:=cell_of_row (w.alloc (.cells a t)) w.heap.size j a t (0,0) (heap_alloc_new w _);rw [Nat.zero_add,this];subst h;simp
theorem zju{w:World}{rs a:List zb3}(h:zdT w rs)(c:∀ r∈a,r∈rs):zdT w a:=fun r b=>h r (c r b)
theorem zoZ{w:World}{rs:List zb3}(h:zdT w rs):zdT w (rs++[(none,[],0)]):=fun r a=>by
 rcases List.mem_append.1 a with a|a
 ·exact h r a
 ·have:r=(none,[],0):=by simpa using a
  subst this;exact Row.nil _ _ _
end
section
open Go.RowKit Mem
structure Later (w:World) where
 world:World
 bel:Below w.heap.size w world
theorem zas{P:Program}{id:Nat}{Q:Exit->Act->World->Prop}{a:Act}{w:World}{l:List Oper}(d:P.follows .mixedOrders=true)(b:Region.lexB .any l.toArray=true)
 (h:wpQuiet P l.toArray (fun w'=>∃ p:Later w,w'=p.world) (fun c=>∀ w',(∃ p:Later w,w'=p.world)->Q .normal c w') l a):(Code.region id l.toArray true).wp P Q a w:=
 wp_region_quiet (C:=fun w'=>∃ p:Later w,w'=p.world) d b ⟨⟨w.drew,(Below.refl _ _).drew⟩,rfl⟩ (by simpa using h)
theorem zab{w:World}{b o:Nat}{v:Value}(h:w.cell? ⟨b,o,none⟩=some v):∀ p:Later w,p.world.cell? ⟨b,o,none⟩=some v:=fun p=>
 (p.bel.cell (p:=⟨b,o,none⟩) (zaq h)).trans h
theorem zo0{w:World}{g:Nat}{t:TypeId}{a:Array Value}(h:Blk w g t a)(p:Later w):Blk p.world g t a:=h.below p.bel h.lt
theorem zae{w:World}{g:Nat}{t:TypeId}{a:Array Value}(h:Blk w g t a)(i:Nat)(v:Value)(b:a[i]?=some v):∀ p:Later w,p.world.cell? ⟨g,i,none⟩=some v:=fun p=>
 ((zo0 h p).cell i).trans b
theorem za7{P:Program}{f:FuncId}{args:Array Value}{w:World}{p:Later w}{v:Value}
 (h:Calls P f args p.world fun e w'=>e=.returned v/\Below p.world.heap.size p.world w'):Calls P f args p.world fun e a=>e=.returned v/\∃ q:Later w,a=q.world:=
 h.mono fun _ _ ⟨he,hb⟩=>⟨he,⟨_,p.bel.trans (hb.mono p.bel.size)⟩,rfl⟩
theorem zef{P:Program}{f:FuncId}{args:Array Value}{w:World}{p:Later w}{v:Value}
 (h:Calls P f args p.world fun e w'=>e=.returned v/\p.world=w'):Calls P f args p.world fun e a=>e=.returned v/\∃ q:Later w,a=q.world:=
 h.mono fun _ _ ⟨he,hb⟩=>⟨he,p,hb.symm⟩
theorem zdE{W w1:World}(a:Below W.heap.size W w1):(∀ b o,b<W.heap.size->w1.cell? ⟨b,o,none⟩=W.cell? ⟨b,o,none⟩)/\(∀ b o,b<W.heap.size->w1.frozen? ⟨b,o,none⟩=W.frozen? ⟨b,o,none⟩):=
 ⟨fun b o h=>a.cell (p:=⟨b,o,none⟩) h,fun b o h=>a.frozen (p:=⟨b,o,none⟩) h⟩
theorem zad{w w':World}{B g:Nat}(h:Below B w w')(a:B<=g)(i:Nat)(u:Value):Below B w (w'.setCell ⟨g,i,none⟩ u):=h.setCell (p:=⟨g,i,none⟩) a u
theorem zax{w a:World}{b:Obj}(c:Below (w.alloc b).heap.size (w.alloc b) a):Below w.heap.size w a:=
 (zbl).trans (c.mono (by simp))
theorem zfS{w c:World}{a b:Obj}(d:Below ((w.alloc a).alloc b).heap.size ((w.alloc a).alloc b) c):Below w.heap.size w c:=zax (zax d)
theorem zdW{w d:World}{a b c:Obj}(g:Below (((w.alloc a).alloc b).alloc c).heap.size (((w.alloc a).alloc b).alloc c) d):Below w.heap.size w d:=zfS (zax g)
end
section
open Go.RowKit Mem
theorem zaz{w:World}{B B' s:Nat}{e:TypeId}{v:Value}{n:Nat}{b:List Value}(h:w.ownsRow B e s v n b)(j:B'<=B):w.ownsRow B' e s v n b:=by
 obtain⟨c,a⟩:=h;refine⟨c,?_⟩;rcases a with a|⟨g,cap,d,i,k,r⟩
 ·exact Or.inl a
 ·exact Or.inr ⟨g,cap,d,i,by omega,r⟩
theorem zag{w w':World}{B s n:Nat}{e:TypeId}{v:Value}{a:List Value}(h:w.ownsRow B e s v n a)(b:Below w.heap.size w w'):w'.ownsRow B e s v n a:=
 h.kept (zbQ b (Nat.le_refl _) none) (Classical.em _)
theorem zcz{w:World}{base s:Nat}{e:TypeId}{A:Option Addr}{n c:Nat}{a:List Value}(h:w.ownsRow base e s (slice A n c) n a):Row w w.heap.size A a:=by
 have hl:=h.1;rcases h.2 with⟨_,p⟩|⟨g,cap,q,d,_,b,_⟩
 ·refine Or.inl (List.eq_nil_of_length_eq_zero ?_);rw [hl,p,Nat.zero_mul]
 ·have o:A=some ⟨g,0,none⟩:=by injection d
  subst o;refine Or.inr ⟨g,0,rfl,?_,fun j i=>?_⟩
  ·rcases Nat.lt_or_ge g w.heap.size with k|l
   ·exact k
   ·rw [Array.getElem?_eq_none l] at b;cases b
  ·have m:Value.slice (some ⟨g,0,none⟩) n c=Value.slice (some ⟨g,0,none⟩) n cap:=d;rw [m] at h;have:=h.cellAt j (by omega);rw [Nat.zero_add,this,List.getElem?_eq_getElem i]
theorem zat{w:World}{base s:Nat}{e:TypeId}{v:Value}{n:Nat}{a:List Value}(h:w.ownsRow base e s v n a):∃ A c,v=slice A n c/\n<=c/\c<=maxLen:=by
 rcases h.2 with⟨rfl,rfl⟩|⟨g,cap,j,rfl,i,d,hc,b,_⟩
 ·exact⟨none,0,rfl,Nat.le_refl _,by unfold maxLen;omega⟩
 ·exact⟨_,cap,rfl,hc,b⟩
end
section
open Go.RowKit Mem
def zwI(w:World)(e:Ending)(w':World):Prop:=∃ A c,e=.returned (slice A 0 c)/\w'.ownsRow w.heap.size 5 1 (slice A 0 c) 0 []/\Below w.heap.size w w'
theorem zrP(n:Nat)(r:n<=1073741824)(w:World):Calls Tryz.prog 84 #[slice none 0 0,int .i64 n] w (zwI w):=by
 obtain⟨i,g,j,h,d⟩:=info_parts zaB;have o:(n:Int)<=1073741824:=by omega
 rcases Nat.eq_zero_or_pos n with a|a
 ·subst a;go_enter Tryz.func84,Tryz.ntmps84
  go_wp2;go_ret;exact⟨none,0,rfl,World.ownsRow_nil _ _ _ _,Below.refl _ _⟩
 ·have m:(0:Int)<(n:Int):=by omega
  have s:=fun W=>zbk (P:=Tryz.prog) (w:=W) 27 5 _ _ Tryz.underlying27 zaB none 0 0 0 (Nat.le_refl _);have b:=fun(w:World)=>Lib.run_append_nil_zeros (P:=Tryz.prog) w 27 3 27 5 i (int .u8 0) .i64 .i64 Tryz.underlying27 Tryz.underlying3 g j n a (by omega) (by omega) (by rw [d];omega);have k:=Lib.hid b;have p:=Lib.hid h;clear b;have q:=fun W c=>zbk (P:=Tryz.prog) (w:=W) 27 5 _ _ Tryz.underlying27 zaB (some ⟨w.heap.size,0,none⟩) n c 0 (Nat.zero_le _);go_enter Tryz.func84,Tryz.ntmps84
  go_wp2_with (at_builtin;refine Lib.wpList_append_run _ rfl _ _ _ _ rfl _ _ rfl rfl _ _ (k.out _) ?_)
  go_ret;have l:=grownCap_ge w n 0 5;refine⟨_,_,rfl,?_,(zbl).drew⟩;have:=World.ownsRow_made (base:=w.heap.size) (e:=5) (size:=1) w (Builtin.zeroCells #[int .u8 0] n++Builtin.zeroCells #[int .u8 0] (grownCap w n 0 5 - n)) (grownCap w n 0 5) (Nat.le_refl _) (grownCap_le_maxLen w n 0 5 (by unfold maxLen;omega)) (by rw [Array.size_append,size_zeroCells,size_zeroCells];simp;omega);exact this
theorem zfw(B n c:Nat)(A:Option Addr)(rs:List zb3)(K:n=rs.length)(w:World)(h:Row w B A (rs.map zbN))(hB:B<=w.heap.size)(Q:∀ r∈rs,Row w w.heap.size r.1 (r.2.1.map zaa))(hl:(zbi rs).length<=1073741824)(an:n<=1000000) :
 Calls Tryz.prog 56 #[slice A n c] w (zex w.heap.size (zbi rs) w):=by
 obtain⟨i0,af,aa,T,ah⟩:=info_parts zaB;have S:=Lib.hid h;have HX:=Lib.hid Q;have E:=Lib.hid K;have I:=Lib.hid hl;have am:(n:Int)<=1000000:=by omega
 clear h Q K hl;go_enter Tryz.func56,Tryz.ntmps56
 go_wp2;go_loop [3,11] (fun z i=>∃ k:Nat,k<=n/\i=int .i64 k/\z=int .i64 ((zbi (rs.take k)).length:Nat)) (fun _ i=>n - (intOf i).toNat)
 case atStart=>exact⟨0,by omega,rfl,rfl⟩
 case round=>
  obtain⟨k,hk,rfl,rfl⟩:=hrel;by_cases ag:k<n
  ·have D:k<rs.length:=by rw [<-E.out];exact ag
   obtain⟨b,o,rfl,_,hc⟩:=S.out.open_ (by simp;omega);have q:w.cell? ⟨b,o+k,none⟩=some (zbN rs[k]):=(hc k (by simpa using D)).trans (congrArg some (List.getElem_map (f:=zbN) (h:=by simpa using D)));obtain⟨⟨A1,s,c1⟩,m⟩:∃ y,rs[k]=y:=⟨_,rfl⟩;rw [m] at q;unfold zbN at q;simp only at q;have a:=zdV rs k D;rw [m] at a;have d:=zic rs (k+1);rw [a,List.length_append] at d;obtain⟨z,l⟩:∃ z,(zbi (rs.take k)).length=z:=⟨_,rfl⟩;have F:Hid ((zbi (rs.take (k+1))).length=z+s.length):=Lib.hid (by rw [a,List.length_append,l]);rw [l] at d ⊢;have ao:(z:Int)+(s.length:Int)<=1073741824:=by have:=I.out;simp only at d;omega
   have W:(0:Int)<=(k:Int):=by omega
   have Z:(k:Int)<(n:Int):=by omega
   clear hc m a l d;go_wp2;go_round
   case rel=>exact⟨k+1,by omega,by go_num,by rw [F.out];go_num⟩
   case measure=>simp [intOf];omega
  ·obtain rfl:k=n:=by omega
   have J:Hid (rs.take k=rs):=Lib.hid (List.take_of_length_le (by rw [<-E.out];omega));rw [J.out];obtain⟨z,l⟩:∃ z,(zbi rs).length=z:=⟨_,rfl⟩;rw [l];have aj:z<=1073741824:=by rw [<-l];exact I.out
   clear l;go_wp2_with (go_at_call 84;refine(zrP z aj _).mono ?_;rintro e w1 ⟨A0,c0,rfl,L,N⟩;have ae:=Lib.hid L;have V:=Lib.hid N;clear L N)
   go_loopw [6,27] (fun v i wr=>∃ j:Nat,j<=k/\i=int .i64 j/\wr.ownsRow w.heap.size 5 1 v (zbi (rs.take j)).length ((zbi (rs.take j)).map zaa)/\Below w.heap.size w wr) (fun _ i _=>k - (intOf i).toNat)
   case atStart=>exact⟨0,by omega,rfl,ae.out,V.out⟩
   case round=>
    obtain⟨j,hj,rfl,u,R⟩:=hrel;have G:=Lib.hid u;have t:=Lib.hid R;clear u R;by_cases ak:j<k
    ·have C:j<rs.length:=by rw [<-E.out];exact ak
     obtain⟨b,o,rfl,al,hc⟩:=S.out.open_ (by simp;omega);have q:wr.cell? ⟨b,o+j,none⟩=some (zbN rs[j]):=(t.out.cell (p:=⟨b,o+j,none⟩) (by show b<w.heap.size;omega)).trans ((hc j (by simpa using C)).trans (congrArg some (List.getElem_map (f:=zbN) (h:=by simpa using C))));have x:=HX.out rs[j] (List.getElem_mem C);obtain⟨⟨A1,s,c1⟩,m⟩:∃ y,rs[j]=y:=⟨_,rfl⟩;rw [m] at q x;unfold zbN at q;simp only at q x;have a:=zdV rs j C;rw [m] at a;simp only at a;have d:=zic rs (j+1);have M:Hid ((zbi (rs.take j)).length+s.length<=1073741824):=Lib.hid (by rw [a,List.length_append] at d;have:=I.out;omega);have F:=Lib.hid a;have ai:=Lib.hid (x.below t.out);have W:(0:Int)<=(j:Int):=by omega
     have Z:(j:Int)<(k:Int):=by omega
     clear hc m a d x;go_wp2_with (at_builtin;refine zan _ rfl _ _ 27 rfl w.heap.size 5 i0 (int .u8 0) 1 Tryz.underlying27 af aa T ah rfl _ _ _ rfl G.out w.heap.size _ s.length c1 (s.map zaa) rfl (by simp) ai.out (zaH s) (by have:=M.out;unfold maxLen;omega) (by have:=M.out;omega) t.out.size ?_)
     intro v' Y u O _;have ab:Hid (Y.ownsRow w.heap.size 5 1 v' (zbi (rs.take (j+1))).length ((zbi (rs.take (j+1))).map zaa)):=Lib.hid (by rw [F.out,List.map_append,List.length_append];exact u);have U:=Lib.hid (t.out.grown O t.out.size fun g X=>(G.out.lt g X).1);clear u O;go_wp2;go_roundw
     case rel=>exact⟨j+1,by omega,by go_num,ab.out,U.out⟩
     case measure=>simp [intOf];omega
    ·obtain rfl:j=k:=by omega
     go_wp2;go_ret;exact zck G.out (by rw [J.out]) t.out
end
section
open Go.RowKit Mem
theorem ze2(B c n:Nat)(A:Option Addr)(bs:List UInt8)(r:n=bs.length)(w:World)(h:Row w B A (bs.map zaa))(s:B<=w.heap.size)(hl:bs.length<=1073741824) :
 Calls Tryz.prog 54 #[slice A n c] w (zex w.heap.size bs w):=by
 subst r;obtain⟨j,g,p,i,d⟩:=info_parts zaB;have l:=Lib.hid h;clear h;go_enter Tryz.func54,Tryz.ntmps54
 go_wp2_with (at_builtin;refine zan _ rfl _ _ 27 rfl w.heap.size 5 j (int .u8 0) 1 Tryz.underlying27 g p i d rfl (slice none 0 0) 0 [] rfl (World.ownsRow_nil _ _ _ _) B _ bs.length c (bs.map zaa) rfl (by simp) l.out (zaH bs) (by unfold maxLen;omega) (by omega) (Nat.le_refl _) ?_)
 intro t w1 b a _;have o:=Lib.hid b;have m:Hid (Below w.heap.size w w1):=Lib.hid ⟨a.os,a.tape,a.output,a.size,fun k q=>a.block k q (by simp [Value.ownBlock])⟩;clear b a;go_wp2;go_ret;exact zck o.out (by simp) m.out
end
end Go.Proofs.YtahnjkkgojfdmaaGreatDoor
