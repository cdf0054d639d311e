import Derived.Test.YtahnjkkgojfdmaaGreatDoorCore
import Derived.Lib.BitFns
import Derived.Deep.OwnRows
import Derived.Lib.Small
import Derived.Lib.Strings
import Derived.Lib.Slices
import Derived.Lib.Walk
set_option maxRecDepth 10000
set_option maxHeartbeats 2000000
namespace Go.Proofs.YtahnjkkgojfdmaaGreatDoor
open Go.IntKind(i64)
open Go.Value(int slice bool pointer)
section
open Go.RowKit Mem Be
theorem zdF{k:IntKind}{a b:Int}(h:a=b):Ending.returned (int k a)=.returned (int k b):=by rw [h]
theorem zmx:Lib.len8tab.size=256:=by decide+kernel
theorem zvq:(256:Int)<=(Lib.len8tab.size:Int):=by rw [zmx];decide
theorem zuc:∀ i:Fin 256,(Lib.len8tab.data.toList.getD i.val 0).toNat<=8/\(1<=i.val->1<=(Lib.len8tab.data.toList.getD i.val 0).toNat)/\(i.val=0->(Lib.len8tab.data.toList.getD i.val 0).toNat=0):=by decide+kernel
theorem zvr(y:Int)(h:y.toNat<Lib.len8tab.size):(Lib.len8tab[y.toNat]'h).toNat<=8/\(1<=y->1<=(Lib.len8tab[y.toNat]'h).toNat)/\(y<=0->(Lib.len8tab[y.toNat]'h).toNat=0):=by
 have a:y.toNat<256:=by rw [zmx] at h;exact h
 have:=zuc ⟨y.toNat,a⟩;have e:Lib.len8tab[y.toNat]'h=Lib.len8tab.data.toList.getD y.toNat 0:=by
  rw [List.getD_eq_getElem?_getD,Array.getElem?_toList,Array.getElem?_eq_getElem (by exact h)];rfl
 rw [e];refine⟨this.1,fun b=>this.2.1 (by show 1<=y.toNat;omega),fun b=>this.2.2 (by show y.toNat=0;omega)⟩
def zvs(x:Int)(w:World)(e:Ending)(w':World):Prop:=(∃ L:Int,e=.returned (int i64 L)/\0<=L/\L<=64/\(L+7) / 8=(zaD x:Int))/\w=w'
theorem znv(n:Nat)(b:Int)(h:n<=255)(d:0<=b)(c:b<=100):wrap64 (b+wrap64 (n:Int))=b+(n:Int):=by
 have a:wrap64 (n:Int)=(n:Int):=by unfold wrap64;omega
 rw [a];unfold wrap64;omega
theorem zdX(k:Nat)(p q:Int)(v:k<=7)(l:(256:Int) ^ k=p)(hq:(256:Int) ^ (k+1)=q)(x y V:Int)(w:World)(h:y.toNat<Lib.len8tab.size)(c:p<=x\/k=0)(i:x<q)(g:y=x / p)(B:0<=x)
 (m:V=wrap64 (8*(k:Int)+wrap64 ((Lib.len8tab[y.toNat]'h).toNat:Int))) :
 zvs x w (.returned (int i64 V)) w:=by
 obtain⟨A,s,t3⟩:=zvr y h;rw [znv _ _ (by omega) (by omega) (by omega)] at m;have o:=zc5 k;have C:=zc6 (a:=k+1) (b:=8) (by omega);have t:=zgd.2.2.2.2.2.2.2.2;subst l;subst hq;refine⟨⟨V,rfl,by omega,by omega,?_⟩,rfl⟩;by_cases d:256 ^ k<=x
 ·have r:1<=y:=by rw [g,Int.le_ediv_iff_mul_le o];omega
  have:=s r;have e:zaD x=k+1:=zoS x (k+1) (by omega) i fun j u=>by
   obtain rfl:j=k:=by omega
   exact d
  rw [e];omega
 ·obtain rfl:k=0:=by
   rcases c with c|c
   ·exact absurd c d
   ·exact c
  have:x<1:=by simpa using d
  have z:y=x:=by rw [g];simp
  have:=t3 (by omega);have e:=(zoR x).2 (by omega);rw [e];omega
theorem zo1(x:Int)(w:World)(a:0<=x)(c:x<=18446744073709551615):Calls Tryz.prog 173 #[int .u64 x] w (zvs x w):=by
 have b:=zvq;go_enter Tryz.func173,Tryz.ntmps173
 go_wp2
 all_goals first|(exfalso;omega)|skip
 all_goals go_ret
 all_goals first
  | exact zdX 7 72057594037927936 18446744073709551616 (by decide) zgd.2.2.2.2.2.2.2.1 zgd.2.2.2.2.2.2.2.2 x (x / 4294967296 / 65536 / 256) _ w (by omega) (by omega) (by omega) (by omega) a rfl
  | exact zdX 6 281474976710656 72057594037927936 (by decide) zgd.2.2.2.2.2.2.1 zgd.2.2.2.2.2.2.2.1 x (x / 4294967296 / 65536) _ w (by omega) (by omega) (by omega) (by omega) a rfl
  | exact zdX 5 1099511627776 281474976710656 (by decide) zgd.2.2.2.2.2.1 zgd.2.2.2.2.2.2.1 x (x / 4294967296 / 256) _ w (by omega) (by omega) (by omega) (by omega) a rfl
  | exact zdX 4 4294967296 1099511627776 (by decide) zgd.2.2.2.2.1 zgd.2.2.2.2.2.1 x (x / 4294967296) _ w (by omega) (by omega) (by omega) (by omega) a rfl
  | exact zdX 3 16777216 4294967296 (by decide) zgd.2.2.2.1 zgd.2.2.2.2.1 x (x / 65536 / 256) _ w (by omega) (by omega) (by omega) (by omega) a rfl
  | exact zdX 2 65536 16777216 (by decide) zgd.2.2.1 zgd.2.2.2.1 x (x / 65536) _ w (by omega) (by omega) (by omega) (by omega) a rfl
  | exact zdX 1 256 65536 (by decide) zgd.2.1 zgd.2.2.1 x (x / 256) _ w (by omega) (by omega) (by omega) (by omega) a rfl
  | exact zdX 0 1 256 (by decide) zgd.1 zgd.2.1 x x _ w (by omega) (by omega) (by omega) (by omega) a (by simp)
def zrQ(u:Int)(s i j:Nat):Value:=if j=0 then int .u8 (s:Int) else if j+i<=s then int .u8 0 else int .u8 (u / 256 ^ (s - j) % 256)
def CA(u:Int)(s i:Nat):Array Value:=((List.range (s+1)).map (zrQ u s i)).toArray
def C0(s:Nat):Array Value:=madeCells #[int .u8 0] (s+1)
theorem zeF(u:Int)(s i:Nat):(CA u s i).size=s+1:=by simp [CA]
theorem zo2(s:Nat):(C0 s).toList=List.replicate (s+1) (int .u8 0):=toList_madeCells_one _ _
theorem zkY(s:Nat):(C0 s).size=s+1:=by rw [<-Array.length_toList,zo2];simp
theorem zvt(u:Int)(s:Nat):(C0 s).setIfInBounds 0 (int .u8 (s:Int))=CA u s 0:=by
 apply Array.ext
 ·simp [zeF,zkY]
 ·intro j b a;rw [zeF] at a;rw [Array.getElem_setIfInBounds (by rw [zkY];exact a)];simp only [CA,List.getElem_toArray,List.getElem_map,List.getElem_range,zrQ];by_cases h:0=j
  ·subst h;rw [if_pos rfl,if_pos rfl]
  ·rw [if_neg h,if_neg (by omega),if_pos (by omega)];rw [<-Array.getElem_toList];simp only [zo2,List.getElem_replicate]
theorem zvu(u:Int)(s i:Nat)(k:i<s)(x:Int)(d:x=u / 2 ^ (8*i) % 256):(CA u s i).setIfInBounds (s - i) (int .u8 x)=CA u s (i+1):=by
 apply Array.ext
 ·simp [zeF]
 ·intro j g c;rw [zeF] at c;rw [Array.getElem_setIfInBounds (by rw [zeF];exact c)];simp only [CA,List.getElem_toArray,List.getElem_map,List.getElem_range,zrQ];by_cases h:s - i=j
  ·rw [if_pos h,if_neg (by omega),if_neg (by omega),d];have:s - j=i:=by omega
   rw [this,show(256:Int)=2 ^ 8 by decide,<-Int.pow_mul]
  ·rw [if_neg h];by_cases a:j=0
   ·rw [if_pos a,if_pos a]
   ·rw [if_neg a,if_neg a];by_cases b:j+i<=s
    ·rw [if_pos b,if_pos (by omega)]
    ·rw [if_neg b,if_neg (by omega)]
theorem zrR(u:Int):(CA u (zaD u) (zaD u)).toList=(zf6 u).map zaa:=by
 apply List.ext_getElem
 ·simp [CA,zf6,zch]
 ·intro j c b;simp only [CA,List.getElem_map,List.getElem_range,zrQ];unfold zf6;rcases j with _|j
  ·rw [if_pos rfl,List.getElem_cons_zero];unfold zaa;rw [zgu]
  ·have a:j<zaD u:=by simpa [zf6,zch] using b
   rw [if_neg (by omega),if_neg (by omega),List.getElem_cons_succ,zms _ _ _ a];unfold zaa;rw [zdk,show zaD u - (j+1)=zaD u - 1 - j by omega]
theorem zrS(s:Nat)(a:s<=8)(W:World):(Instr.makeSlice 27 (int i64 (1+(s:Int))) (int i64 (1+(s:Int)))).run Tryz.prog W=.ok (slice (some ⟨W.heap.size,0,none⟩) (s+1) (s+1)) (W.alloc (.cells (C0 s) 5)):=by
 have:=run_make_row' (P:=Tryz.prog) 27 5 (int .u8 0) 1 Tryz.underlying27 zaB rfl i64 i64 (s+1) (by omega) (by omega) W;rw [show(1+(s:Int))=((s+1:Nat):Int) by omega];exact this
theorem zvv{w:World}(u:Int) :
 (w.alloc (.cells (CA u (zaD u) (zaD u)) 5)).ownsRow w.heap.size 5 1 (slice (some ⟨w.heap.size,0,none⟩) (zaD u+1) (zaD u+1)) (zf6 u).length ((zf6 u).map zaa):=by
 have hl:(zf6 u).length=zaD u+1:=by simp [zf6,zch]
 refine⟨by simp,Or.inr ⟨w.heap.size,zaD u+1,_,by rw [hl],Nat.le_refl _,heap_alloc_new w _,by omega,?_,by rw [zeF];omega,?_⟩⟩
 ·have:=zfu u;unfold maxLen;omega
 ·rw [zrR u,List.take_of_length_le (by simp)]
theorem zud(u n:Int)(w:World)(b:uZ n=u) :
 zex w.heap.size (zbj n) w (.returned (slice (some ⟨w.heap.size,0,none⟩) (zaD u+1) (zaD u+1))) (w.alloc (.cells (CA u (zaD u) (zaD u)) 5)):=by
 have hl:(zf6 u).length=zaD u+1:=by simp [zf6,zch]
 unfold zbj;rw [b];have a:=zvv (w:=w) u;refine⟨some ⟨w.heap.size,0,none⟩,zaD u+1,by rw [hl],?_,zbl⟩;rw [hl] at a ⊢;exact a
theorem zkZ(n:Int)(w:World):Calls Tryz.prog 149 #[int i64 n] w (zex w.heap.size (zbj n) w):=by
 obtain⟨u,l⟩:∃ u,IntKind.u64.wrap n=u:=⟨_,rfl⟩;have b:=zh9 n;have a:uZ n=u:=by rw [<-l];unfold uZ;rw [IntKind.wrap_u64]
 rw [a] at b;have p:=b.1;have j:u<=18446744073709551615:=by omega
 have r:Hid (uZ n=u):=zhd a;have d:=zfu u;obtain⟨s,c⟩:∃ s,zaD u=s:=⟨_,rfl⟩;rw [c] at d;have g:=zhd c;have q:=zrS s d;clear b a c;have hc:=zkY s;go_enter Tryz.func149,Tryz.ntmps149
 go_wp2_with (go_at_call 173;refine(zo1 u _ p j).mono ?_;rintro e w' ⟨⟨L,rfl,z,y,t⟩,rfl⟩;(have x:(L+8 - 1) / 8=(s:Int):=by rw [<-g.out];omega);clear t)
 rw [zvt u s];clear hc q;go_loopw [22] (fun i wr=>∃ k:Nat,k<=s/\i=int i64 k/\wr=w.alloc (.cells (CA u s k) 5)) (fun i _=>s - (intOf i).toNat)
 case atStart=>exact⟨0,by omega,rfl,rfl⟩
 case round=>
  obtain⟨k,A,rfl,rfl⟩:=hrel;by_cases m:k<s
  ·obtain⟨old,hold⟩:∃ old,(CA u s k)[s - k]?=some old:=⟨_,Array.getElem?_eq_getElem (by rw [zeF];omega)⟩;go_wp2;go_roundw
   case rel=>exact⟨k+1,by omega,by go_num,by rw [zvu u s k m _ rfl]⟩
   case measure=>simp [intOf];omega
  ·go_wp2;have h:k=s:=by omega
   go_ret;have v:=g.out;have o:=r.out;subst v;subst h;exact zud u n w o
theorem zo3(u:Int)(k:Nat)(i:u<18446744073709551616):0<u / 2 ^ (8*k)↔k<zaD u:=by
 have e:(2:Int) ^ (8*k)=256 ^ k:=by rw [show(256:Int)=2 ^ 8 by decide,<-Int.pow_mul]
 have d:=zc5 k;rw [e];constructor
 ·intro h;rcases Nat.lt_or_ge k (zaD u) with c|c
  ·exact c
  ·have:=zh8 u i;have:=zc6 c;have:u / 256 ^ k<1:=by rw [Int.ediv_lt_iff_lt_mul d];omega
   omega
 ·intro c;obtain⟨s,g⟩:∃ s,zaD u=s+1:=⟨zaD u - 1,by omega⟩;have:=zkU u s g;have:=zc6 (a:=k) (b:=s) (by omega);have:1<=u / 256 ^ k:=by rw [Int.le_ediv_iff_mul_le d];omega
  omega
theorem zrT(u:Int)(q:Nat)(hq:q<zaD u)(x:Int)(a:x=u / 2 ^ (8*q) % 256) :
 ((zf6 u).take (zaD u - (q+1)+1)).map zaa++[int .u8 x]=((zf6 u).take (zaD u - q+1)).map zaa:=by
 have e:(2:Int) ^ (8*q)=256 ^ q:=by rw [show(256:Int)=2 ^ 8 by decide,<-Int.pow_mul]
 have hl:(zf6 u).length=zaD u+1:=by simp [zf6,zch]
 rw [show zaD u - q+1=zaD u - (q+1)+1+1 by omega,List.take_succ_eq_append_getElem (i:=zaD u - (q+1)+1) (by omega),List.map_append]
 congr 1
 simp only [List.map_cons,List.map_nil]
 congr 1
 unfold zf6;rw [List.getElem_cons_succ,zms _ _ _ (by omega)];unfold zaa;rw [zdk,a,e]
 congr 5
 omega
def zo4(B:Nat)(s q:Nat)(u:Int)(w wr:World)(v:Value):Prop:=wr.ownsRow B 5 1 v (s - q+1) (((zf6 u).take (s - q+1)).map zaa)/\Below B w wr
theorem znw(u:Int)(k:Nat)(c:zaD u=k)(w:World):zo4 w.heap.size k k u w (w.alloc (.cells #[int .u8 (k:Int)] 5)) (slice (some ⟨w.heap.size,0,none⟩) 1 1):=by
 have b:=zgu u;have a:((zf6 u).take 1).map zaa=[int .u8 (k:Int)]:=by
  show [zaa (UInt8.ofNat (zaD u))]=_
  unfold zaa;rw [b,c]
 refine⟨?_,zbl⟩;rw [Nat.sub_self,a];exact⟨rfl,Or.inr ⟨w.heap.size,1,_,rfl,Nat.le_refl _,heap_alloc_new w _,by omega,by decide,rfl,rfl⟩⟩
theorem zrU(u:Int)(q:Nat)(h:0<=u):(u / 2 ^ (8*q)).tmod 256 % 256=u / 2 ^ (8*q) % 256:=by
 rw [Int.tmod_eq_emod_of_nonneg (Int.ediv_nonneg h (Int.le_of_lt (Int.pow_pos (by decide))))];omega
theorem zrV(n u:Int)(s:Nat)(w wr:World)(v:Value)(c:uZ n=u)(d:zaD u=s)(h:zo4 w.heap.size s 0 u w wr v):zex w.heap.size (zbj n) w (.returned v) wr:=by
 have hl:(zf6 u).length=s+1:=by rw [<-d];simp [zf6,zch]
 obtain⟨a,b⟩:=h;unfold zbj;rw [c];rw [Nat.sub_zero,List.take_of_length_le (by omega),<-hl] at a;rcases a.2 with⟨rfl,i⟩|⟨g,cap,j,rfl,_⟩
 ·omega
 ·exact⟨_,_,rfl,a,b⟩
theorem zo5(u:Int)(k q:Nat)(j:zaD u=k)(hq:q<k)(w wr w1:World)(v b:Value)(o:Obj)(a:zo4 w.heap.size k (q+1) u w wr v)
 (c:w1.ownsRow w.heap.size 5 1 b (k - (q+1)+1+1) (((zf6 u).map zaa).take (k - (q+1)+1)++[int .u8 ((u / 2 ^ (8*q)).tmod 256 % 256)])) (i:0<=u) (d:(wr.alloc o).grownBy w1 v.ownBlock):zo4 w.heap.size k q u w w1 b:=by
 subst j;refine⟨?_,(a.2.alloc a.2.size _).grown d (by have:=a.2.size;simp;omega) fun g h=>(a.1.lt g h).1⟩;rw [<-List.map_take,zrT u q hq _ (zrU u q i),show zaD u - (q+1)+1+1=zaD u - q+1 by omega] at c;exact c
theorem zcm(n:Int)(w:World):Calls Tryz.prog 99 #[int i64 n] w (zex w.heap.size (zbj n) w):=by
 obtain⟨A,y,G,z,C⟩:=info_parts zaB;obtain⟨u,c⟩:∃ u,IntKind.u64.wrap n=u:=⟨_,rfl⟩;have l:=zh9 n;have g:uZ n=u:=by rw [<-c];unfold uZ;rw [IntKind.wrap_u64]
 rw [g] at l;have E:=l.1;have K:u<=18446744073709551615:=by omega
 have I:Hid (uZ n=u):=zhd g;have F:=zfu u;obtain⟨s,m⟩:∃ s,zaD u=s:=⟨_,rfl⟩;rw [m] at F;have a:=zhd m;clear l g m;go_enter Tryz.func99,Tryz.ntmps99
 go_wp2;go_loop [4] (fun i=>∃ k:Nat,k<=s/\i=int i64 k) (fun i=>s - (intOf i).toNat)
 case atStart=>exact⟨0,by omega,rfl⟩
 case round=>
  obtain⟨k,M,rfl⟩:=hrel;by_cases o:k<s
  ·have D:=(zo3 u k (by omega)).2 (by rw [a.out];exact o);have B:k<8:=by omega
   go_wp2;go_round
   case rel=>exact⟨k+1,by omega,by go_num⟩
   case measure=>simp [intOf];omega
  ·obtain rfl:k=s:=by omega
   have D:¬ 0<u / 2 ^ (8*k):=fun h=>o (by have:=(zo3 u k (by omega)).1 h;rw [a.out] at this;exact this);have t:(zf6 u).length=k+1:=by rw [<-a.out];simp [zf6,zch]
   have L:=zhd t;clear t o;by_cases B:k<8
   all_goals
    go_wp2;go_loopw [5,6] (fun v i wr=>∃ q:Nat,q<=k/\i=int i64 ((q:Int) - 1)/\zo4 w.heap.size k q u w wr v) (fun _ i _=>(intOf i+1).toNat)
    case atStart=>exact⟨k,Nat.le_refl _,by go_num,znw u k a.out w⟩
    case round=>
     obtain⟨q,hq,rfl,x⟩:=hrel;have d:=zhd x;clear x;rcases q with _|q
     ·go_wp2;go_ret;exact zrV n u k w _ _ I.out a.out d.out
     ·go_wp2_with (at_builtin;refine wpList_append_own _ rfl _ _ 27 rfl w.heap.size 5 A (int .u8 0) 1 1 Tryz.underlying27 y G z C rfl (by decide) _ _ _ rfl (d.out.1.alloc _) ⟨_,0,none⟩ 1 1 [int .u8 ((u / 2 ^ (8*q)).tmod 256 % 256)] rfl rfl (by intro j u b;match j,b with|0,b=>simp at b;subst b;simp [Addr.add]) (by intro u c;simp at c;subst c;rfl) (by unfold maxLen;omega) (by omega) (by have:=d.out.2.size;simp;omega) ?_)
      intro J w1 r p _;have R:=zhd (zo5 u k q a.out (by omega) w wr w1 _ J _ d.out r E p);clear r p;go_wp2;go_roundw
      case rel=>exact⟨q,by omega,by go_num,R.out⟩
      case measure=>simp [intOf]
end
section
open Go.RowKit Mem Be
def zcn(x k e:Int):Ending:=.returned (.tuple #[int i64 x,int i64 k,int i64 e])
def ztz(r:Int×Nat×Int)(w:World)(e:Ending)(w':World):Prop:=e=zcn r.1 r.2.1 r.2.2/\∃ n,w'=w.drewN n
theorem zvw(u:Int)(b:UInt8)(g:0<=u)(d:u<=72057594037927935):bits .or .u64 (IntKind.u64.wrap (u*256)) (IntKind.u64.wrap (b.toNat:Int))=u*256+(b.toNat:Int):=by
 have c:=b.toNat_lt;have a:IntKind.u64.wrap (u*256)=u*256:=by rw [IntKind.wrap_u64];omega
 have e2:IntKind.u64.wrap (b.toNat:Int)=(b.toNat:Int):=by rw [IntKind.wrap_u64];omega
 rw [a,e2,u64_or _ _ (by omega) (by omega) (by omega) (by omega)];have:(u*256).toNat||| ((b.toNat:Int)).toNat=(u*256).toNat+b.toNat:=by
  rw [show((b.toNat:Int)).toNat=b.toNat by omega];exact nat_join 8 _ _ (by omega) (by omega)
 rw [this];omega
theorem zk0(c:Nat)(A:Option Addr)(w:World):Calls Tryz.prog 222 #[slice A 0 c] w (ztz (zbP []) w):=by
 go_enter Tryz.func222,Tryz.ntmps222
 go_wp2;go_ret3
 exact⟨rfl,0,rfl⟩
theorem zmy{x k e a b c:Int}(g:x=a)(h:k=b)(d:e=c):Ending.returned (.tuple #[int i64 x,int i64 k,int i64 e])=zcn a b c:=by rw [g,h,d];rfl
theorem zcv{r:Int×Nat×Int}{x:Int}{k:Nat}{e:Int}(g:r=(x,k,e)){a b:Int}(c:a=x)(d:b=k)(w:World)(n:Nat) :
 ztz r w (.returned (.tuple #[int i64 a,int i64 b,int i64 e])) (w.drewN n):=by
 subst g;exact⟨zmy c d rfl,n,rfl⟩
theorem ztA(a:UInt8)(rest:List UInt8)(h:8<a.toNat):zbP (a :: rest)=(0,0,11):=by
 unfold zbP;rw [if_neg (by simp),if_pos (by simpa using h)]
theorem ztB(a:UInt8)(rest:List UInt8)(h:¬ 8<a.toNat)(b:rest.length<a.toNat):zbP (a :: rest)=(0,0,12):=by
 unfold zbP;rw [if_neg (by simp),if_neg (by simpa using h),if_pos (by simp;omega)]
theorem ztC(a b:UInt8)(more:List UInt8)(h:¬ 8<a.toNat)(d:¬ (b :: more).length<a.toNat)(g:0<a.toNat)(c:b.toNat=0):zbP (a :: b :: more)=(0,0,11):=by
 unfold zbP;rw [if_neg (by simp),if_neg (by simpa using h),if_neg (by simp at d ⊢;omega),if_pos ⟨by simpa using g,by simpa using c⟩]
theorem zo6(a:UInt8)(rest:List UInt8)(h:¬ 8<a.toNat)(d:¬ rest.length<a.toNat)(b:¬ (0<a.toNat/\(rest.headD 0).toNat=0)):zbP (a :: rest)=(iZ (rd (rest.take a.toNat)),1+a.toNat,0):=by
 unfold zbP;have c:(a :: rest).headD 0=a:=rfl;have e2:(a :: rest).tail=rest:=rfl;rw [c,e2,if_neg (by simp),if_neg h,if_neg (by simp;omega),if_neg b]
theorem zk1(u:Int):wrap64 u=iZ u:=by unfold wrap64 iZ;omega
theorem zmz(bs:List UInt8)(k:Nat)(h:k<=7):rd (bs.take k)<=72057594037927935:=by
 have d:=rd_lt (bs.take k);have c:=zc6 (a:=(bs.take k).length) (b:=7) (by rw [List.length_take];omega);have:=zgd.2.2.2.2.2.2.2.1;omega
theorem zk2(c:Nat)(b o:Nat)(a:UInt8)(rest:List UInt8)(w:World)(h:∀ j (h:j<((a :: rest).map zaa).length),w.cell? ⟨b,o+j,none⟩=some ((a :: rest).map zaa)[j])(hc:rest.length+1<=c)(A:c<=maxLen) :
 Calls Tryz.prog 222 #[slice (some ⟨b,o,none⟩) (rest.length+1) c] w (ztz (zbP (a :: rest)) w):=by
 have t:w.cell? ⟨b,o,none⟩=some (int .u8 (a.toNat:Int)):=h 0 (by simp);have L:=a.toNat_lt;have hcut:∀ W,(Instr.slice 27 (slice (some ⟨b,o,none⟩) (rest.length+1) c) (some (int i64 1)) none none).run Tryz.prog W=.ok (slice (zc7 (some ⟨b,o,none⟩) 1 c) rest.length (c - 1)) W:=fun W=>by
  have:=zdm (P:=Tryz.prog) (w:=W) 27 5 _ _ Tryz.underlying27 zaB (some ⟨b,o,none⟩) (rest.length+1) c 1 (by omega);rw [Nat.add_sub_cancel] at this;exact this
 unfold maxLen at A;by_cases l:8<a.toNat
 ·have y:(8:Int)<(a.toNat:Int):=by omega
  have d:=zhd (ztA a rest l);clear h;go_enter Tryz.func222,Tryz.ntmps222
  go_wp2;go_quiet (fail)
  go_wp2;go_ret3
  exact zcv d.out rfl rfl w _
 have y:(a.toNat:Int)<=8:=by omega
 by_cases g:rest.length<a.toNat
 ·have m:(rest.length:Int)<(a.toNat:Int):=by omega
  have d:=zhd (ztB a rest l g);clear h;go_enter Tryz.func222,Tryz.ntmps222
  go_wp2;go_quiet (fail)
  go_wp2;go_ret3
  exact zcv d.out rfl rfl w _
 have m:(a.toNat:Int)<=(rest.length:Int):=by omega
 by_cases q:a.toNat=0
 ·have d:=zhd (zo6 a rest l g (by omega));have x:∀ W,(Instr.slice 27 (slice (zc7 (some ⟨b,o,none⟩) 1 c) rest.length (c - 1)) none (some (int i64 0)) none).run Tryz.prog W=.ok (slice (zc7 (some ⟨b,o,none⟩) 1 c) 0 (c - 1)) W:=fun W=>
   zbk (P:=Tryz.prog) (w:=W) 27 5 _ _ Tryz.underlying27 zaB _ rest.length (c - 1) 0 (by omega)
  rw [q] at t y m d;have K:w.cell? ⟨b,o,none⟩=some (int .u8 0):=t;clear h t q l g;go_enter Tryz.func222,Tryz.ntmps222
  go_wp2;go_quiet (fail)
  go_wp2;go_loop [7,40] (fun u i=>u=int .u64 0/\i=int i64 0) (fun _ _=>0)
  case atStart=>exact⟨rfl,rfl⟩
  case round=>
   obtain⟨rfl,rfl⟩:=hrel;go_wp2;go_ret3
   exact zcv d.out rfl rfl w _
 ·match rest,h,hc,hcut,g,m with
  | [],_,_,_,g,_=>simp at g;omega
  | r0 :: more,h,hc,hcut,g,m=>
   have s:w.cell? ⟨b,o+1,none⟩=some (int .u8 (r0.toNat:Int)):=h 1 (by simp);rw [zjs b o 1 c (by simp at hc;omega)] at hcut;have J:(0:Int)<(a.toNat:Int):=by omega
   by_cases p:r0.toNat=0
   ·have d:=zhd (ztC a r0 more l g (by omega) p);rw [p] at s;have E:(a.toNat:Int)<=(more.length:Int)+1:=by simp at m;omega
    have C:w.cell? ⟨b,o+1,none⟩=some (int .u8 0):=s;clear h s p q l g;go_enter Tryz.func222,Tryz.ntmps222
    go_wp2;go_quiet (fail)
    go_wp2;go_ret3
    exact zcv d.out rfl rfl w _
   ·have d:=zhd (zo6 a (r0 :: more) l g (by rintro⟨_,h⟩;exact p h));have D:((r0.toNat:Int)==0)=false:=by simp;omega
    obtain⟨rest,r⟩:∃ rest,r0 :: more=rest:=⟨_,rfl⟩;have x:∀ W,(Instr.slice 27 (slice (some ⟨b,o+1,none⟩) (r0 :: more).length (c - 1)) none (some (int i64 (a.toNat:Int))) none).run Tryz.prog W=.ok (slice (some ⟨b,o+1,none⟩) a.toNat (c - 1)) W:=fun W=>
     zbk (P:=Tryz.prog) (w:=W) 27 5 _ _ Tryz.underlying27 zaB _ (r0 :: more).length (c - 1) a.toNat (by omega)
    have z:Hid (∀ j (h:j<rest.length),w.cell? ⟨b,o+1+j,none⟩=some (int .u8 (rest[j].toNat:Int))):=zhd (by
     intro j v;subst r;have:=h (j+1) (by simpa using v);rw [show o+1+j=o+(j+1) by omega,this];simp only [List.map_cons,List.getElem_cons_succ];exact congrArg some (zbn (r0 :: more) j v))
    have I:a.toNat<=rest.length:=by rw [<-r];omega
    rw [r] at d hcut x m hc ⊢;clear h p q l g r;go_enter Tryz.func222,Tryz.ntmps222
    go_wp2;go_quiet (fail)
    go_wp2;go_loop [7,40] (fun u i=>∃ k:Nat,k<=a.toNat/\i=int i64 k/\u=int .u64 (rd (rest.take k))) (fun _ i=>a.toNat - (intOf i).toNat)
    case atStart=>exact⟨0,by omega,rfl,rfl⟩
    case round=>
     obtain⟨k,M,rfl,rfl⟩:=hrel;by_cases F:k<a.toNat
     ·have G:=z.out k (by omega);go_wp2;go_round
      case rel=>exact⟨k+1,by omega,by go_num,by rw [zvw _ _ (zb2 _) (zmz _ _ (by omega)),zeE rest k (by omega)]⟩
      case measure=>simp [intOf];omega
     ·have B:k=a.toNat:=by omega
      go_wp2;go_ret3
      exact zcv d.out (zk1 _) (by omega) w _
theorem znx(B c:Nat)(A:Option Addr)(bs:List UInt8)(w:World)(h:Row w B A (bs.map zaa))(hc:bs.length<=c)(d:c<=maxLen) :
 Calls Tryz.prog 222 #[slice A bs.length c] w (ztz (zbP bs) w):=by
 match bs,h,hc with
 | [],_,_=>exact zk0 c A w
 | b0 :: rest,h,hc=>
  obtain⟨b,o,rfl,_,a⟩:=h.open_ (by simp);exact zk2 c b o b0 rest w a hc d
end
section
open Go.RowKit Mem Be
namespace Be
def zcg(m:Int)(bs:List UInt8):Int×Nat×Int:=if(zbP bs).2.2=0/\((zbP bs).1<0\/m<=(zbP bs).1) then(0,0,11) else zbP bs
def za2(bs:List UInt8):List UInt8×Nat×Int:=
 if ¬ (zbP bs).2.2=0 then([],0,(zbP bs).2.2)
 else if(zbP bs).1<0\/65537<=(zbP bs).1 then([],0,11)
 else if(bs.length:Int) - (zbP bs).2.1<(zbP bs).1 then([],0,12)
 else((bs.drop (zbP bs).2.1).take (zbP bs).1.toNat,(zbP bs).2.1+(zbP bs).1.toNat,0)
def zdj(bs:List UInt8):Bool×Nat×Int:=
 if bs.length=0 then(false,0,12) else if 1<(bs.headD 0).toNat then(false,0,11) else((bs.headD 0).toNat==1,1,0)
theorem zb4(m:Int)(bs:List UInt8):((zcg m bs).2.2=0/\1<=(zcg m bs).2.1/\(zcg m bs).2.1<=bs.length/\0<=(zcg m bs).1/\(zcg m bs).1<m/\zcg m bs=zbP bs)\/((zcg m bs).1=0/\(zcg m bs).2.1=0/\((zcg m bs).2.2=11\/(zcg m bs).2.2=12)):=by
 unfold zcg;by_cases h:(zbP bs).2.2=0/\((zbP bs).1<0\/m<=(zbP bs).1)
 ·rw [if_pos h];right;simp
 ·rw [if_neg h];rcases zeZ bs with a|a
  ·left;refine⟨a.1,a.2.1,a.2.2,?_,?_,rfl⟩<;>omega
  ·right;exact a
theorem zdG(bs:List UInt8):((za2 bs).2.2=0/\1<=(za2 bs).2.1/\(za2 bs).2.1<=bs.length)\/((za2 bs).1=[]/\(za2 bs).2.1=0/\((za2 bs).2.2=11\/(za2 bs).2.2=12)):=by
 have c:=zeZ bs;unfold za2;by_cases h:(zbP bs).2.2=0
 ·rw [if_neg (by simpa using h)];by_cases a:(zbP bs).1<0\/65537<=(zbP bs).1
  ·rw [if_pos a];simp
  ·rw [if_neg a];by_cases b:(bs.length:Int) - (zbP bs).2.1<(zbP bs).1
   ·rw [if_pos b];simp
   ·rw [if_neg b];left;refine⟨rfl,?_,?_⟩<;>simp only<;>omega
 ·rw [if_pos h];right;simp only;exact⟨trivial,trivial,by omega⟩
theorem zgf(bs:List UInt8):((zdj bs).2.2=0/\(zdj bs).2.1=1/\1<=bs.length)\/((zdj bs).1=false/\(zdj bs).2.1=0/\((zdj bs).2.2=11\/(zdj bs).2.2=12)):=by
 unfold zdj;by_cases h:bs.length=0
 ·rw [if_pos h];simp
 ·rw [if_neg h];by_cases a:1<(bs.headD 0).toNat
  ·rw [if_pos a];simp
  ·rw [if_neg a];left;exact⟨rfl,rfl,by omega⟩
end Be
theorem zjv(B c:Nat)(A:Option Addr)(bs:List UInt8)(m:Int)(w:World)(h:Row w B A (bs.map zaa))(hc:bs.length<=c)(s:c<=maxLen) :
 Calls Tryz.prog 219 #[slice A bs.length c,int i64 m] w (ztz (zcg m bs) w):=by
 have u:=zhd h;have j:=zeZ bs;obtain⟨x,k,e,i⟩:∃ x k e,zbP bs=(x,k,e):=⟨_,_,_,rfl⟩;have l:zcg m bs=if e=0/\(x<0\/m<=x) then(0,0,11) else(x,k,e):=by unfold zcg;rw [i]
 have v:=zhd i;have q:=zhd l;rw [i] at j;have y:=zhd j;clear h i l j;have o:∀ W,W=w->Calls Tryz.prog 222 #[slice A bs.length c] W (ztz (x,k,e) w):=fun W t=>by
  rw [t,<-v.out];exact znx B c A bs w u.out hc s
 have g:=zhd o;clear o hc s;by_cases d:e=0
 ·subst d;have a:=q.out;by_cases r:x<0
  ·rw [if_pos ⟨rfl,Or.inl r⟩] at a;have b:=zhd a;clear a;go_enter Tryz.func219,Tryz.ntmps219
   go_wp2_with (go_at_call 222;refine(g.out _ rfl).mono ?_;rintro e w' ⟨rfl,nq,rfl⟩;unfold zcn)
   go_ret3
   exact zcv b.out rfl rfl w _
  ·by_cases p:m<=x
   ·rw [if_pos ⟨rfl,Or.inr p⟩] at a;have b:=zhd a;clear a;go_enter Tryz.func219,Tryz.ntmps219
    go_wp2_with (go_at_call 222;refine(g.out _ rfl).mono ?_;rintro e w' ⟨rfl,nq,rfl⟩;unfold zcn)
    go_ret3
    exact zcv b.out rfl rfl w _
   ·rw [if_neg (by rintro⟨_,h|h⟩;exact r h;exact p h)] at a;have b:=zhd a;clear a;go_enter Tryz.func219,Tryz.ntmps219
    go_wp2_with (go_at_call 222;refine(g.out _ rfl).mono ?_;rintro e w' ⟨rfl,nq,rfl⟩;unfold zcn)
    go_ret3
    exact zcv b.out rfl rfl w _
 ·have a:=q.out;rw [if_neg (by rintro⟨h,_⟩;exact d h)] at a;have b:=zhd a;clear a;have hne:(e==0)=false:=by simpa using d
  have z:=zhd d;clear d;go_enter Tryz.func219,Tryz.ntmps219
  go_wp2_with (go_at_call 222;refine(g.out _ rfl).mono ?_;rintro e w' ⟨rfl,nq,rfl⟩;unfold zcn)
  go_ret3
  exact zcv b.out rfl rfl w _
def zue(r:Bool×Nat×Int):Ending:=.returned (.tuple #[bool r.1,int i64 r.2.1,int i64 r.2.2])
theorem zo7(B c:Nat)(A:Option Addr)(bs:List UInt8)(w:World)(h:Row w B A (bs.map zaa)) :
 Calls Tryz.prog 226 #[slice A bs.length c] w fun e w'=>e=zue (zdj bs)/\w=w':=by
 match bs,h with
 | [],_=>
  go_enter Tryz.func226,Tryz.ntmps226
  go_wp2;go_ret3
  exact⟨rfl,rfl⟩
 | b0 :: rest,h=>
  obtain⟨b,o,rfl,_,d⟩:=h.open_ (by simp);have j:w.cell? ⟨b,o,none⟩=some (int .u8 (b0.toNat:Int)):=d 0 (by simp);have i:=b0.toNat_lt;clear d h;by_cases g:1<b0.toNat
  ·have a:Hid (zdj (b0 :: rest)=(false,0,11)):=zhd (by unfold zdj;rw [if_neg (by simp),if_pos (by simpa using g)]);have hl:(1:Int)<(b0.toNat:Int):=by omega
   go_enter Tryz.func226,Tryz.ntmps226
   go_wp2;go_ret3
   exact⟨by rw [a.out];rfl,rfl⟩
  ·have a:Hid (zdj (b0 :: rest)=(b0.toNat==1,1,0)):=zhd (by unfold zdj;rw [if_neg (by simp),if_neg (by simpa using g)];rfl);have hl:(b0.toNat:Int)<=1:=by omega
   go_enter Tryz.func226,Tryz.ntmps226
   go_wp2;go_ret3
   refine⟨?_,rfl⟩;rw [a.out];have e:(((b0.toNat:Int))==1)=(b0.toNat==1):=by rw [Bool.eq_iff_iff];simp;omega
   unfold zue;simp [e]
end
section
open Go.RowKit Mem Be
def zbx(bs:List UInt8):List UInt8:=zbj (bs.length:Int)++bs
def zgv(B:Nat)(bs:List UInt8)(k:Int)(w:World)(e:Ending)(w':World):Prop:=∃ A c,e=.returned (.tuple #[slice A bs.length c,int i64 k])/\w'.ownsRow B 5 1 (slice A bs.length c) bs.length (bs.map zaa)/\Below B w w'
theorem zgg{B:Nat}{bs:List UInt8}{n:Nat}{k:Int}{w w1:World}{v:Value}{b:List Value}(d:w1.ownsRow B 5 1 v n b)(h:b=bs.map zaa)(i:Below B w w1):zgv B bs k w (.returned (.tuple #[v,int i64 k])) w1:=by
 obtain⟨A,c,a,g,j⟩:=zck d h i;injection a with a;subst a;exact⟨A,c,rfl,g,j⟩
theorem zid(B c n:Nat)(A:Option Addr)(bs:List UInt8)(v:n=bs.length)(w:World)(h:Row w B A (bs.map zaa))(m:B<=w.heap.size)(hl:bs.length<=65536) :
 Calls Tryz.prog 122 #[slice A n c] w (zgv w.heap.size (zbx bs) 0 w):=by
 subst v;obtain⟨s,p,x,q,o⟩:=info_parts zaB;have u:=zhd h;have C:=zbo (bs.length:Int);have t:Hid ((zbj (bs.length:Int)).map zaa++bs.map zaa=(zbx bs).map zaa):=zhd (by unfold zbx;rw [List.map_append]);have d:(bs.length:Int)<=65536:=by omega
 clear h;go_enter Tryz.func122,Tryz.ntmps122
 go_wp2_with (first
  | (go_at_call 149;refine(zkZ _ _).mono ?_;rintro e w1 ⟨D,c1,rfl,b,j⟩;have i:=zhd b;have a:=zhd j;clear b j)
  | (at_builtin;refine zan _ rfl _ _ 27 rfl w.heap.size 5 s (int .u8 0) 1 Tryz.underlying27 p x q o rfl _ _ _ rfl i.out B _ bs.length c (bs.map zaa) rfl (by simp) (u.out.below (a.out.mono m)) (zaH bs) (by unfold maxLen;omega) (by omega) a.out.size ?_))
 intro E z l k _;have y:=zhd l;have r:=zhd (a.out.grown k a.out.size (fun g d=>(i.out.lt g d).1));clear l k;go_wp2;go_ret2
 exact zgg y.out t.out r.out
theorem zeg(B c n:Nat)(A:Option Addr)(bs:List UInt8)(v:n=bs.length)(w:World)(h:Row w B A (bs.map zaa))(m:B<=w.heap.size)(hl:bs.length<=65536) :
 Calls Tryz.prog 67 #[slice A n c] w (zgv w.heap.size (zbx bs) 0 w):=by
 subst v;obtain⟨s,p,x,q,o⟩:=info_parts zaB;have u:=zhd h;have C:=zbo (bs.length:Int);have t:Hid ((zbj (bs.length:Int)).map zaa++bs.map zaa=(zbx bs).map zaa):=zhd (by unfold zbx;rw [List.map_append]);have d:(bs.length:Int)<=65536:=by omega
 clear h;go_enter Tryz.func67,Tryz.ntmps67
 go_wp2_with (first
  | (go_at_call 99;refine(zcm _ _).mono ?_;rintro e w1 ⟨D,c1,rfl,b,j⟩;have i:=zhd b;have a:=zhd j;clear b j)
  | (at_builtin;refine zan _ rfl _ _ 27 rfl w.heap.size 5 s (int .u8 0) 1 Tryz.underlying27 p x q o rfl _ _ _ rfl i.out B _ bs.length c (bs.map zaa) rfl (by simp) (u.out.below (a.out.mono m)) (zaH bs) (by unfold maxLen;omega) (by omega) a.out.size ?_))
 intro E z l k _;have y:=zhd l;have r:=zhd (a.out.grown k a.out.size (fun g d=>(i.out.lt g d).1));clear l k;go_wp2;go_ret2
 exact zgg y.out t.out r.out
def za9(t:Bool):List UInt8:=[if t then 1 else 0]
theorem zo8(w:World)(b:UInt8):(w.alloc (.cells #[zaa b] 5)).ownsRow w.heap.size 5 1 (slice (some ⟨w.heap.size,0,none⟩) 1 1) 1 [zaa b]:=
 ⟨rfl,Or.inr ⟨w.heap.size,1,_,rfl,Nat.le_refl _,heap_alloc_new w _,by omega,by decide,rfl,rfl⟩⟩
theorem zfT(t:Bool)(w:World):Calls Tryz.prog 150 #[bool t] w (zex w.heap.size (za9 t) w):=by
 cases t
 ·go_enter Tryz.func150,Tryz.ntmps150
  go_wp2;go_ret;exact zck (zo8 w 0) rfl (zbl)
 ·go_enter Tryz.func150,Tryz.ntmps150
  go_wp2;go_ret;exact zck (zo8 w 1) rfl (zbl)
theorem zjw(B B' c c' n d:Nat)(A g:Option Addr)(b a:List UInt8)(j:b=a)(w:World)(h:Row w B A (b.map zaa))(i:Row w B' g (a.map zaa))(k:n=b.length)(l:d=a.length) :
 Calls Tryz.prog 29 #[slice A n c,slice g d c'] w fun e w'=>e=.returned (bool true)/\w=w':=
 (zmv B B' c c' n d A g b a w h i k l).mono fun _ _ ⟨h1,h2⟩=>⟨by rw [h1,j];simp,h2⟩
end
section
open Go.RowKit Mem Be
structure RowB (w:World) (g:Nat) (A:Option Addr) (bs:List UInt8):Prop where
 row:Row w g A (bs.map zaa)
 typ:∀ ad,A=some ad->ad.block<g/\∃ cur fr,w.heap[ad.block]?=some (.cells cur 5 fr)
section
variable {w w' : World} {g : Nat} {A : Option Addr} {bs : List UInt8}
theorem RowB.keep_(h:RowB w g A bs)(hk:∀ k,k<g->w'.heap[k]?=w.heap[k]?):RowB w' g A bs:=
 ⟨h.row.keep fun p hp=>World.cell?_of_block (hk p.block hp),fun ad e=>by
  obtain⟨h1,cur,fr,h2⟩:=h.typ ad e;exact⟨h1,cur,fr,(hk _ h1).trans h2⟩⟩
theorem RowB.drewN(h:RowB w g A bs)(n:Nat):RowB (w.drewN n) g A bs:=⟨h.row.drewN n,h.typ⟩
theorem RowB.alloc(h:RowB w g A bs)(hB:g<=w.heap.size)(o:Obj):RowB (w.alloc o) g A bs:=h.keep_ fun k hk=>Below.heap_alloc w o k (by omega)
theorem RowB.below(h:RowB w g A bs)(hb:Below g w w'):RowB w' g A bs:=h.keep_ fun k hk=>hb.block k hk
theorem RowB.grownBy{row:Option Nat}(h:RowB w g A bs)(hg:w.grownBy w' row)(hs:g<=w.heap.size)(hr:∀ k,row=some k->g<=k):RowB w' g A bs:=
 h.keep_ fun k hk=>hg.block k (by omega) (fun e=>by have:=hr k e.symm;omega)
theorem RowB.set_(h:RowB w g A bs)(i:Nat)(u:Value):RowB (w.setCell ⟨g,i,none⟩ u) g A bs:=h.keep_ fun k hk=>Below.heap_setCell w _ u k (by show k≠g;omega)
theorem RowB.low{L:Nat}{t:TypeId}{cs:Array Value}(h:RowB w g A bs)(hL:Blk w L t cs)(ht:5≠t)(i:Nat)(u:Value):RowB (w.setCell ⟨L,i,none⟩ u) g A bs:=by
 have hne:∀ ad,A=some ad->ad.block≠L:=by
  intro ad e heq;obtain⟨_,cur,fr,h2⟩:=h.typ ad e;unfold Blk at hL;rw [heq,hL] at h2;injection h2 with h2;injection h2 with _ h3;exact ht h3.symm
 refine⟨?_,fun ad e=>?_⟩
 ·rcases h.row with hn|⟨b,o,e,hb,hc⟩
  ·exact Or.inl hn
  ·refine Or.inr ⟨b,o,e,hb,fun j hj=>?_⟩;rw [World.cell?_setCell_other _ _ _ _ (fun e2=>hne _ e (by injection e2 with e2;exact e2.symm))];exact hc j hj
 ·obtain⟨h1,cur,fr,h2⟩:=h.typ ad e;exact⟨h1,cur,fr,(Below.heap_setCell w _ u _ (hne ad e)).trans h2⟩
theorem RowB.cut(h:RowB w g A bs)(k c:Nat)(hc:bs.length<=c):RowB w g (zc7 A k c) (bs.drop k):=by
 refine⟨by rw [List.map_drop];exact zde h.row k c (by simpa using hc),fun ad e=>?_⟩;unfold zc7 at e;by_cases hk:c=k
 ·rw [if_pos hk] at e;exact h.typ ad e
 ·rw [if_neg hk] at e;cases A with
  | none=>cases e
  | some a=>
   injection e with e;have hb:(a.add k).block=a.block:=by unfold Addr.add;split<;>rfl
   rw [<-e,hb];exact h.typ a rfl
theorem RowB.new{B n c:Nat}(ho:w.ownsRow B 5 1 (slice A n c) n (bs.map zaa)):RowB w w.heap.size A bs:=by
 refine⟨Row.of_own ho,fun ad e=>?_⟩;subst e;rcases ho.2 with⟨hv,_⟩|⟨g,cap,cur,hv,_,hh,_⟩
 ·cases hv
 ·injection hv with hv;injection hv with hv;subst hv;exact⟨(Array.getElem?_eq_some_iff.1 hh).1,cur,(0,0),hh⟩
end
def Rd(w:World)(g:Nat)(bs:List UInt8)(e:Int):Prop:=∃ A c,Blk w g 280 #[slice A bs.length c,int i64 e]/\bs.length<=c/\c<=maxLen/\RowB w g A bs/\bs.length<=1073741824
def zwJ(w:World)(bs:List UInt8)(e:Ending)(w':World):Prop:=∃ g,e=.returned (pointer (some ⟨g,0,none⟩))/\w.heap.size<=g/\Rd w' g bs 0/\Below w.heap.size w w'
theorem zo9(B c n:Nat)(A:Option Addr)(bs:List UInt8)(l:n=bs.length)(w:World)(h:Row w B A (bs.map zaa))(i:B<=w.heap.size)(hl:bs.length<=1073741824) :
 Calls Tryz.prog 199 #[slice A n c] w (zwJ w bs):=by
 subst l;have j:=zhd h;clear h;go_enter Tryz.func199,Tryz.ntmps199
 go_wp2_with fail
 refine(za4 B c A bs bs.length rfl _ j.out i (by omega)).mono ?_;rintro e w1 ⟨k,c1,rfl,d,g⟩;have b:=zhd d;have a:=zhd g;clear d g;go_wp2;go_ret;refine⟨w1.heap.size,rfl,a.out.size,⟨k,c1,Blk.new w1 _ _,(zbR b.out).1,(zbR b.out).2,(RowB.new b.out).alloc (Nat.le_refl _) _,hl⟩,a.out.alloc a.out.size _⟩
theorem zhE(g:Nat)(bs:List UInt8)(e:Int)(w:World)(h:Rd w g bs e):Calls Tryz.prog 202 #[pointer (some ⟨g,0,none⟩)] w fun E w'=>E=.returned (bool (e != 0))/\w=w':=by
 obtain⟨A,c,a,_⟩:=h;have b:=a.cell 1;clear a;go_enter Tryz.func202,Tryz.ntmps202
 go_wp2;go_ret;exact⟨rfl,rfl⟩
theorem zie(g:Nat)(bs:List UInt8)(e:Int)(w:World)(h:Rd w g bs e):Calls Tryz.prog 200 #[pointer (some ⟨g,0,none⟩)] w fun E w'=>E=.returned (int i64 bs.length)/\w=w':=by
 obtain⟨A,c,a,_⟩:=h;have b:=a.cell 0;clear a;go_enter Tryz.func200,Tryz.ntmps200
 go_wp2;go_ret;exact⟨rfl,rfl⟩
def zk3(bs:List UInt8)(e:Int):Int:=if e=0 then(if bs.length=0 then 0 else 11) else e
theorem zk4(g:Nat)(bs:List UInt8)(e:Int)(w:World)(h:Rd w g bs e):Calls Tryz.prog 203 #[pointer (some ⟨g,0,none⟩)] w fun E w'=>E=.returned (int i64 (zk3 bs e))/\w=w':=by
 obtain⟨A,c,d,_⟩:=h;have j:=d.cell 0;have k:=d.cell 1;have i:Hid (zk3 bs e=if e=0 then(if bs.length=0 then 0 else 11) else e):=zhd rfl;clear d;by_cases b:e=0
 ·subst b;by_cases hl:bs.length=0
  ·have a:Hid (zk3 bs 0=0):=zhd (by rw [i.out,if_pos rfl,if_pos hl]);rw [hl] at j;go_enter Tryz.func203,Tryz.ntmps203
   go_wp2;go_ret;exact⟨zdF a.out.symm,rfl⟩
  ·have a:Hid (zk3 bs 0=11):=zhd (by rw [i.out,if_pos rfl,if_neg hl]);have l:(0:Int)<(bs.length:Int):=by omega
   go_enter Tryz.func203,Tryz.ntmps203
   go_wp2;go_ret;exact⟨zdF a.out.symm,rfl⟩
 ·have a:Hid (zk3 bs e=e):=zhd (by rw [i.out,if_neg b]);have m:(e != 0)=true:=by simpa using b
  clear b;go_enter Tryz.func203,Tryz.ntmps203
  go_wp2;go_ret;exact⟨zdF a.out.symm,rfl⟩
theorem zdn(g:Nat)(bs:List UInt8)(w:World)(h:Rd w g bs 0):Calls Tryz.prog 202 #[pointer (some ⟨g,0,none⟩)] w fun E w'=>E=.returned (bool false)/\w=w':=zhE g bs 0 w h
theorem zco(g:Nat)(bs:List UInt8)(e:Int)(a:e≠0)(w:World)(h:Rd w g bs e):Calls Tryz.prog 202 #[pointer (some ⟨g,0,none⟩)] w fun E w'=>E=.returned (bool true)/\w=w':=
 (zhE g bs e w h).mono fun _ _ ⟨h1,h2⟩=>⟨by rw [h1];simp [a],h2⟩
theorem ztD{w:World}{g:Nat}{bs:List UInt8}{A:Option Addr}{c:Nat}{d:Int}(b:Blk w g 280 #[slice A bs.length c,int i64 d])(hc:bs.length<=c)(i:c<=maxLen)(h:RowB w g A bs)(hl:bs.length<=1073741824)(k:Nat)(a:Int) :
 Rd ((w.setCell ⟨g,0,none⟩ (slice (zc7 A k c) (bs.length - k) (c - k))).setCell ⟨g,1,none⟩ (int i64 a)) g (bs.drop k) a:=by
 refine⟨zc7 A k c,c - k,?_,by rw [List.length_drop];omega,by omega,?_,by rw [List.length_drop];omega⟩
 ·have:=(b.set_ 0 (slice (zc7 A k c) (bs.length - k) (c - k))).set_ 1 (int i64 a);rw [List.length_drop];exact this
 ·exact((h.cut k c hc).set_ 0 _).set_ 1 _
theorem zmA(w:World)(g:Nat)(u v:Value):w.grownBy ((w.setCell ⟨g,0,none⟩ u).setCell ⟨g,1,none⟩ v) (some g):=zaf (zap w g 0 u) (zap _ g 1 v)
theorem zfx(w:World)(n:Nat)(g:Option Nat):w.grownBy (w.drewN n) g:=⟨rfl,rfl,rfl,Nat.le_refl _,fun _ _ _=>rfl⟩
def zpa(g:Nat)(v:Value)(bs:List UInt8)(e:Int)(w:World)(E:Ending)(w':World):Prop:=E=.returned v/\Rd w' g bs e/\w.grownBy w' (some g)
theorem zjx{w w1:World}{g:Nat}{bs:List UInt8}{A:Option Addr}{c:Nat}{d:Int}{v b:Value}(m:v=b)(i:Blk w1 g 280 #[slice A bs.length c,int i64 d])(hc:bs.length<=c)(j:c<=maxLen)(l:RowB w1 g A bs)(hl:bs.length<=1073741824)(k:Nat)(a:Int)(h:w.grownBy w1 (some g)) :
 zpa g b (bs.drop k) a w (.returned v) ((w1.setCell ⟨g,0,none⟩ (slice (zc7 A k c) (bs.length - k) (c - k))).setCell ⟨g,1,none⟩ (int i64 a)):=by
 subst m;exact⟨rfl,ztD i hc j l hl k a,zaf h (zmA _ _ _ _)⟩
theorem zny(g:Nat)(bs:List UInt8)(a:Int)(b:a≠0)(F:Value)(w:World)(h:Rd w g bs a):Calls Tryz.prog 223 #[pointer (some ⟨g,0,none⟩),F] w (fun E w'=>E=.returned (int i64 0)/\w=w'):=by
 have d:=zhd h;have c:=zhd b;clear h b;go_enter Tryz.func223,Tryz.ntmps223
 go_wp2_with (go_at_call 202;refine(zco g bs a c.out _ d.out).mono ?_;rintro e w' ⟨rfl,rfl⟩)
 go_ret;exact⟨rfl,rfl⟩
def stepN(bs:List UInt8)(e:Int):Int×List UInt8×Int:=if e=0 then((zbP bs).1,bs.drop (zbP bs).2.1,(zbP bs).2.2) else(0,bs,e)
theorem zrW(B c p:Nat)(A:Option Addr)(bs:List UInt8)(m:Int)(w:World)(j:w.cell? ⟨p,0,none⟩=some (int i64 m))(h:Row w B A (bs.map zaa))(hc:bs.length<=c)(i:c<=maxLen) :
 Calls Tryz.prog 224 #[slice A bs.length c,pointer (some ⟨p,0,none⟩)] w (ztz (zcg m bs) w):=by
 obtain⟨x,k,d,a⟩:∃ x k d,zcg m bs=(x,k,d):=⟨_,_,_,rfl⟩;have g:=zhd h;have b:=zhd a;clear a h;go_enter Tryz.func224,Tryz.ntmps224
 go_wp2_with (go_at_call 219;refine(zjv B c A bs m _ g.out hc i).mono ?_;rw [b.out];rintro e w' ⟨rfl,nq,rfl⟩;unfold zcn)
 go_ret3
 rw [b.out];exact zcv rfl rfl rfl w _
theorem zif(g p:Nat)(bs:List UInt8)(m:Int)(w:World)(h:Rd w g bs 0)(s:w.cell? ⟨p,0,none⟩=some (int i64 m)):Calls Tryz.prog 223 #[pointer (some ⟨g,0,none⟩),.func (.func 224) #[] #[pointer (some ⟨p,0,none⟩)]] w
 (zpa g (int i64 (zcg m bs).1) (bs.drop (zcg m bs).2.1) (zcg m bs).2.2 w):=by
 have v:=zhd h;obtain⟨A,c,a,hc,t,q,hl⟩:=h;have D:=a.cell 0;have B:=a.cell 1;have C:=a.frozen 0;have z:=a.frozen 1;have o:(zcg m bs).2.1<=bs.length:=by rcases zb4 m bs with h|h<;>omega
 obtain⟨x,k,b,d⟩:∃ x k b,zcg m bs=(x,k,b):=⟨_,_,_,rfl⟩;rw [d] at o;have hcut:=fun W=>zdm (P:=Tryz.prog) (w:=W) 27 5 _ _ Tryz.underlying27 zaB A bs.length c k o;have j:=zhd d;have y:=zhd a;have i:=zhd q;have l:=zhd hc;have r:=zhd t;have u:=zhd s;clear a q d hc t s;go_enter Tryz.func223,Tryz.ntmps223
 go_wp2_with (first
  | (go_at_call 202;refine(zdn g bs _ v.out).mono ?_;rintro e w' ⟨rfl,rfl⟩)
  | (go_at_call 224;refine(zrW g c p A bs m _ u.out i.out.row l.out r.out).mono ?_;rw [j.out];rintro e w' ⟨rfl,nq,rfl⟩;unfold zcn))
 go_ret;rw [j.out];exact zjx rfl (y.out.drewN nq) l.out r.out (i.out.drewN nq) hl k b (zfx w nq _)
def zbS(m:Int)(bs:List UInt8)(e:Int):Int×List UInt8×Int:=if e=0 then((zcg m bs).1,bs.drop (zcg m bs).2.1,(zcg m bs).2.2) else(0,bs,e)
theorem zbO{w:World}{g:Nat}{bs:List UInt8}{e:Int}(h:Rd w g bs e)(o:Obj):Rd (w.alloc o) g bs e:=by
 obtain⟨A,c,a,hc,b,d,hl⟩:=h;exact⟨A,c,a.alloc o,hc,b,d.alloc (Nat.le_of_lt a.lt) o,hl⟩
theorem rd_lt{w:World}{g:Nat}{bs:List UInt8}{e:Int}(h:Rd w g bs e):g<w.heap.size:=by
 obtain⟨A,c,a,_⟩:=h;exact a.lt
theorem zfy(g:Nat)(bs:List UInt8)(m a:Int)(w:World)(h:Rd w g bs a):Calls Tryz.prog 220 #[pointer (some ⟨g,0,none⟩),int i64 m] w (zpa g (int i64 (zbS m bs a).1) (zbS m bs a).2.1 (zbS m bs a).2.2 w):=by
 have c:=zhd (zbO h (.cells #[int i64 m] 3));clear h;have q:Hid ((w.alloc (.cells #[int i64 m] 3)).cell? ⟨w.heap.size,0,none⟩=some (int i64 m)):=zhd ((Blk.new w 3 #[int i64 m]).cell 0);have k:=zhd (World.grownBy_alloc w (.cells #[int i64 m] 3) (some g));have r:∀ (fn:Fn) (first cap:Array Value) (w:World),(Instr.makeFunc fn first cap).run Tryz.prog w=.ok (.func fn first cap) w:=fun _ _ _ _=>rfl;by_cases b:a=0
 ·subst b;have d:Hid (zbS m bs 0=((zcg m bs).1,bs.drop (zcg m bs).2.1,(zcg m bs).2.2)):=zhd (if_pos rfl);rw [d.out];go_enter Tryz.func220,Tryz.ntmps220
  go_wp2_with (go_at_call 223;refine(zif g w.heap.size bs m _ c.out q.out).mono ?_;rintro e w1 ⟨rfl,j,i⟩;have l:=zhd j;have o:=zhd i;clear j i)
  go_ret;exact⟨rfl,l.out,zaf k.out o.out⟩
 ·have d:Hid (zbS m bs a=(0,bs,a)):=zhd (if_neg b);rw [d.out];have p:=zhd b;clear b;go_enter Tryz.func220,Tryz.ntmps220
  go_wp2_with (go_at_call 223;refine(zny g bs a p.out _ _ c.out).mono ?_;rintro e w1 ⟨rfl,rfl⟩)
  go_ret;exact⟨rfl,c.out,k.out⟩
def zwK(r:List UInt8×Nat×Int)(w:World)(e:Ending)(w':World):Prop:=∃ A c,e=.returned (.tuple #[slice A r.1.length c,int i64 r.2.1,int i64 r.2.2])/\w'.ownsRow w.heap.size 5 1 (slice A r.1.length c) r.1.length (r.1.map zaa)/\Below w.heap.size w w'
theorem zmB(k:Nat)(a:Int)(w:World)(n:Nat)(r:List UInt8×Nat×Int)(b:r=([],k,a)):zwK r w (.returned (.tuple #[slice none 0 0,int i64 (k:Int),int i64 a])) (w.drewN n):=by
 subst b;exact⟨none,0,rfl,World.ownsRow_nil _ _ _ _,⟨rfl,rfl,rfl,Nat.le_refl _,fun _ _=>rfl⟩⟩
theorem znz(w:World)(n B:Nat):Below B w (w.drewN n):=⟨rfl,rfl,rfl,Nat.le_refl _,fun _ _=>rfl⟩
theorem zuf(bs:List UInt8)(x:Int)(k:Nat)(e:Int)(a:zcg 65537 bs=(x,k,e)) :
 za2 bs=if ¬ e=0 then([],0,e) else if(bs.length:Int) - k<x then([],0,12) else((bs.drop k).take x.toNat,k+x.toNat,0):=by
 unfold zcg at a;by_cases h:(zbP bs).2.2=0/\((zbP bs).1<0\/65537<=(zbP bs).1)
 ·rw [if_pos h] at a;simp only [Prod.mk.injEq] at a;obtain⟨rfl,rfl,rfl⟩:=a;unfold za2;rw [if_neg (by simpa using h.1),if_pos h.2,if_pos (by decide)]
 ·rw [if_neg h] at a;unfold za2;rw [a] at h ⊢;simp only at h ⊢;by_cases b:e=0
  ·rw [if_neg (fun c=>c b),if_neg (fun d=>h ⟨b,d⟩)];exact(if_neg (fun c=>c b)).symm
  ·rw [if_pos b,if_pos b]
set_option maxRecDepth 100000 in
theorem zk5(B c:Nat)(A:Option Addr)(bs:List UInt8)(w:World)(h:Row w B A (bs.map zaa))(hB:B<=w.heap.size)(hc:bs.length<=c)(hm:c<=maxLen)(hln:bs.length<=1073741824) :
 Calls Tryz.prog 214 #[slice A bs.length c] w (zwK (za2 bs) w):=by
 have HR:=zhd h
 have he:=zb4 65537 bs
 obtain⟨x,k,e,hg⟩:∃ x k e,zcg 65537 bs=(x,k,e):=⟨_,_,_,rfl⟩
 have hRB:=zuf bs x k e hg
 rw [hg] at he
 have HG:=zhd hg
 have HC:Hid (Calls Tryz.prog 219 #[slice A bs.length c,int i64 65537] w (ztz (x,k,e) w)):=zhd (by rw [<-HG.out];exact zjv B c A bs 65537 w HR.out hc hm)
 clear h hg hm
 simp only at he
 by_cases h0:e=0
 ·subst h0
  rw [if_neg (by simp)] at hRB
  have hb:1<=k/\k<=bs.length/\0<=x/\x<65537:=by rcases he with⟨_,h1,h2,h3,h4,_⟩|⟨_,_,h⟩<;>omega
  obtain⟨b1,b2,b3,b4⟩:=hb
  clear he
  by_cases h2:(bs.length:Int) - k<x
  ·rw [if_pos h2] at hRB
   have HX:=zhd hRB
   clear hRB
   go_enter Tryz.func214,Tryz.ntmps214
   go_wp2_with (go_at_call 219;refine HC.out.mono ?_;rintro e w' ⟨rfl,nq,rfl⟩;unfold zcn)
   go_ret3
   exact zmB 0 12 w _ _ HX.out
  ·rw [if_neg h2] at hRB
   have hx:=Int.toNat_of_nonneg b3
   obtain⟨m,hm'⟩:∃ m,x.toNat=m:=⟨_,rfl⟩
   rw [hm'] at hx hRB
   subst hx
   obtain⟨ys,hys⟩:∃ ys,(bs.drop k).take m=ys:=⟨_,rfl⟩
   rw [hys] at hRB
   have HX:=zhd hRB
   have hcut:=fun W=>zcj (P:=Tryz.prog) (w:=W) 27 5 _ _ Tryz.underlying27 zaB A bs.length c k (k+m) (by omega) (by omega)
   rw [Nat.add_sub_cancel_left,Int.natCast_add] at hcut
   have hle:(m:Int)<=(bs.length:Int) - k:=by omega
   have hl:(bs.length:Int)<=1073741824:=by omega
   have HY:Hid (Row w B (zc7 A k c) (ys.map zaa)):=zhd (by
    rw [<-hys]
    have:=zby (zde HR.out k c (by simpa using hc)) m
    rw [List.map_take,List.map_drop];exact this)
   have hlm:ys.length=m:=by rw [<-hys,List.length_take,List.length_drop];omega
   have HL:=zhd hlm
   clear hRB hm' h2 hlm b4 hys
   go_enter Tryz.func214,Tryz.ntmps214
   go_wp2_with (first
    | (go_at_call 219;refine HC.out.mono ?_;rintro e w' ⟨rfl,nq,rfl⟩;unfold zcn)
    | (go_at_call 71;refine(za4 B (c - k) (zc7 A k c) ys m HL.out.symm _ (HY.out.drewN _) (by exact hB) (by rw [HL.out];omega)).mono ?_;rintro e w1 ⟨A1,c1,rfl,ho,hb⟩;have HO:=zhd ho;have HB:=zhd hb;clear ho hb))
   go_ret3
   rw [HX.out]
   exact⟨A1,c1,rfl,HO.out,(znz w nq _).trans HB.out⟩
 ·rw [if_pos h0] at hRB
  have HX:=zhd hRB
  have hne:(e != 0)=true:=by simpa using h0
  clear hRB he h0
  go_enter Tryz.func214,Tryz.ntmps214
  go_wp2_with (go_at_call 219;refine HC.out.mono ?_;rintro e w' ⟨rfl,nq,rfl⟩;unfold zcn)
  go_ret3
  exact zmB 0 e w _ _ HX.out
end
section
open Go.RowKit Mem Be
def zig(g:Nat)(ys bs:List UInt8)(e:Int)(w:World)(E:Ending)(w':World):Prop:=
 ∃ A c,E=.returned (slice A ys.length c)/\w'.ownsRow w.heap.size 5 1 (slice A ys.length c) ys.length (ys.map zaa)/\Rd w' g bs e/\w.grownBy w' (some g)
theorem zpb{w:World}{B g i:Nat}{e:TypeId}{v:Value}{n:Nat}{a:List Value}(h:w.ownsRow B e 1 v n a)(b:g<B)(u:Value):(w.setCell ⟨g,i,none⟩ u).ownsRow B e 1 v n a:=by
 refine h.kept (zap w g i u) ?_;cases hv:v.ownBlock with
 | none=>exact Or.inl rfl
 | some k=>exact Or.inr (fun e=>by injection e with e;have:=(h.lt k hv).1;omega)
theorem zjy{w w1:World}{g:Nat}{a bs:List UInt8}{A b:Option Addr}{c c1:Nat}{i:Int}(h:g<w.heap.size)(j:w1.ownsRow w.heap.size 5 1 (slice b a.length c1) a.length (a.map zaa))(m:Blk w1 g 280 #[slice A bs.length c,int i64 i])(hc:bs.length<=c)(o:c<=maxLen)(p:RowB w1 g A bs)(hl:bs.length<=1073741824)(k:Nat)(d:Int)(l:w.grownBy w1 (some g)) :
 zig g a (bs.drop k) d w (.returned (slice b a.length c1)) ((w1.setCell ⟨g,0,none⟩ (slice (zc7 A k c) (bs.length - k) (c - k))).setCell ⟨g,1,none⟩ (int i64 d)):=
 ⟨b,c1,rfl,zpb (zpb j h _) h _,ztD m hc o p hl k d,zaf l (zmA _ _ _ _)⟩
theorem zk6(g:Nat)(bs:List UInt8)(w:World)(h:Rd w g bs 0):Calls Tryz.prog 213 #[pointer (some ⟨g,0,none⟩),.func (.func 214) #[] #[]] w
 (zig g (za2 bs).1 (bs.drop (za2 bs).2.1) (za2 bs).2.2 w):=by
 have D:=zhd h;have l:=zhd (rd_lt h);obtain⟨A,c,i,hc,o,m,hl⟩:=h;have K:=i.cell 0;have p:(za2 bs).2.1<=bs.length:=by rcases zdG bs with h|h<;>omega
 obtain⟨C,k,b,d⟩:∃ x k b,za2 bs=(x,k,b):=⟨_,_,_,rfl⟩;rw [d] at p;have hcut:=fun W=>zdm (P:=Tryz.prog) (w:=W) 27 5 _ _ Tryz.underlying27 zaB A bs.length c k p;have F:Hid (Calls Tryz.prog 214 #[slice A bs.length c] w (zwK (C,k,b) w)):=zhd (by rw [<-d];exact zk5 g c A bs w m.row (Nat.le_of_lt i.lt) hc o hl);have y:=zhd d;have E:=zhd i;have s:=zhd m;have v:=zhd hc;have z:=zhd o;clear i m d hc o;go_enter Tryz.func213,Tryz.ntmps213
 go_wp2_with (first
  | (go_at_call 202;refine(zdn g bs _ D.out).mono ?_;rintro e w' ⟨rfl,rfl⟩)
  | (go_at_call 214;refine F.out.mono ?_;rintro e w1 ⟨J,c1,rfl,q,j⟩;have u:=zhd q;have r:=zhd j;(have a:=zhd (E.out.below j l.out));(have B:=a.out.cell 0);(have t:=a.out.cell 1);(have G:=a.out.frozen 0);(have I:=a.out.frozen 1);simp only [List.getElem?_toArray,List.getElem?_cons_zero,List.getElem?_cons_succ] at B t;clear q j))
 go_ret;rw [y.out];exact zjy l.out u.out a.out v.out z.out (s.out.below (r.out.mono (Nat.le_of_lt l.out))) hl k b (zbQ r.out (Nat.le_refl _) _)
theorem znA(g:Nat)(bs:List UInt8)(a:Int)(b:a≠0)(F:Value)(w:World)(h:Rd w g bs a):Calls Tryz.prog 213 #[pointer (some ⟨g,0,none⟩),F] w (fun E w'=>E=.returned (slice none 0 0)/\w=w'):=by
 have d:=zhd h;have c:=zhd b;clear h b;go_enter Tryz.func213,Tryz.ntmps213
 go_wp2_with (go_at_call 202;refine(zco g bs a c.out _ d.out).mono ?_;rintro e w' ⟨rfl,rfl⟩)
 go_ret;exact⟨rfl,rfl⟩
def zbz(bs:List UInt8)(e:Int):List UInt8×List UInt8×Int:=if e=0 then((za2 bs).1,bs.drop (za2 bs).2.1,(za2 bs).2.2) else([],bs,e)
theorem zgh(g:Nat)(bs:List UInt8)(a:Int)(w:World)(h:Rd w g bs a):Calls Tryz.prog 201 #[pointer (some ⟨g,0,none⟩)] w (zig g (zbz bs a).1 (zbz bs a).2.1 (zbz bs a).2.2 w):=by
 have c:=zhd h;clear h;by_cases b:a=0
 ·subst b;have d:Hid (zbz bs 0=((za2 bs).1,bs.drop (za2 bs).2.1,(za2 bs).2.2)):=zhd (if_pos rfl);rw [d.out];go_enter Tryz.func201,Tryz.ntmps201
  go_wp2_with (go_at_call 213;refine(zk6 g bs _ c.out).mono ?_;rintro e w1 ⟨p,c1,rfl,i,k,j⟩;have m:=zhd i;have l:=zhd k;have o:=zhd j;clear k j i)
  go_ret;exact⟨p,c1,rfl,m.out,l.out,o.out⟩
 ·have d:Hid (zbz bs a=([],bs,a)):=zhd (if_neg b);rw [d.out];have q:=zhd b;clear b;go_enter Tryz.func201,Tryz.ntmps201
  go_wp2_with (go_at_call 213;refine(znA g bs a q.out _ _ c.out).mono ?_;rintro e w1 ⟨rfl,rfl⟩)
  go_ret;exact⟨none,0,rfl,World.ownsRow_nil _ _ _ _,c.out,zdl _ _⟩
theorem zih(g:Nat)(bs:List UInt8)(w:World)(h:Rd w g bs 0):Calls Tryz.prog 225 #[pointer (some ⟨g,0,none⟩),.func (.func 226) #[] #[]] w
 (zpa g (bool (zdj bs).1) (bs.drop (zdj bs).2.1) (zdj bs).2.2 w):=by
 have p:=zhd h;obtain⟨A,c,a,hc,m,o,hl⟩:=h;have y:=a.cell 0;have u:=a.cell 1;have v:=a.frozen 0;have t:=a.frozen 1;have l:(zdj bs).2.1<=bs.length:=by rcases zgf bs with h|h<;>omega
 obtain⟨x,k,d,b⟩:∃ x k d,zdj bs=(x,k,d):=⟨_,_,_,rfl⟩;rw [b] at l;have hcut:=fun W=>zdm (P:=Tryz.prog) (w:=W) 27 5 _ _ Tryz.underlying27 zaB A bs.length c k l;have j:=zhd b;have q:=zhd a;have i:=zhd o;have r:=zhd hc;have s:=zhd m;clear a o b hc m;go_enter Tryz.func225,Tryz.ntmps225
 go_wp2_with (first
  | (go_at_call 202;refine(zdn g bs _ p.out).mono ?_;rintro e w' ⟨rfl,rfl⟩)
  | (go_at_call 226;refine(zo7 g c A bs _ i.out.row).mono ?_;rw [j.out];rintro e w' ⟨rfl,rfl⟩;unfold zue))
 go_ret;rw [j.out];exact zjx rfl q.out r.out s.out i.out hl k d (zdl w _)
theorem zjz(g:Nat)(bs:List UInt8)(a:Int)(b:a≠0)(F:Value)(w:World)(h:Rd w g bs a):Calls Tryz.prog 225 #[pointer (some ⟨g,0,none⟩),F] w (fun E w'=>E=.returned (bool false)/\w=w'):=by
 have d:=zhd h;have c:=zhd b;clear h b;go_enter Tryz.func225,Tryz.ntmps225
 go_wp2_with (go_at_call 202;refine(zco g bs a c.out _ d.out).mono ?_;rintro e w' ⟨rfl,rfl⟩)
 go_ret;exact⟨rfl,rfl⟩
def zeG(bs:List UInt8)(e:Int):Bool×List UInt8×Int:=if e=0 then((zdj bs).1,bs.drop (zdj bs).2.1,(zdj bs).2.2) else(false,bs,e)
theorem zhF(g:Nat)(bs:List UInt8)(a:Int)(w:World)(h:Rd w g bs a):Calls Tryz.prog 221 #[pointer (some ⟨g,0,none⟩)] w (zpa g (bool (zeG bs a).1) (zeG bs a).2.1 (zeG bs a).2.2 w):=by
 have d:=zhd h;clear h;by_cases b:a=0
 ·subst b;have c:Hid (zeG bs 0=((zdj bs).1,bs.drop (zdj bs).2.1,(zdj bs).2.2)):=zhd (if_pos rfl);rw [c.out];go_enter Tryz.func221,Tryz.ntmps221
  go_wp2_with (go_at_call 225;refine(zih g bs _ d.out).mono ?_;rintro e w1 ⟨rfl,j,i⟩;have m:=zhd j;have k:=zhd i;clear j i)
  go_ret;exact⟨rfl,m.out,k.out⟩
 ·have c:Hid (zeG bs a=(false,bs,a)):=zhd (if_neg b);rw [c.out];have l:=zhd b;clear b;go_enter Tryz.func221,Tryz.ntmps221
  go_wp2_with (go_at_call 225;refine(zjz g bs a l.out _ _ d.out).mono ?_;rintro e w1 ⟨rfl,rfl⟩)
  go_ret;exact⟨rfl,d.out,zdl _ _⟩
theorem zpc(g:Nat)(bs:List UInt8)(b:Int)(w:World)(h:Rd w g bs b):Calls Tryz.prog 217 #[pointer (some ⟨g,0,none⟩)] w (fun E w'=>E=.returned (.tuple #[])/\Rd w' g bs (if b=0 then 11 else b)/\w.grownBy w' (some g)):=by
 have i:=zhd h;obtain⟨A,c,a,hc,j,k,hl⟩:=h;by_cases d:b=0
 ·subst d;have p:=a.cell 1;have o:=a.frozen 1;have q:=zhd a;have l:Hid (Rd (w.setCell ⟨g,1,none⟩ (int i64 11)) g bs 11):=zhd ⟨A,c,a.set_ 1 _,hc,j,k.set_ 1 _,hl⟩;rw [if_pos rfl];clear a k hc j;go_enter Tryz.func217,Tryz.ntmps217
  go_wp2_with (go_at_call 202;refine(zdn g bs _ i.out).mono ?_;rintro e w' ⟨rfl,rfl⟩)
  first|go_end0|refine bodyPost_ret (results_none rfl _ _ _) rfl ?_
  exact⟨rfl,l.out,zap w g 1 _⟩
 ·rw [if_neg d];have m:=zhd d;clear a k hc j d;go_enter Tryz.func217,Tryz.ntmps217
  go_wp2_with (go_at_call 202;refine(zco g bs b m.out _ i.out).mono ?_;rintro e w' ⟨rfl,rfl⟩)
  first|go_end0|refine bodyPost_ret (results_none rfl _ _ _) rfl ?_
  exact⟨rfl,i.out,zdl _ _⟩
theorem zii{w w':World}{g:Nat}{bs:List UInt8}{e:Int}(h:Rd w g bs e)(b:Below w.heap.size w w'):Rd w' g bs e:=by
 obtain⟨A,c,a,hc,d,i,hl⟩:=h;exact⟨A,c,a.below b a.lt,hc,d,i.below (b.mono (Nat.le_of_lt a.lt)),hl⟩
theorem zrX{w w':World}{g g2:Nat}{bs:List UInt8}{e:Int}(h:Rd w g bs e)(a:w.grownBy w' (some g2))(j:g<g2):Rd w' g bs e:=by
 obtain⟨A,c,b,hc,d,i,hl⟩:=h;exact⟨A,c,b.grown a (fun e=>by injection e with e;omega),hc,d,i.grownBy a (Nat.le_of_lt b.lt) (fun k e=>by injection e with e;omega),hl⟩
theorem zhG{w w':World}{g:Nat}{bs:List UInt8}{e:Int}{row:Option Nat}(h:Rd w g bs e)(a:w.grownBy w' row)(d:∀ k,row=some k->g<k):Rd w' g bs e:=by
 obtain⟨A,c,b,hc,i,j,hl⟩:=h;exact⟨A,c,b.grown a (fun e=>Nat.lt_irrefl _ (d g e.symm)),hc,i,j.grownBy a (Nat.le_of_lt b.lt) (fun k e=>Nat.le_of_lt (d k e)),hl⟩
theorem zpd{w:World}{g:Nat}{bs:List UInt8}{e:Int}(h:Rd w g bs e):Rd w.drew g bs e:=by
 obtain⟨A,c,a,hc,b,d,hl⟩:=h;exact⟨A,c,a.drew,hc,b,d.drewN 1,hl⟩
end
section
open Go.RowKit Mem Be
def At3(r:Int×Nat×Int)(at_:Nat)(w:World)(e:Ending)(w':World):Prop:=e=zcn r.1 ((at_+r.2.1:Nat):Int) r.2.2/\w=w'
theorem zdH{r:Int×Nat×Int}{x:Int}{k:Nat}{e:Int}(g:r=(x,k,e)){at_:Nat}{a b:Int}(c:a=x)(d:b=((at_+k:Nat):Int))(w:World) :
 At3 r at_ w (.returned (.tuple #[int i64 a,int i64 b,int i64 e])) w:=by
 subst g;exact⟨zmy c d rfl,rfl⟩
theorem zk7(c n at_:Nat)(A:Option Addr)(a:n<=at_)(w:World):Calls Tryz.prog 161 #[slice A n c,int i64 at_] w (At3 (zbP []) at_ w):=by
 have h:(n:Int)<=(at_:Int):=by omega
 go_enter Tryz.func161,Tryz.ntmps161
 go_wp2;go_ret3
 exact zdH (show zbP []=(0,0,12) from rfl) rfl (by omega) w
theorem zk8(c n at_:Nat)(b o:Nat)(a:UInt8)(rest:List UInt8)(s:n=at_+(rest.length+1))(hl:n<=1073741824)(w:World)(h:∀ j (h:j<(a :: rest).length),w.cell? ⟨b,o+(at_+j),none⟩=some (zaa (a :: rest)[j])) :
 Calls Tryz.prog 161 #[slice (some ⟨b,o,none⟩) n c,int i64 at_] w (At3 (zbP (a :: rest)) at_ w):=by
 have U:w.cell? ⟨b,o+at_,none⟩=some (int .u8 (a.toNat:Int)):=h 0 (by simp);have S:=a.toNat_lt;have M:(at_:Int)<(n:Int):=by omega
 have N:at_<n:=by omega
 have O:(n:Int)<=1073741824:=by omega
 have W:=zhd s;by_cases p:8<a.toNat
 ·have I:(8:Int)<(a.toNat:Int):=by omega
  have d:=zhd (ztA a rest p);clear h s;go_enter Tryz.func161,Tryz.ntmps161
  go_wp2;go_ret3
  exact zdH d.out rfl (by omega) w
 have I:(a.toNat:Int)<=8:=by omega
 by_cases l:rest.length<a.toNat
 ·have J:(n:Int)<(at_:Int)+1+(a.toNat:Int):=by omega
  have d:=zhd (ztB a rest p l);clear h s;go_enter Tryz.func161,Tryz.ntmps161
  go_wp2;go_ret3
  exact zdH d.out rfl (by omega) w
 have J:(at_:Int)+1+(a.toNat:Int)<=(n:Int):=by omega
 have z:Hid (∀ j (h:j<rest.length),w.cell? ⟨b,o+(at_+1+j),none⟩=some (int .u8 (rest[j].toNat:Int))):=zhd (fun j E=>by
  have:=h (j+1) (by simpa using E);rw [show at_+1+j=at_+(j+1) by omega,this,List.getElem_cons_succ];rfl)
 have R:a.toNat<=rest.length:=by omega
 have G:Hid (zbP (a :: rest)=if 0<a.toNat/\(rest.headD 0).toNat=0 then(0,0,11) else(iZ (rd (rest.take a.toNat)),1+a.toNat,0)):=zhd (by
  by_cases g:0<a.toNat/\(rest.headD 0).toNat=0
  ·rw [if_pos g]
   match rest,l,g with
   | [],l,g=>exact absurd g.1 (by simp at l;omega)
   | y :: more,l,g=>exact ztC a y more p l g.1 g.2
  ·rw [if_neg g];exact zo6 a rest p l g)
 have K:Hid (0<rest.length->w.cell? ⟨b,o+(at_+1),none⟩=some (int .u8 ((rest.headD 0).toNat:Int))):=zhd (fun A=>by
  have:=z.out 0 A;rw [Nat.add_zero] at this;rw [this]
  match rest,A with
  | y :: more,_=>rfl)
 clear h p l s;go_enter Tryz.func161,Tryz.ntmps161
 go_wp2;go_loop [8,9] (fun u i=>∃ k:Nat,k<=a.toNat/\i=int i64 k/\u=int .u64 (rd (rest.take k))) (fun _ i=>a.toNat - (intOf i).toNat)
 case atStart=>exact⟨0,by omega,rfl,rfl⟩
 case round=>
  obtain⟨k,T,rfl,rfl⟩:=hrel;by_cases x:k<a.toNat
  ·have Q:=z.out k (by omega);have y:=zb2 (rest.take k);have X:=zmz rest k (by omega);have Y:=(rest[k]'(by omega)).toNat_lt;have C:at_+1+k<n:=by omega
   go_wp2;go_round
   case rel=>exact⟨k+1,by omega,by go_num,by rw [zeE rest k (by omega)]⟩
   case measure=>simp [intOf];omega
  ·have D:k=a.toNat:=by omega
   subst D;have d:=G.out;by_cases v:a.toNat=0
   ·rw [if_neg (by omega)] at d;have q:=zhd d;have F:(a.toNat:Int)<=0:=by omega
    clear d x v;go_wp2;go_ret3
    exact zdH q.out (zk1 _) (by omega) w
   ·have F:(0:Int)<(a.toNat:Int):=by omega
    have t:=K.out (by omega);have C:at_+1<n:=by omega
    by_cases m:(rest.headD 0).toNat=0
    ·rw [if_pos ⟨by omega,m⟩] at d;have q:=zhd d;rw [m] at t;have L:w.cell? ⟨b,o+(at_+1),none⟩=some (int .u8 0):=t;clear d x t m v;go_wp2;go_ret3
     exact zdH q.out rfl (by omega) w
    ·rw [if_neg (fun h=>m h.2)] at d;have q:=zhd d;obtain⟨r,B⟩:∃ r,(rest.headD 0).toNat=r:=⟨_,rfl⟩;rw [B] at t m;have V:((r:Int)==0)=false:=by simpa using m
     clear d x m v B;go_wp2;go_ret3
     exact zdH q.out (zk1 _) (by omega) w
theorem zfz(B c n at_:Nat)(A:Option Addr)(bs:List UInt8)(w:World)(h:Row w B A (bs.map zaa))(q:n=bs.length)(hl:n<=1073741824) :
 Calls Tryz.prog 161 #[slice A n c,int i64 at_] w (At3 (zbP (bs.drop at_)) at_ w):=by
 subst q;rcases Nat.lt_or_ge at_ bs.length with a|a
 ·obtain⟨b,o,rfl,_,m⟩:=h.open_ (by simp;omega);obtain⟨g,rest,d⟩:∃ g rest,bs.drop at_=g :: rest:=⟨_,_,List.drop_eq_getElem_cons a⟩;rw [d];have p:(bs.drop at_).length=rest.length+1:=by rw [d];rfl
  rw [List.length_drop] at p;refine zk8 c _ at_ b o g rest (by omega) hl w fun j k=>?_;have i:j<(bs.drop at_).length:=by rw [d];exact k
  have l:at_+j<bs.length:=by rw [List.length_drop] at i;omega
  have:=m (at_+j) (by simpa using l);rw [this,List.getElem_map]
  congr 2
  have:(bs.drop at_)[j]'i=bs[at_+j]:=List.getElem_drop ..;rw [<-this]
  congr 1
 ·rw [List.drop_of_length_le a];exact zk7 c _ at_ A a w
def zvx(B:Nat)(r:List UInt8×Nat×Int)(at_:Nat)(w:World)(e:Ending)(w':World):Prop:=
 ∃ A c,e=.returned (.tuple #[slice A r.1.length c,int i64 ((at_+r.2.1:Nat):Int),int i64 r.2.2])/\Row w B A (r.1.map zaa)/\w=w'
theorem ze4{B:Nat}{r:List UInt8×Nat×Int}{k:Nat}{e:Int}(c:r=([],k,e)){at_:Nat}{a:Int}(b:a=((at_+k:Nat):Int))(w:World) :
 zvx B r at_ w (.returned (.tuple #[slice none 0 0,int i64 a,int i64 e])) w:=by
 subst c;exact⟨none,0,by rw [b];rfl,Row.nil _ _ _,rfl⟩
set_option maxRecDepth 100000 in
theorem zij(B c n at_:Nat)(A:Option Addr)(bs:List UInt8)(w:World)(h:Row w B A (bs.map zaa))(hn:n=bs.length)(hl:n<=1073741824)(hc:n<=c)(ha:at_<=n) :
 Calls Tryz.prog 134 #[slice A n c,int i64 at_] w (zvx B (za2 (bs.drop at_)) at_ w):=by
 have HR:=zhd h
 have HNN:=zhd hn
 have he:=zb4 65537 (bs.drop at_)
 have hen:=zeZ (bs.drop at_)
 obtain⟨x,k,e,hg⟩:∃ x k e,zbP (bs.drop at_)=(x,k,e):=⟨_,_,_,rfl⟩
 have hdef:za2 (bs.drop at_)=if ¬ e=0 then([],0,e) else if x<0\/65537<=x then([],0,11) else if((bs.drop at_).length:Int) - k<x then([],0,12) else(((bs.drop at_).drop k).take x.toNat,k+x.toNat,0):=by
  unfold za2;rw [hg]
 have hdl:(bs.drop at_).length=n - at_:=by rw [List.length_drop,hn]
 rw [hdl] at hdef
 rw [hg,hdl] at hen
 have HC:Hid (Calls Tryz.prog 161 #[slice A n c,int i64 at_] w (At3 (x,k,e) at_ w)):=zhd (by rw [<-hg];exact zfz B c n at_ A bs w h hn hl)
 simp only at hen
 clear h hg hn hdl he
 by_cases h0:e=0
 ·subst h0
  rw [if_neg (by simp)] at hdef
  obtain⟨b1,b2⟩:1<=k/\k<=n - at_:=by rcases hen with⟨_,h1,h2⟩|⟨_,_,h⟩<;>omega
  clear hen
  by_cases hx:x<0
  ·rw [if_pos (Or.inl hx)] at hdef
   have HX:=zhd hdef
   clear hdef
   go_enter Tryz.func134,Tryz.ntmps134
   go_wp2_with (go_at_call 161;refine HC.out.mono ?_;rintro e w' ⟨rfl,rfl⟩;unfold zcn)
   go_ret3
   exact ze4 HX.out (by omega) w
  by_cases hx2:65537<=x
  ·rw [if_pos (Or.inr hx2)] at hdef
   have HX:=zhd hdef
   have hx3:65536<x:=by omega
   clear hdef hx2
   go_enter Tryz.func134,Tryz.ntmps134
   go_wp2_with (go_at_call 161;refine HC.out.mono ?_;rintro e w' ⟨rfl,rfl⟩;unfold zcn)
   go_ret3
   exact ze4 HX.out (by omega) w
  have hx3:¬ 65536<x:=by omega
  have hx0:0<=x:=by omega
  rw [if_neg (by omega)] at hdef
  have hnl:(n:Int)<=1073741824:=by omega
  have hs:((n - at_:Nat):Int) - k=(n:Int) - (at_+k:Nat):=by omega
  rw [hs] at hdef
  by_cases h2:(n:Int) - (at_+k:Nat)<x
  ·rw [if_pos h2] at hdef
   have HX:=zhd hdef
   have h2':(n:Int) - ((at_:Int)+(k:Int))<x:=by omega
   clear hdef hx2 hs h2
   go_enter Tryz.func134,Tryz.ntmps134
   go_wp2_with (go_at_call 161;refine HC.out.mono ?_;rintro e w' ⟨rfl,rfl⟩;unfold zcn)
   go_ret3
   exact ze4 HX.out (by omega) w
  ·rw [if_neg h2] at hdef
   have hxx:=Int.toNat_of_nonneg hx0
   obtain⟨m,hm'⟩:∃ m,x.toNat=m:=⟨_,rfl⟩
   rw [hm'] at hxx hdef
   subst hxx
   obtain⟨to,hto⟩:∃ to,at_+k=to:=⟨_,rfl⟩
   rw [hto] at h2
   obtain⟨ys,hys⟩:∃ ys,((bs.drop at_).drop k).take m=ys:=⟨_,rfl⟩
   rw [hys] at hdef
   have HX:=zhd hdef
   have hle:to+m<=n:=by omega
   have hle2:(m:Int)<=(n:Int) - (to:Int):=by omega
   have hcut:=fun W=>zcj (P:=Tryz.prog) (w:=W) 27 5 _ _ Tryz.underlying27 zaB A n c to (to+m) (by omega) (by omega)
   rw [Nat.add_sub_cancel_left,Int.natCast_add] at hcut
   have HY:Hid (Row w B (zc7 A to c) (ys.map zaa)):=zhd (by
    rw [<-hys,List.drop_drop,hto]
    have:=zby (zde HR.out to c (by rw [List.length_map,<-HNN.out];exact hc)) m
    rw [List.map_take,List.map_drop];exact this)
   have HL:Hid (ys.length=m):=zhd (by rw [<-hys,List.length_take,List.length_drop,List.length_drop,<-HNN.out];omega)
   have HTO:=zhd hto
   have HC2:Hid (Calls Tryz.prog 161 #[slice A n c,int i64 at_] w (fun e w'=>e=zcn (m:Int) (to:Int) 0/\w=w')):=zhd (HC.out.mono fun _ _ ⟨h1,h2⟩=>⟨by rw [h1,<-hto],h2⟩)
   have hmx:(m:Int)<=65536:=by omega
   clear hdef hx2 hs h2 hx hx0 hx3 hm' hys hto HC hle
   go_enter Tryz.func134,Tryz.ntmps134
   go_wp2_with (go_at_call 161;refine HC2.out.mono ?_;rintro e w' ⟨rfl,rfl⟩;unfold zcn)
   go_ret3
   rw [HX.out]
   refine⟨zc7 A to c,c - to,?_,HY.out,rfl⟩
   have e1:((at_+(k+m):Nat):Int)=(to:Int)+(m:Int):=by have:=HTO.out;omega
   simp only [HL.out,e1]
   rfl
 ·rw [if_pos h0] at hdef
  have HX:=zhd hdef
  have hne:(e != 0)=true:=by simpa using h0
  have hk0:k=0:=by omega
  subst hk0
  clear hdef hen h0
  go_enter Tryz.func134,Tryz.ntmps134
  go_wp2_with (go_at_call 161;refine HC.out.mono ?_;rintro e w' ⟨rfl,rfl⟩;unfold zcn)
  go_ret3
  exact ze4 HX.out (by omega) w
end
section
open Go.RowKit Mem Be
theorem zb5{w w':World}{base:Nat}{e:TypeId}{v:Value}{n:Nat}{a:List Value}(h:w.ownsRow base e 1 v n a)(b:Below w.heap.size w w'):w'.ownsRow base e 1 v n a:=
 h.kept (zbQ b (Nat.le_refl _) none) (by cases c:v.ownBlock<;>simp)
theorem zdI(m:Int)(bs:List UInt8)(e:Int)(a:e≠0):zbS m bs e=(0,bs,e):=if_neg a
theorem zik(bs:List UInt8)(e:Int)(a:e≠0):zeG bs e=(false,bs,e):=if_neg a
theorem zvy(bs:List UInt8)(e:Int)(a:e≠0):zk3 bs e=e:=if_neg a
theorem zil(x rest:List UInt8)(h:x.length<=65536):za2 (zbx x++rest)=(x,(zbx x).length,0):=by
 have b:zrF (x.length:Int):=by unfold zrF;omega
 have a:=zmt (x.length:Int) b (x++rest);rw [<-List.append_assoc] at a;have c:zbj (x.length:Int)++x=zbx x:=rfl;rw [c] at a;unfold za2;rw [a];simp only;rw [if_neg (by simp),if_neg (by omega),if_neg (by unfold zbx;simp only [List.length_append];omega)];have d:(zbx x++rest).drop (zbj (x.length:Int)).length=x++rest:=by
  unfold zbx;rw [List.append_assoc,List.drop_left]
 have e2:((x.length:Int)).toNat=x.length:=by omega
 rw [d,e2,List.take_left];unfold zbx;rw [List.length_append]
theorem ze5{w:World}{B n:Nat}{v:Value}{b:List Value}(bs:List UInt8)(g:w.ownsRow B 5 1 v n b)(d:b=bs.map zaa):∃ A c,v=slice A bs.length c/\w.ownsRow B 5 1 (slice A bs.length c) bs.length (bs.map zaa):=by
 obtain⟨A,c,a,h,_⟩:=zck g d (Below.refl B w);injection a with a;exact⟨A,c,a,h⟩
end
end Go.Proofs.YtahnjkkgojfdmaaGreatDoor
