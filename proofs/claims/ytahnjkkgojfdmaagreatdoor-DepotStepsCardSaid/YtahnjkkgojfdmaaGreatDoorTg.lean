import Derived.Test.YtahnjkkgojfdmaaGreatDoorPk
import Derived.Deep.RegionHeld3
import Derived.Laws.StructEq
import Derived.Deep.DeepCutAuto
set_option maxRecDepth 100000
set_option maxHeartbeats 8000000
namespace Go.Proofs.YtahnjkkgojfdmaaGreatDoor
open Go.Obj(cells)
open Go.IntKind(i64)
open Go.Value(int slice bool)
section
open Go.RowKit Mem
def zf7(a b:Int):Int:=if a<b then -1 else if b<a then 1 else 0
def zdC(a b c x y z:Int):Int:=if zf7 a x≠0 then zf7 a x else if zf7 b y≠0 then zf7 b y else zf7 c z
abbrev zjA(s u o:Int):Value:=.agg #[int i64 s,int i64 u,int i64 o]
def IsI(n:Int)(w:World)(e:Ending)(w':World):Prop:=e=.returned (int i64 n)/\Below w.heap.size w w'
def IsB(b:Bool)(w:World)(e:Ending)(w':World):Prop:=e=.returned (bool b)/\Below w.heap.size w w'
theorem zal{n m:Int}{w w':World}(h:n=m)(a:Below w.heap.size w w'):IsI m w (.returned (int i64 n)) w':=⟨by rw [h],a⟩
theorem zgw(a:Int)(w:World):Calls Tryz.prog 167 #[int i64 a] w fun e w'=>e=.returned (bool false)/\w=w':=by
 go_enter Tryz.func167,Tryz.ntmps167
 go_wp2;go_ret;exact⟨rfl,rfl⟩
theorem znB(a b:Int)(w:World):Calls Tryz.prog 143 #[int i64 a,int i64 b] w fun e w'=>e=.returned (int i64 (zf7 a b))/\w=w':=by
 by_cases h:a<b
 ·have e:zf7 a b=-1:=if_pos h;rw [e];clear e;go_enter Tryz.func143,Tryz.ntmps143
  go_wp2_with (go_at_call 167;refine(zgw _ _).mono ?_;rintro e w' ⟨rfl,rfl⟩)
  go_ret;exact⟨rfl,rfl⟩
 by_cases c:b<a
 ·have e:zf7 a b=1:=(if_neg h).trans (if_pos c);have g:b<=a:=by omega
  rw [e];clear e h;go_enter Tryz.func143,Tryz.ntmps143
  go_wp2_with (go_at_call 167;refine(zgw _ _).mono ?_;rintro e w' ⟨rfl,rfl⟩)
  go_ret;exact⟨rfl,rfl⟩
 ·have e:zf7 a b=0:=(if_neg h).trans (if_neg c);have d:a=b:=by omega
  subst d;rw [e];clear e h c;go_enter Tryz.func143,Tryz.ntmps143
  go_wp2_with (go_at_call 167;refine(zgw _ _).mono ?_;rintro e w' ⟨rfl,rfl⟩)
  go_ret;exact⟨rfl,rfl⟩
def orI(a b c:Int):Int:=if a≠0 then a else if b≠0 then b else c
theorem zvz(g:Nat)(a b c:Int)(w:World)(q:w.cell? ⟨g,0,none⟩=some (int i64 a))(p:w.cell? ⟨g,1,none⟩=some (int i64 b))(r:w.cell? ⟨g,2,none⟩=some (int i64 c)) :
 Calls Tryz.prog 142 #[slice (some ⟨g,0,none⟩) 3 3] w fun e w'=>e=.returned (int i64 (orI a b c))/\w=w':=by
 go_enter Tryz.func142,Tryz.ntmps142
 go_wp2;go_loop [8] (fun i=>∃ k:Nat,k<=3/\i=int i64 k/\Hid ((0<k->a=0)/\(1<k->b=0)/\(2<k->c=0))) (fun i=>3 - (intOf i).toNat)
 case atStart=>exact⟨0,by omega,rfl,zhd (by omega)⟩
 case round=>
  obtain⟨k,o,rfl,j⟩:=hrel
  match k,o,j with
  | 0,_,j=>
   by_cases d:a=0
   ·have m:(a != 0)=false:=by simpa using d
    have l:=zhd d;clear d;go_wp2;go_round
    case rel=>exact⟨1,by omega,rfl,zhd ⟨fun _=>l.out,by omega,by omega⟩⟩
    case measure=>simp [intOf]
   ·have m:(a != 0)=true:=by simpa using d
    have l:Hid (orI a b c=a):=zhd (if_pos d);clear d;go_wp2;go_ret;exact⟨zdF l.out.symm,rfl⟩
  | 1,_,j=>
   by_cases d:b=0
   ·have m:(b != 0)=false:=by simpa using d
    have l:=zhd d;clear d;go_wp2;go_round
    case rel=>exact⟨2,by omega,rfl,zhd ⟨fun _=>j.out.1 (by omega),fun _=>l.out,by omega⟩⟩
    case measure=>simp [intOf]
   ·have m:(b != 0)=true:=by simpa using d
    have l:Hid (orI a b c=b):=zhd ((if_neg (fun h=>h (j.out.1 (by omega)))).trans (if_pos d));clear d;go_wp2;go_ret;exact⟨zdF l.out.symm,rfl⟩
  | 2,_,j=>
   by_cases d:c=0
   ·have m:(c != 0)=false:=by simpa using d
    have l:=zhd d;clear d;go_wp2;go_round
    case rel=>exact⟨3,by omega,rfl,zhd ⟨fun _=>j.out.1 (by omega),fun _=>j.out.2.1 (by omega),fun _=>l.out⟩⟩
    case measure=>simp [intOf]
   ·have m:(c != 0)=true:=by simpa using d
    have l:Hid (orI a b c=c):=zhd ((if_neg (fun h=>h (j.out.1 (by omega)))).trans (if_neg (fun h=>h (j.out.2.1 (by omega)))));clear d;go_wp2;go_ret;exact⟨zdF l.out.symm,rfl⟩
  | 3,_,j=>
   have l:Hid (orI a b c=0):=zhd ((if_neg (fun h=>h (j.out.1 (by omega)))).trans ((if_neg (fun h=>h (j.out.2.1 (by omega)))).trans (j.out.2.2 (by omega))));go_wp2;go_ret;exact⟨zdF l.out.symm,rfl⟩
theorem zvA(a b c x y z:Int):orI (zf7 a x) (zf7 b y) (zf7 c z)=zdC a b c x y z:=rfl
theorem zk9(a b c x y z:Int)(w:World):Calls Tryz.prog 114 #[zjA a b c,zjA x y z] w (IsI (zdC a b c x y z) w):=by
 go_enter Tryz.func114,Tryz.ntmps114
 go_wp2;go_region_held3 (fun w'=>w'.cell? ⟨w.heap.size,0,none⟩=some (int i64 a)/\w'.cell? ⟨w.heap.size,1,none⟩=some (int i64 b)/\w'.cell? ⟨w.heap.size,2,none⟩=some (int i64 c)/\w'.cell? ⟨w.heap.size+1,0,none⟩=some (int i64 x)/\w'.cell? ⟨w.heap.size+1,1,none⟩=some (int i64 y)/\w'.cell? ⟨w.heap.size+1,2,none⟩=some (int i64 z)) (go_keep)
  (first|(go_at_call 143;refine(znB _ _ _).mono ?_;rintro e w' ⟨rfl,rfl⟩)|(go_at_call 142;refine(zvz _ (zf7 a x) (zf7 b y) (zf7 c z) _ (by go_simp) (by go_simp) (by go_simp)).mono ?_;rintro e w' ⟨rfl,rfl⟩))
 go_wp2;go_ret;exact zal (zvA a b c x y z) (((zbl).alloc (by simp) _).alloc (by simp;omega) _).drew
def inR(n m:Int):Bool:=decide (0<=n/\n<=m)
theorem zfA{n m:Int}(h:inR n m=true):0<=n/\n<=m:=of_decide_eq_true h
theorem zvB{n m:Int}(h:inR n m=false):n<0\/m<n:=by have:=of_decide_eq_false h;omega
theorem zrY(n m:Int)(w:World):Calls Tryz.prog 164 #[int i64 n,int i64 m] w fun e w'=>e=.returned (bool (inR n m))/\w=w':=by
 by_cases h:0<=n
 ·by_cases a:n<=m
  ·rw [show inR n m=true from decide_eq_true ⟨h,a⟩];go_enter Tryz.func164,Tryz.ntmps164
   go_wp2;go_ret;exact⟨rfl,rfl⟩
  ·rw [show inR n m=false from decide_eq_false (by omega)];have b:decide (n<=m)=false:=decide_eq_false a;clear a;go_enter Tryz.func164,Tryz.ntmps164
   go_wp2;go_ret;exact⟨rfl,rfl⟩
 ·rw [show inR n m=false from decide_eq_false (by omega)];have b:n<0:=by omega
  clear h;go_enter Tryz.func164,Tryz.ntmps164
  go_wp2;go_ret;exact⟨rfl,rfl⟩
theorem znC(n m:Int)(w:World):Calls Tryz.prog 85 #[int i64 n,int i64 m] w fun e w'=>e=.returned (bool (inR n m))/\w=w':=by
 by_cases h:0<=n
 ·by_cases a:n<=m
  ·rw [show inR n m=true from decide_eq_true ⟨h,a⟩];go_enter Tryz.func85,Tryz.ntmps85
   go_wp2;go_ret;exact⟨rfl,rfl⟩
  ·rw [show inR n m=false from decide_eq_false (by omega)];have b:decide (n<=m)=false:=decide_eq_false a;clear a;go_enter Tryz.func85,Tryz.ntmps85
   go_wp2;go_ret;exact⟨rfl,rfl⟩
 ·rw [show inR n m=false from decide_eq_false (by omega)];have b:n<0:=by omega
  clear h;go_enter Tryz.func85,Tryz.ntmps85
  go_wp2;go_ret;exact⟨rfl,rfl⟩
theorem zeh(n m:Int)(b:Bool)(h:Hid (inR n m=b))(w:World):Calls Tryz.prog 164 #[int i64 n,int i64 m] w fun e w'=>e=.returned (bool b)/\w=w':=by
 have:=zrY n m w;rw [h.out] at this;exact this
theorem zbA(n m:Int)(b:Bool)(h:Hid (inR n m=b))(w:World):Calls Tryz.prog 85 #[int i64 n,int i64 m] w fun e w'=>e=.returned (bool b)/\w=w':=by
 have:=znC n m w;rw [h.out] at this;exact this
theorem zrZ(s u o:Int)(w:World):Calls Tryz.prog 113 #[zjA s u o] w (IsB (s==0) w):=by
 go_enter Tryz.func113,Tryz.ntmps113
 go_wp2;go_ret;exact⟨rfl,zbl⟩
theorem zbB(s u o:Int)(b:Bool)(h:Hid ((s==0)=b))(w:World):Calls Tryz.prog 113 #[zjA s u o] w (IsB b w):=by
 have:=zrZ s u o w;rw [h.out] at this;exact this
def eqT(a b c x y z:Int):Bool:=a==x&&b==y&&c==z
theorem zgx(a b c x y z:Int)(w:World):(Op.equalIn 10000 42 (zjA a b c) (zjA x y z)).run Tryz.prog w=.ok (eqT a b c x y z) w:=by
 have u3:=Tryz.underlying3;have a3:=Tryz.isAgg3;have z3:=Tryz.sizeOf3;have h:Tryz.prog.underlying 42=some (.struct (Tryz.prog.fieldsOf 42)):=by kernel_rfl
 rw [show(10000:Nat)=9999+1 from rfl,run_equalIn_agg w 9999 42 _ _ h (by kernel_rfl)];simp only [Program.fieldsOf,Tryz.underlying42];go_simp
 unfold eqT;by_cases g:a=x<;>by_cases i:b=y<;>by_cases d:c=z<;>simp [g,i,d]
def okT(s u o:Int):Bool:=inR s 1099511627775&&inR u 1048575&&inR o 1048575&&(!(s==0)||(u==0&&o==0))
def zba(s u o:Int):Int:=if okT s u o=true then 0 else 2
theorem zim{s u o:Int}(h:inR s 1099511627775=false):zba s u o=2:=by unfold zba okT;rw [h];rfl
theorem zin{s u o:Int}(h:inR u 1048575=false):zba s u o=2:=by unfold zba okT;rw [h,Bool.and_false];rfl
theorem zio{s u o:Int}(h:inR o 1048575=false):zba s u o=2:=by unfold zba okT;rw [h,Bool.and_false];rfl
theorem zhH(s u o:Int)(w:World):Calls Tryz.prog 136 #[zjA s u o] w (IsI (zba s u o) w):=by
 have a:Below w.heap.size w (w.alloc (cells #[int i64 s,int i64 u,int i64 o] 42)):=zbl;have c:=zhd a;clear a;cases h1:inR s 1099511627775
 ·have b:=zhd (zim (u:=u) (o:=o) h1);have h:=zhd h1;clear h1;go_enter Tryz.func136,Tryz.ntmps136
  go_wp2_with (go_at_call 164;refine(zeh _ _ _ (by assumption) _).mono ?_;rintro e w' ⟨rfl,rfl⟩)
  go_ret;exact zal b.out.symm c.out
 cases h2:inR u 1048575
 ·have b:=zhd (zin (s:=s) (o:=o) h2);have h:=zhd h1;have j:=zhd h2;clear h1 h2;go_enter Tryz.func136,Tryz.ntmps136
  go_wp2_with (go_at_call 164;refine(zeh _ _ _ (by assumption) _).mono ?_;rintro e w' ⟨rfl,rfl⟩)
  go_ret;exact zal b.out.symm c.out
 cases h3:inR o 1048575
 ·have b:=zhd (zio (s:=s) (u:=u) h3);have h:=zhd h1;have j:=zhd h2;have r:=zhd h3;clear h1 h2 h3;go_enter Tryz.func136,Tryz.ntmps136
  go_wp2_with (go_at_call 164;refine(zeh _ _ _ (by assumption) _).mono ?_;rintro e w' ⟨rfl,rfl⟩)
  go_ret;exact zal b.out.symm c.out
 have d:zba s u o=if(!(s==0)||(u==0&&o==0))=true then 0 else 2:=by unfold zba okT;rw [h1,h2,h3];rfl
 have h:=zhd h1;have j:=zhd h2;have r:=zhd h3;clear h1 h2 h3;cases h4:(s==0)
 ·have b:Hid (zba s u o=0):=zhd (by rw [d,h4];rfl);have l:=zhd h4;clear h4 d;go_enter Tryz.func136,Tryz.ntmps136
  go_wp2_with (first|(go_at_call 164;refine(zeh _ _ _ (by assumption) _).mono ?_;rintro e w' ⟨rfl,rfl⟩)|(go_at_call 113;refine(zbB _ _ _ _ (by assumption) _).mono ?_;rintro e k ⟨rfl,a⟩;have g:=zhd (c.out.trans (a.mono c.out.size));clear a))
  go_ret;exact zal b.out.symm g.out
 ·have v:s=0:=by simpa using h4
  subst v;have hq:=zgx 0 u o 0 0 0;have i:eqT 0 u o 0 0 0=(u==0&&o==0):=by unfold eqT;simp
  rw [i] at hq;have l:=zhd h4;cases h5:(u==0&&o==0)
  ·have b:Hid (zba 0 u o=2):=zhd (by rw [d,h4,h5];rfl);simp only [h5] at hq;clear h4 d h5 i;go_enter Tryz.func136,Tryz.ntmps136
   go_wp2_with (first|(go_at_call 164;refine(zeh _ _ _ (by assumption) _).mono ?_;rintro e w' ⟨rfl,rfl⟩)|(go_at_call 113;refine(zbB _ _ _ _ (by assumption) _).mono ?_;rintro e k ⟨rfl,a⟩;have g:=zhd (c.out.trans (a.mono c.out.size));have m:=a.cell (p:=⟨w.heap.size,0,none⟩) (by simp);have t:=a.cell (p:=⟨w.heap.size,1,none⟩) (by simp);have q:=a.cell (p:=⟨w.heap.size,2,none⟩) (by simp);clear a))
   go_ret;exact zal b.out.symm g.out
  ·have b:Hid (zba 0 u o=0):=zhd (by rw [d,h4,h5];rfl);simp only [h5] at hq;clear h4 d h5 i;go_enter Tryz.func136,Tryz.ntmps136
   go_wp2_with (first|(go_at_call 164;refine(zeh _ _ _ (by assumption) _).mono ?_;rintro e w' ⟨rfl,rfl⟩)|(go_at_call 113;refine(zbB _ _ _ _ (by assumption) _).mono ?_;rintro e k ⟨rfl,a⟩;have g:=zhd (c.out.trans (a.mono c.out.size));have m:=a.cell (p:=⟨w.heap.size,0,none⟩) (by simp);have t:=a.cell (p:=⟨w.heap.size,1,none⟩) (by simp);have q:=a.cell (p:=⟨w.heap.size,2,none⟩) (by simp);clear a))
   go_ret;exact zal b.out.symm g.out
end
section
open Go.RowKit Mem
theorem ziq{a x:Int}(h:a<x):zf7 a x=-1:=if_pos h
theorem zir{a x:Int}(h:x<a):zf7 a x=1:=(if_neg (by omega)).trans (if_pos h)
theorem zgy(a:Int):zf7 a a=0:=(if_neg (by omega)).trans (if_neg (by omega))
theorem zbb(a x:Int):(a<x/\zf7 a x=-1)\/(x<a/\zf7 a x=1)\/(a=x/\zf7 a x=0):=by
 rcases Int.lt_trichotomy a x with h|h|h
 ·exact Or.inl ⟨h,ziq h⟩
 ·subst h;exact Or.inr (Or.inr ⟨rfl,zgy a⟩)
 ·exact Or.inr (Or.inl ⟨h,zir h⟩)
theorem ztE{a b c x y z:Int}(h:a≠x):zdC a b c x y z=zf7 a x:=by
 unfold zdC;rcases zbb a x with⟨_,d⟩|⟨_,d⟩|⟨d,_⟩
 ·rw [d];rfl
 ·rw [d];rfl
 ·exact absurd d h
theorem ztF{a b c x y z:Int}(g:a=x)(h:b≠y):zdC a b c x y z=zf7 b y:=by
 subst g;unfold zdC;rw [zgy,if_neg (by simp)];rcases zbb b y with⟨_,d⟩|⟨_,d⟩|⟨d,_⟩
 ·rw [d];rfl
 ·rw [d];rfl
 ·exact absurd d h
theorem zpe{a b c x y z:Int}(g:a=x)(d:b=y):zdC a b c x y z=zf7 c z:=by
 subst g;subst d;unfold zdC;rw [zgy,zgy,if_neg (by simp),if_neg (by simp)]
theorem zvC(w:World)(b c d a:Obj)(q:Nat):Below w.heap.size w (((((w.alloc b).alloc c).alloc d).alloc a).drewN q):=
 ((((zbl).alloc (by simp) _).alloc (by simp;omega) _).alloc (by simp;omega) _).trans ⟨rfl,rfl,rfl,Nat.le_refl _,fun _ _=>rfl⟩
theorem zhl(a b c x y z:Int)(w:World):Calls Tryz.prog 22 #[zjA a b c,zjA x y z] w (IsI (zdC a b c x y z) w):=by
 go_enter Tryz.func22,Tryz.ntmps22
 go_wp2;go_loopw [7] (fun i wr=>∃ k:Nat,k<=3/\i=int i64 k/\Hid ((0<k->a=x)/\(1<k->b=y)/\(2<k->c=z))/\Hid (∃ q,wr=((((w.alloc (cells #[int i64 a,int i64 b,int i64 c] 42)).alloc (cells #[int i64 x,int i64 y,int i64 z] 42)).alloc (cells #[int i64 a,int i64 b,int i64 c] 3)).alloc (cells #[int i64 x,int i64 y,int i64 z] 3)).drewN q)) (fun i _=>3 - (intOf i).toNat)
 case atStart=>exact⟨0,by omega,rfl,zhd (by omega),zhd ⟨0,rfl⟩⟩
 case round=>
  obtain⟨k,A,rfl,d,h⟩:=hrel;have l:Hid (Below w.heap.size w wr):=zhd (by obtain⟨q,rfl⟩:=h.out;exact zvC ..)
  match k,A,d with
  | 0,_,d=>
   have r:wr.cell? ⟨w.heap.size+1+1,0,none⟩=some (int i64 a):=by obtain⟨q,rfl⟩:=h.out;go_simp
   have t:wr.cell? ⟨w.heap.size+1+1+1,0,none⟩=some (int i64 x):=by obtain⟨q,rfl⟩:=h.out;go_simp
   rcases Int.lt_trichotomy a x with m|j|o
   ·have g:Hid (zdC a b c x y z=-1):=zhd ((ztE (by omega)).trans (ziq m));go_wp2;go_quiet (fail)
    go_wp2;go_ret;exact zal g.out.symm (l.out.trans ⟨rfl,rfl,rfl,Nat.le_refl _,fun _ _=>rfl⟩)
   ·have p:=zhd j;have s:a<=x:=by omega
    have v:x<=a:=by omega
    clear j;go_wp2;go_quiet (fail)
    go_wp2;go_quiet (fail)
    go_wp2;go_roundw
    case rel=>exact⟨1,by omega,rfl,zhd ⟨fun _=>p.out,by omega,by omega⟩,zhd (by obtain⟨q,rfl⟩:=h.out;exact⟨_,by simp only [World.drewN_drewN];rfl⟩)⟩
    case measure=>simp [intOf]
   ·have g:Hid (zdC a b c x y z=1):=zhd ((ztE (by omega)).trans (zir o));have u:x<=a:=by omega
    go_wp2;go_quiet (fail)
    go_wp2;go_quiet (fail)
    go_wp2;go_ret;exact zal g.out.symm (l.out.trans ⟨rfl,rfl,rfl,Nat.le_refl _,fun _ _=>rfl⟩)
  | 1,_,d=>
   have r:wr.cell? ⟨w.heap.size+1+1,1,none⟩=some (int i64 b):=by obtain⟨q,rfl⟩:=h.out;go_simp
   have t:wr.cell? ⟨w.heap.size+1+1+1,1,none⟩=some (int i64 y):=by obtain⟨q,rfl⟩:=h.out;go_simp
   rcases Int.lt_trichotomy b y with m|j|o
   ·have g:Hid (zdC a b c x y z=-1):=zhd ((ztF (d.out.1 (by omega)) (by omega)).trans (ziq m));go_wp2;go_quiet (fail)
    go_wp2;go_ret;exact zal g.out.symm (l.out.trans ⟨rfl,rfl,rfl,Nat.le_refl _,fun _ _=>rfl⟩)
   ·have p:=zhd j;have s:b<=y:=by omega
    have v:y<=b:=by omega
    clear j;go_wp2;go_quiet (fail)
    go_wp2;go_quiet (fail)
    go_wp2;go_roundw
    case rel=>exact⟨2,by omega,rfl,zhd ⟨fun _=>d.out.1 (by omega),fun _=>p.out,by omega⟩,zhd (by obtain⟨q,rfl⟩:=h.out;exact⟨_,by simp only [World.drewN_drewN];rfl⟩)⟩
    case measure=>simp [intOf]
   ·have g:Hid (zdC a b c x y z=1):=zhd ((ztF (d.out.1 (by omega)) (by omega)).trans (zir o));have u:y<=b:=by omega
    go_wp2;go_quiet (fail)
    go_wp2;go_quiet (fail)
    go_wp2;go_ret;exact zal g.out.symm (l.out.trans ⟨rfl,rfl,rfl,Nat.le_refl _,fun _ _=>rfl⟩)
  | 2,_,d=>
   have r:wr.cell? ⟨w.heap.size+1+1,2,none⟩=some (int i64 c):=by obtain⟨q,rfl⟩:=h.out;go_simp
   have t:wr.cell? ⟨w.heap.size+1+1+1,2,none⟩=some (int i64 z):=by obtain⟨q,rfl⟩:=h.out;go_simp
   rcases Int.lt_trichotomy c z with m|j|o
   ·have g:Hid (zdC a b c x y z=-1):=zhd ((zpe (d.out.1 (by omega)) (d.out.2.1 (by omega))).trans (ziq m));go_wp2;go_quiet (fail)
    go_wp2;go_ret;exact zal g.out.symm (l.out.trans ⟨rfl,rfl,rfl,Nat.le_refl _,fun _ _=>rfl⟩)
   ·have p:=zhd j;have s:c<=z:=by omega
    have v:z<=c:=by omega
    clear j;go_wp2;go_quiet (fail)
    go_wp2;go_quiet (fail)
    go_wp2;go_roundw
    case rel=>exact⟨3,by omega,rfl,zhd ⟨fun _=>d.out.1 (by omega),fun _=>d.out.2.1 (by omega),fun _=>p.out⟩,zhd (by obtain⟨q,rfl⟩:=h.out;exact⟨_,by simp only [World.drewN_drewN];rfl⟩)⟩
    case measure=>simp [intOf]
   ·have g:Hid (zdC a b c x y z=1):=zhd ((zpe (d.out.1 (by omega)) (d.out.2.1 (by omega))).trans (zir o));have u:z<=c:=by omega
    go_wp2;go_quiet (fail)
    go_wp2;go_quiet (fail)
    go_wp2;go_ret;exact zal g.out.symm (l.out.trans ⟨rfl,rfl,rfl,Nat.le_refl _,fun _ _=>rfl⟩)
  | 3,_,d=>
   have g:Hid (zdC a b c x y z=0):=zhd ((zpe (d.out.1 (by omega)) (d.out.2.1 (by omega))).trans (by rw [d.out.2.2 (by omega)];exact zgy z));go_wp2;go_ret;exact zal g.out.symm l.out
theorem zis(s u o:Int)(w:World):Calls Tryz.prog 57 #[zjA s u o] w (IsI (zba s u o) w):=by
 have h:Below w.heap.size w (w.alloc (cells #[int i64 s,int i64 u,int i64 o] 42)):=zbl;have c:=zhd h;clear h;cases h1:inR s 1099511627775
 ·have a:=zhd (zim (u:=u) (o:=o) h1);have d:=zhd h1;clear h1;go_enter Tryz.func57,Tryz.ntmps57
  go_wp2_with (go_at_call 85;refine(zbA _ _ _ (by assumption) _).mono ?_;rintro e w' ⟨rfl,rfl⟩)
  go_ret;exact zal a.out.symm c.out
 cases h2:inR u 1048575
 ·have a:=zhd (zin (s:=s) (o:=o) h2);have d:=zhd h1;have g:=zhd h2;clear h1 h2;go_enter Tryz.func57,Tryz.ntmps57
  go_wp2_with (go_at_call 85;refine(zbA _ _ _ (by assumption) _).mono ?_;rintro e w' ⟨rfl,rfl⟩)
  go_ret;exact zal a.out.symm c.out
 cases h3:inR o 1048575
 ·have a:=zhd (zio (s:=s) (u:=u) h3);have d:=zhd h1;have g:=zhd h2;have j:=zhd h3;clear h1 h2 h3;go_enter Tryz.func57,Tryz.ntmps57
  go_wp2_with (go_at_call 85;refine(zbA _ _ _ (by assumption) _).mono ?_;rintro e w' ⟨rfl,rfl⟩)
  go_ret;exact zal a.out.symm c.out
 have b:zba s u o=if(!(s==0)||(u==0&&o==0))=true then 0 else 2:=by unfold zba okT;rw [h1,h2,h3];rfl
 have p:=(zfA h2).1;have m:=(zfA h3).1;have d:=zhd h1;have g:=zhd h2;have j:=zhd h3;clear h1 h2 h3;cases h4:(s==0)
 ·have a:Hid (zba s u o=0):=zhd (by rw [b,h4];rfl);clear b;go_enter Tryz.func57,Tryz.ntmps57
  go_wp2_with (go_at_call 85;refine(zbA _ _ _ (by assumption) _).mono ?_;rintro e w' ⟨rfl,rfl⟩)
  go_ret;exact zal a.out.symm c.out
 ·have l:s=0:=by simpa using h4
  subst l;by_cases i:0<u
  ·have hne:(u==0)=false:=by simp;omega
   have a:Hid (zba 0 u o=2):=zhd (by rw [b,h4,hne];rfl);clear b h4 hne;go_enter Tryz.func57,Tryz.ntmps57
   go_wp2_with (go_at_call 85;refine(zbA _ _ _ (by assumption) _).mono ?_;rintro e w' ⟨rfl,rfl⟩)
   go_ret;exact zal a.out.symm c.out
  ·obtain rfl:u=0:=by omega
   by_cases k:0<o
   ·have hne:(o==0)=false:=by simp;omega
    have a:Hid (zba 0 0 o=2):=zhd (by rw [b,h4,hne];rfl);clear b h4 hne i;go_enter Tryz.func57,Tryz.ntmps57
    go_wp2_with (go_at_call 85;refine(zbA _ _ _ (by assumption) _).mono ?_;rintro e w' ⟨rfl,rfl⟩)
    go_ret;exact zal a.out.symm c.out
   ·obtain rfl:o=0:=by omega
    have a:Hid (zba 0 0 0=0):=zhd (by rw [b];rfl);clear b h4 i k;go_enter Tryz.func57,Tryz.ntmps57
    go_wp2_with (go_at_call 85;refine(zbA _ _ _ (by assumption) _).mono ?_;rintro e w' ⟨rfl,rfl⟩)
    go_ret;exact zal a.out.symm c.out
end
section
open Go.RowKit Mem
theorem zdY(s u o:Int):zba s u o=0\/zba s u o=2:=by unfold zba;split<;>simp
theorem zaX(s u o n:Int)(h:Hid (zba s u o=n))(w:World):Calls Tryz.prog 57 #[zjA s u o] w (IsI n w):=by
 have:=zis s u o w;rw [h.out] at this;exact this
end
section
open Go.RowKit Mem
abbrev zaT(key:ByteArray)(s u o:Int)(has:Bool)(A:Option Addr)(m c:Nat):Value:=.agg #[.string key,int i64 s,int i64 u,int i64 o,bool has,slice A m c]
abbrev zr0(has:Bool)(A:Option Addr)(m c:Nat):Value:=.agg #[bool has,slice A m c]
abbrev zhm(key:ByteArray)(s u o:Int)(has:Bool)(A:Option Addr)(m c:Nat):Obj:=cells #[.string key,int i64 s,int i64 u,int i64 o,bool has,slice A m c] 46
def zav(k m:Nat)(s u o:Int)(has:Bool):Int:=if 0<k/\k<=250/\m<=60000/\(has=true\/m=0)/\zba s u o=0/\¬ (s=0/\has=true) then 0 else 2
theorem zdo(k m:Nat)(s u o:Int)(has:Bool):zav k m s u o has=0\/zav k m s u o has=2:=by unfold zav;split<;>simp
theorem zaP{k m:Nat}{s u o:Int}{has:Bool}(h:¬ (0<k/\k<=250/\m<=60000/\(has=true\/m=0)/\zba s u o=0/\¬ (s=0/\has=true))):zav k m s u o has=2:=if_neg h
theorem zah{k m:Nat}{s u o:Int}{has:Bool}(h:zav k m s u o has=0):0<k/\k<=250/\m<=60000/\(has=true\/m=0)/\zba s u o=0/\¬ (s=0/\has=true):=by
 unfold zav at h;split at h
 ·assumption
 ·exact absurd h (by decide)
theorem zbt{k m:Nat}{s u o:Int}{has:Bool}(h:0<k/\k<=250/\m<=60000/\(has=true\/m=0)/\¬ (s=0/\has=true)):zav k m s u o has=zba s u o:=by
 obtain⟨g,i,c,b,d⟩:=h;rcases zdY s u o with a|a
 ·rw [a];exact if_pos ⟨g,i,c,b,a,d⟩
 ·rw [a];exact zaP (by rintro⟨_,_,_,_,h,_⟩;omega)
theorem zwD(k m:Nat)(has:Bool):((k:Int)<=0\/(250:Int)<(k:Int)\/((0:Int)<(k:Int)/\(k:Int)<=250))/\
 ((60000:Int)<(m:Int)\/((m:Int)<=60000/\has=true)\/((m:Int)<=0/\m=0/\has=false)\/((m:Int)<=60000/\(0:Int)<(m:Int)/\has=false)):=by
 refine⟨by omega,?_⟩;cases has
 ·by_cases h:60000<m
  ·left;omega
  ·by_cases a:m=0
   ·right;right;left;exact⟨by omega,a,rfl⟩
   ·right;right;right;exact⟨by omega,by omega,rfl⟩
 ·by_cases h:60000<m
  ·left;omega
  ·right;left;exact⟨by omega,rfl⟩
theorem zjB(s:Int):Hid ((s==0)=true)\/Hid ((s==0)=false):=by
 cases h:(s==0)
 ·exact Or.inr (zhd rfl)
 ·exact Or.inl (zhd rfl)
theorem zei{s:Int}(h:Hid ((s==0)=true)):s=0:=by have:=h.out;simpa using this
theorem zgi{s:Int}(h:Hid ((s==0)=false)):s≠0:=by have:=h.out;simpa using this
theorem zgz(key:ByteArray)(s u o:Int)(has:Bool)(A:Option Addr)(m c:Nat)(C:(m:Int)<=1073741824)(D:(key.size:Int)<=1073741824)(w:World) :
 Calls Tryz.prog 107 #[zaT key s u o has A m c] w (IsI (zav key.size m s u o has) w):=by
 have j:Hid (Below w.heap.size w (w.alloc (zhm key s u o has A m c))):=zhd (zbl);obtain⟨g,d⟩:=zwD key.size m has;have b:=zjB s;rcases g with g|g|⟨g,r⟩<;>rcases d with d|⟨d,rfl⟩|⟨d,rfl,rfl⟩|⟨d,B,rfl⟩<;>rcases b with b|b
 all_goals try (cases has)
 all_goals
  go_enter Tryz.func107,Tryz.ntmps107
  go_wp2_with (first
   | (go_at_call 113;refine(zbB _ _ _ _ (by assumption) _).mono ?_;rintro e t ⟨rfl,a⟩;obtain⟨hc,x⟩:=zdE a;have h:=zhd (j.out.trans (a.mono j.out.size));clear a)
   | (go_at_call 136;refine(zhH _ _ _ _).mono ?_;rintro e v ⟨rfl,a⟩;have q:=zhd (h.out.trans (a.mono h.out.size));clear a))
  go_ret
  first
   | exact zal (zbt (by refine⟨by omega,by omega,by omega,by simp,?_⟩;rintro⟨i,k⟩;first|exact zgi b i|simp at k)).symm q.out
   | exact zal (zaP (by rintro⟨i,k,y,l,z,p⟩;first|omega|(simp at l;omega)|exact p ⟨zei b,rfl⟩)).symm h.out
end
section
open Go.RowKit Mem
theorem zc9(key:ByteArray)(s u o:Int)(has:Bool)(A:Option Addr)(m c:Nat)(C:(m:Int)<=1073741824)(D:(key.size:Int)<=1073741824)(w:World) :
 Calls Tryz.prog 30 #[zaT key s u o has A m c] w (IsI (zav key.size m s u o has) w):=by
 have d:Hid (Below w.heap.size w (w.alloc (zhm key s u o has A m c))):=zhd (zbl);obtain⟨p,j⟩:=zwD key.size m has;rcases p with p|p|⟨p,x⟩
 ·clear j;go_enter Tryz.func30,Tryz.ntmps30
  go_wp2;go_ret;exact zal (zaP (by rintro⟨b,_⟩;omega)).symm d.out
 ·clear j;go_enter Tryz.func30,Tryz.ntmps30
  go_wp2;go_ret;exact zal (zaP (by rintro⟨_,b,_⟩;omega)).symm d.out
 rcases j with j|⟨j,rfl⟩|⟨j,rfl,rfl⟩|⟨j,B,rfl⟩
 ·go_enter Tryz.func30,Tryz.ntmps30
  go_wp2;go_ret;exact zal (zaP (by rintro⟨_,_,b,_⟩;omega)).symm d.out
 ·rcases zdY s u o with g|g
  ·have i:=zhd g;clear g;cases b:(s==0)
   ·have hq:(s==0)=false:=b;have q:Hid ((s==0)=false):=zhd b;clear b;go_enter Tryz.func30,Tryz.ntmps30
    go_wp2_with (go_at_call 57;refine(zaX _ _ _ _ (by assumption) _).mono ?_;rintro e k ⟨rfl,a⟩;obtain⟨hc,l⟩:=zdE a;have h:=zhd (d.out.trans (a.mono d.out.size));clear a)
    go_ret;exact zal ((zbt (by refine⟨by omega,by omega,by omega,by simp,?_⟩;rintro⟨b,r⟩;exact zgi q b)).trans i.out).symm h.out
   ·have q:Hid ((s==0)=true):=zhd b;go_enter Tryz.func30,Tryz.ntmps30
    go_wp2_with (go_at_call 57;refine(zaX _ _ _ _ (by assumption) _).mono ?_;rintro e k ⟨rfl,a⟩;obtain⟨hc,l⟩:=zdE a;have h:=zhd (d.out.trans (a.mono d.out.size));clear a)
    go_ret;exact zal (zaP (by rintro⟨b,r,y,v,z,t⟩;exact t ⟨zei q,rfl⟩)).symm h.out
  ·have i:=zhd g;clear g;go_enter Tryz.func30,Tryz.ntmps30
   go_wp2_with (go_at_call 57;refine(zaX _ _ _ _ (by assumption) _).mono ?_;rintro e k ⟨rfl,a⟩;obtain⟨hc,l⟩:=zdE a;have h:=zhd (d.out.trans (a.mono d.out.size));clear a)
   go_ret;exact zal (zaP (by rintro⟨_,_,_,_,b,_⟩;have:=i.out;omega)).symm h.out
 ·rcases zdY s u o with g|g
  ·have i:=zhd g;clear g;cases b:(s==0)
   all_goals
    go_enter Tryz.func30,Tryz.ntmps30
    go_wp2_with (go_at_call 57;refine(zaX _ _ _ _ (by assumption) _).mono ?_;rintro e k ⟨rfl,a⟩;obtain⟨hc,l⟩:=zdE a;have h:=zhd (d.out.trans (a.mono d.out.size));clear a)
    go_ret;exact zal ((zbt (by refine⟨by omega,by omega,by omega,by simp,?_⟩;rintro⟨b,r⟩;simp at r)).trans i.out).symm h.out
  ·have i:=zhd g;clear g;go_enter Tryz.func30,Tryz.ntmps30
   go_wp2_with (go_at_call 57;refine(zaX _ _ _ _ (by assumption) _).mono ?_;rintro e k ⟨rfl,a⟩;obtain⟨hc,l⟩:=zdE a;have h:=zhd (d.out.trans (a.mono d.out.size));clear a)
   go_ret;exact zal (zaP (by rintro⟨_,_,_,_,b,_⟩;have:=i.out;omega)).symm h.out
 ·go_enter Tryz.func30,Tryz.ntmps30
  go_wp2;go_ret;exact zal (zaP (by rintro⟨_,_,_,b,_⟩;simp at b;omega)).symm d.out
theorem zaM{a b:Bool}{w w':World}(h:a=b)(c:Below w.heap.size w w'):IsB b w (.returned (bool a)) w':=⟨by rw [h],c⟩
end
section
open Go.RowKit Mem
structure ValOk (w:World) (has:Bool) (A:Option Addr) (xs:List UInt8) (c:Nat):Prop where
 row:Row w w.heap.size A (xs.map zaa)
 len:(xs.length:Int)<=1073741824
 cap:xs.length<=c
theorem ValOk.below{w w':World}{has:Bool}{A:Option Addr}{xs:List UInt8}{c:Nat}(h:ValOk w has A xs c)(hb:Below w.heap.size w w'):ValOk w' has A xs c:=
 ⟨(h.row.below hb).more hb.size,h.len,h.cap⟩
def zdf(h1 h2:Bool)(xs ys:List UInt8):Bool:=h1==h2&&(!h1||xs==ys)
theorem zjC{a b:List UInt8}(h:a.length≠b.length):zdf true true a b=false:=by
 unfold zdf;have:(a==b)=false:=by simp;rintro rfl;exact h rfl
 rw [this];rfl
theorem zmC{a b:List UInt8}(k:Nat)(d:k<a.length)(c:k<b.length)(h:(a[k].toNat:Int)≠(b[k].toNat:Int)):zdf true true a b=false:=by
 unfold zdf;have:(a==b)=false:=by simp;rintro rfl;exact h rfl
 rw [this];rfl
theorem zjD{a b:List UInt8}{k:Nat}(d:k<a.length)(c:k<b.length)(ht:a.take k=b.take k)(h:(a[k].toNat:Int)=(b[k].toNat:Int)):a.take (k+1)=b.take (k+1):=by
 rw [List.take_succ_eq_append_getElem d,List.take_succ_eq_append_getElem c,ht];have:a[k]=b[k]:=UInt8.toNat_inj.1 (by omega);rw [this]
theorem zhn(t s:Bool)(A l:Option Addr)(a d:List UInt8)(c c' n j:Nat)(K:n=a.length)(G:j=d.length)(w:World)(h:ValOk w t A a c)(x:ValOk w s l d c') :
 Calls Tryz.prog 43 #[zr0 t A n c,zr0 s l j c'] w (IsB (zdf t s a d) w):=by
 have hl:=h.len;have Y:=x.len;have g:Hid (Below w.heap.size w ((w.alloc (cells #[bool t,slice A n c] 44)).alloc (cells #[bool s,slice l j c'] 44))):=zhd ((zbl).alloc (by simp) _);have U:=zhd (h.row.below g.out);have T:=zhd (x.row.below g.out);clear h x;have Z:(n:Int)<=1073741824:=by omega
 have D:=zhd K;have B:=zhd G;clear K G hl Y;cases t<;>cases s
 ·go_enter Tryz.func43,Tryz.ntmps43
  go_wp2;go_ret;exact zaM rfl g.out
 ·go_enter Tryz.func43,Tryz.ntmps43
  go_wp2;go_ret;exact zaM rfl g.out
 ·go_enter Tryz.func43,Tryz.ntmps43
  go_wp2;go_ret;exact zaM rfl g.out
 ·by_cases u:n=j
  ·subst u;go_enter Tryz.func43,Tryz.ntmps43
   go_wp2;go_loopw [5] (fun i wr=>∃ k:Nat,k<=n/\i=int i64 k/\Hid (a.take k=d.take k)/\Hid (∃ q,wr=((w.alloc (cells #[bool true,slice A n c] 44)).alloc (cells #[bool true,slice l n c'] 44)).drewN q)) (fun i _=>n - (intOf i).toNat)
   case atStart=>exact⟨0,by omega,rfl,zhd (by simp),zhd ⟨0,rfl⟩⟩
   case round=>
    obtain⟨k,hk,rfl,E,m⟩:=hrel;have Q:Hid (Below w.heap.size w wr):=zhd (by obtain⟨q,rfl⟩:=m.out;exact g.out.trans ⟨rfl,rfl,rfl,Nat.le_refl _,fun _ _=>rfl⟩);have c0:wr.cell? ⟨w.heap.size,1,none⟩=some (slice A n c):=by obtain⟨q,rfl⟩:=m.out;go_simp
    have c1:wr.cell? ⟨w.heap.size+1,1,none⟩=some (slice l n c'):=by obtain⟨q,rfl⟩:=m.out;go_simp
    by_cases M:k<n
    ·have C:k<a.length:=by rw [<-D.out];exact M
     have y:k<d.length:=by rw [<-B.out];exact M
     have L:Row wr w.heap.size A (a.map zaa):=by obtain⟨q,rfl⟩:=m.out;exact U.out.drewN q
     have I:Row wr w.heap.size l (d.map zaa):=by obtain⟨q,rfl⟩:=m.out;exact T.out.drewN q
     obtain⟨b,o,rfl,_,hc⟩:=L.open_ (by simp;omega);obtain⟨R,X,rfl,_,N⟩:=I.open_ (by simp;omega);have W:wr.cell? ⟨b,o+k,none⟩=some (int .u8 (a[k].toNat:Int)):=(hc k (by simpa using C)).trans (congrArg some (by rw [List.getElem_map];rfl));have V:wr.cell? ⟨R,X+k,none⟩=some (int .u8 (d[k].toNat:Int)):=(N k (by simpa using y)).trans (congrArg some (by rw [List.getElem_map];rfl));have aa:(0:Int)<=(k:Int):=by omega
     have ab:(k:Int)<(n:Int):=by omega
     clear hc N L I;obtain⟨p,z⟩:∃ p:Int,(a[k].toNat:Int)=p:=⟨_,rfl⟩;obtain⟨q,hq⟩:∃ q:Int,(d[k].toNat:Int)=q:=⟨_,rfl⟩;rw [z] at W;rw [hq] at V;have J:=zhd z;have F:=zhd hq;clear z hq;by_cases v:p=q
     ·subst v;have S:Hid (a.take (k+1)=d.take (k+1)):=zhd (zjD C y E.out (by rw [J.out,F.out]));have O:(p != p)=false:=by simp
      go_wp2;go_quiet (fail)
      go_wp2;go_roundw
      case rel=>exact⟨k+1,by omega,by go_num,S,zhd (by obtain⟨q,rfl⟩:=m.out;exact⟨_,by rw [World.drewN_drewN]⟩)⟩
      case measure=>simp [intOf];omega
     ·have O:(p != q)=true:=by simpa using v
      have r:Hid (zdf true true a d=false):=zhd (zmC k C y (by rw [J.out,F.out];exact v));clear v;go_wp2;go_quiet (fail)
      go_wp2;go_ret;exact zaM r.out.symm (Q.out.trans ⟨rfl,rfl,rfl,Nat.le_refl _,fun _ _=>rfl⟩)
    ·obtain rfl:k=n:=by omega
     have r:Hid (zdf true true a d=true):=zhd (by
      have:=E.out;rw [List.take_of_length_le (by rw [<-D.out];omega),List.take_of_length_le (by rw [<-B.out];omega)] at this;rw [this];simp [zdf])
     go_wp2;go_ret;exact zaM r.out.symm Q.out
  ·have r:Hid (zdf true true a d=false):=zhd (zjC (by rw [<-D.out,<-B.out];exact u));have O:(n != j)=true:=by simpa using u
   have ae:((n:Int) != (j:Int))=true:=by simp;omega
   clear u;go_enter Tryz.func43,Tryz.ntmps43
   go_wp2;go_ret;exact zaM r.out.symm g.out
end
section
open Go.RowKit Mem
def zdU(k1 k2:ByteArray)(s u o s' u' o':Int)(h1 h2:Bool)(xs ys:List UInt8):Bool:=decide (k1=k2)&&(eqT s u o s' u' o'&&zdf h1 h2 xs ys)
theorem zfB{a b:ByteArray}(h:a≠b):(a.toList==b.toList)=false:=by
 rw [beq_eq_false_iff_ne];intro e;rw [ByteArray.toList_eq,ByteArray.toList_eq] at e;apply h;obtain⟨⟨x⟩⟩:=a;obtain⟨⟨y⟩⟩:=b;simp at e;rw [e]
theorem zla(k1 m:ByteArray)(s u o g a k:Int)(i d:Bool)(A t:Option Addr)(b j:List UInt8)(c c' n r:Nat)(v:n=b.length)(B:r=j.length)(w:World)(h:ValOk w i A b c)(x:ValOk w d t j c') :
 Calls Tryz.prog 16 #[zaT k1 s u o i A n c,zaT m g a k d t r c'] w (IsB (zdU k1 m s u o g a k i d b j) w):=by
 have l:Hid (Below w.heap.size w ((w.alloc (zhm k1 s u o i A n c)).alloc (zhm m g a k d t r c'))):=zhd ((zbl).alloc (by simp) _);have E:=zhd (h.below l.out);have C:=zhd (x.below l.out);have G:=zhd v;have F:=zhd B;clear h x v B;by_cases q:k1=m
 ·subst q;have z:Hid (zdU k1 k1 s u o g a k i d b j=(eqT s u o g a k&&zdf i d b j)):=zhd (by unfold zdU;simp);have hq:=zgx s u o g a k;cases he:eqT s u o g a k
  ·rw [he] at hq;have p:Hid (zdU k1 k1 s u o g a k i d b j=false):=zhd (by rw [z.out,he];rfl);clear he;go_enter Tryz.func16,Tryz.ntmps16
   go_wp2;go_ret;exact zaM p.out.symm l.out
  ·rw [he] at hq;have p:Hid (zdU k1 k1 s u o g a k i d b j=zdf i d b j):=zhd (by rw [z.out,he];rfl);clear he;go_enter Tryz.func16,Tryz.ntmps16
   go_wp2_with (go_at_call 43;refine(zhn _ _ _ _ b j _ _ _ _ G.out F.out _ E.out C.out).mono ?_;rintro e I ⟨rfl,y⟩;have D:=zhd (l.out.trans (y.mono l.out.size));clear y)
   go_ret;exact zaM p.out.symm D.out
 ·have J:(k1.toList==m.toList)=false:=zfB q;have p:Hid (zdU k1 m s u o g a k i d b j=false):=zhd (by unfold zdU;rw [decide_eq_false q];rfl);clear q;go_enter Tryz.func16,Tryz.ntmps16
  go_wp2;go_ret;exact zaM p.out.symm l.out
end
section
open Go.RowKit Mem
theorem zaS{w:World}{B B':Nat}{e:TypeId}{v:Value}{n:Nat}{b:List Value}(h:w.ownsRow B e 1 v n b)(j:B'<=B):w.ownsRow B' e 1 v n b:=by
 obtain⟨c,a⟩:=h;refine⟨c,?_⟩;rcases a with a|⟨g,cap,d,i,k,r⟩
 ·exact Or.inl a
 ·exact Or.inr ⟨g,cap,d,i,by omega,r⟩
theorem zak{w:World}{B g:Nat}{e:TypeId}{v:Value}{n:Nat}{b:List Value}(h:w.ownsRow B e 1 v n b)(c:g<B)(i:Nat)(u:Value):(w.setCell ⟨g,i,none⟩ u).ownsRow B e 1 v n b:=
 ownsRow_setCell_below h (a:=⟨g,i,none⟩) c u
def zlb(B:Nat)(key:ByteArray)(s u o:Int)(has:Bool)(xs:List UInt8)(w:World)(e:Ending)(w':World):Prop:=
 ∃ A c,e=.returned (zaT key s u o has A xs.length c)/\w'.ownsRow B 5 1 (slice A xs.length c) xs.length (xs.map zaa)/\Below B w w'
theorem zdp(key:ByteArray)(s u o:Int)(has:Bool)(A:Option Addr)(a:List UInt8)(n c:Nat)(m:n=a.length)(w:World)(h:ValOk w has A a c) :
 Calls Tryz.prog 72 #[zaT key s u o has A n c] w (zlb w.heap.size key s u o has a w):=by
 have l:Below w.heap.size w ((w.alloc (zhm key s u o has A n c)).alloc (cells #[.string .empty,int i64 0,int i64 0,int i64 0,bool false,slice none 0 0] 46)):=(zbl).alloc (by simp) _;have r:=zhd (h.row.below l);have t:Hid (a.length<=140737488355328):=zhd (by have:=h.len;omega);have y:=zhd m;clear h l m;go_enter Tryz.func72,Tryz.ntmps72
 go_wp2_with (go_at_call 71;refine(za4 w.heap.size c A a n y.out _ r.out (by simp;omega) t.out).mono ?_;rintro e C ⟨i,c2,rfl,d,b⟩;obtain⟨hc,D⟩:=zdE b;have k:=zhd d;have q:=zhd b;(have j:=(((Blk.new w 46 #[.string key,int i64 s,int i64 u,int i64 o,bool has,slice A n c]).alloc (cells #[.string .empty,int i64 0,int i64 0,int i64 0,bool false,slice none 0 0] 46)).below b (by simp;omega)));(have c5:=j.cell 5);clear d b j)
 refine bodyPost_ret (v:=zaT key s u o has i a.length c2) (by simp [results,Tryz.results72,go_sem,hc]) rfl ⟨i,c2,rfl,?_,?_⟩
 ·have z:=zak k.out (g:=w.heap.size) (by simp;omega);refine zaS (B:=w.heap.size+2) ?_ (by omega);have x:(w.heap.size+2)=((w.alloc (zhm key s u o has A n c)).alloc (cells #[.string .empty,int i64 0,int i64 0,int i64 0,bool false,slice none 0 0] 46)).heap.size:=by simp
  have p:=k.out;rw [<-x] at p;exact zak (zak (zak (zak (zak (zak (zak p (by omega) _ _) (by omega) _ _) (by omega) _ _) (by omega) _ _) (by omega) _ _) (by omega) _ _) (by omega) _ _
 ·exact zad (zad (zad (zad (zad (zad (zad (zfS q.out) (by omega) _ _) (by omega) _ _) (by omega) _ _) (by omega) _ _) (by omega) _ _) (by omega) _ _) (by omega) _ _
end
section
open Go.RowKit Mem
theorem zhI(a b c x y z:Int):zdC a b c x y z=-1\/zdC a b c x y z=0\/zdC a b c x y z=1:=by
 unfold zdC;rcases zbb a x with⟨_,h⟩|⟨_,h⟩|⟨_,h⟩<;>rcases zbb b y with⟨_,d⟩|⟨_,d⟩|⟨_,d⟩<;>rcases zbb c z with⟨_,g⟩|⟨_,g⟩|⟨_,g⟩<;>rw [h,d,g]<;>simp
theorem zcp(a b c x y z n:Int)(h:Hid (zdC a b c x y z=n))(w:World):Calls Tryz.prog 114 #[zjA a b c,zjA x y z] w (IsI n w):=by
 have:=zk9 a b c x y z w;rw [h.out] at this;exact this
theorem zcw(a b c x y z n:Int)(h:Hid (zdC a b c x y z=n))(w:World):Calls Tryz.prog 22 #[zjA a b c,zjA x y z] w (IsI n w):=by
 have:=zhl a b c x y z w;rw [h.out] at this;exact this
theorem zgA{w w1 h:World}{key:ByteArray}{s u o:Int}{has:Bool}{d:List UInt8}{A:Option Addr}{c g:Nat}{v0 v1 v2 v3 v4 v5:Value}
 (i:Below w.heap.size w w1) (j:h.ownsRow w1.heap.size 5 1 (slice A d.length c) d.length (d.map zaa)) (k:Below w1.heap.size w1 h) (a:w.heap.size<=g) (b:g<w1.heap.size) :
 zlb w.heap.size key s u o has d w (.returned (zaT key s u o has A d.length c)) ((((((h.setCell ⟨g,0,none⟩ v0).setCell ⟨g,1,none⟩ v1).setCell ⟨g,2,none⟩ v2).setCell ⟨g,3,none⟩ v3).setCell ⟨g,4,none⟩ v4).setCell ⟨g,5,none⟩ v5):=
 ⟨A,c,rfl,zaS (zak (zak (zak (zak (zak (zak j b _ _) b _ _) b _ _) b _ _) b _ _) b _ _) i.size,
  zad (zad (zad (zad (zad (zad (i.trans (k.mono i.size)) a _ _) a _ _) a _ _) a _ _) a _ _) a _ _⟩
theorem zr1(key j:ByteArray)(s u o d u2 i:Int)(has b:Bool)(A k:Option Addr)(m g:List UInt8)(n c l c2:Nat)(q:n=m.length)(x:l=g.length)(w:World)(h:ValOk w has A m c)(p:ValOk w b k g c2)(hc:zdC s u o d u2 i=-1) :
 Calls Tryz.prog 155 #[zaT key s u o has A n c,zaT j d u2 i b k l c2] w (zlb w.heap.size j d u2 i b g w):=by
 have I:=zhd h;have F:=zhd p;have M:=zhd q;have z:=zhd x;clear h p q x
 ·have G:=zhd hc;clear hc;go_enter Tryz.func155,Tryz.ntmps155
  go_wp2_with fail
  refine(zcp _ _ _ _ _ _ _ (by assumption) _).mono ?_;rintro e w1 ⟨rfl,a⟩;obtain⟨hc,L⟩:=zdE a;have t:=zhd (zdW a);have y:w.heap.size+2<w1.heap.size:=by have:=a.size;simp at this;omega
  clear a;go_wp2_with fail
  refine(zdp j d u2 i b k g l c2 z.out _ (F.out.below t.out)).mono ?_;rintro e K ⟨C,c3,rfl,r,a⟩;obtain⟨E,J⟩:=zdE a;have D:=zhd r;have B:=zhd a;clear r a;go_wp2;exact bodyPost_ret (v:=zaT j d u2 i b C g.length c3) (by simp [results,Tryz.results155,go_sem,hc,E,y]) rfl (zgA t.out D.out B.out (by omega) y)
theorem zr2(key F:ByteArray)(s u o p u2 q:Int)(has r:Bool)(A t:Option Addr)(b C:List UInt8)(n c z c2:Nat)(B:n=b.length)(E:z=C.length)(w:World)(h:ValOk w has A b c)(y:ValOk w r t C c2)(hc:zdC s u o p u2 q≠-1) :
 Calls Tryz.prog 155 #[zaT key s u o has A n c,zaT F p u2 q r t z c2] w (zlb w.heap.size key s u o has b w):=by
 have x:=zhd h;have M:=zhd y;have D:=zhd B;have L:=zhd E;clear h y B E;rcases zhI s u o p u2 q with hq|hq|hq
 ·exact absurd hq hc
 ·have G:=zhd hq;clear hq hc;go_enter Tryz.func155,Tryz.ntmps155
  go_wp2_with fail
  refine(zcp _ _ _ _ _ _ _ (by assumption) _).mono ?_;rintro e w1 ⟨rfl,a⟩;obtain⟨hc,K⟩:=zdE a;have g:=zhd (zdW a);have i:w.heap.size+2<w1.heap.size:=by have:=a.size;simp at this;omega
  clear a;go_wp2_with fail
  refine(zdp key s u o has A b n c D.out _ (x.out.below g.out)).mono ?_;rintro e J ⟨k,c3,rfl,d,a⟩;obtain⟨m,I⟩:=zdE a;have l:=zhd d;have j:=zhd a;clear d a;go_wp2;exact bodyPost_ret (v:=zaT key s u o has k b.length c3) (by simp [results,Tryz.results155,go_sem,hc,m,i]) rfl (zgA g.out l.out j.out (by omega) i)
 ·have G:=zhd hq;clear hq hc;go_enter Tryz.func155,Tryz.ntmps155
  go_wp2_with fail
  refine(zcp _ _ _ _ _ _ _ (by assumption) _).mono ?_;rintro e w1 ⟨rfl,a⟩;obtain⟨hc,K⟩:=zdE a;have g:=zhd (zdW a);have i:w.heap.size+2<w1.heap.size:=by have:=a.size;simp at this;omega
  clear a;go_wp2_with fail
  refine(zdp key s u o has A b n c D.out _ (x.out.below g.out)).mono ?_;rintro e J ⟨k,c3,rfl,d,a⟩;obtain⟨m,I⟩:=zdE a;have l:=zhd d;have j:=zhd a;clear d a;go_wp2;exact bodyPost_ret (v:=zaT key s u o has k b.length c3) (by simp [results,Tryz.results155,go_sem,hc,m,i]) rfl (zgA g.out l.out j.out (by omega) i)
end
section
open Go.RowKit Mem Be
def zlc(s u o:Int):List UInt8:=zbj s++(zbj u++zbj o)
theorem zld(s u o:Int):(zlc s u o).length<=27:=by
 have:=zbo s;have:=zbo u;have:=zbo o;unfold zlc;rw [List.length_append,List.length_append];omega
def zit(k:List UInt8)(s u o:Int)(has:Bool)(xs:List UInt8):List UInt8:=zbx k++(zlc s u o++(za9 has++(if has=true then zbx xs else [])))
theorem zle(k:List UInt8)(s u o:Int)(has:Bool)(a:List UInt8):(zit k s u o has a).length<=k.length+a.length+46:=by
 have c:=zbo (k.length:Int);have d:=zbo (a.length:Int);have b:=zld s u o;unfold zit zbx za9;cases has<;>simp only [List.length_append,List.length_cons,List.length_nil,if_true,Bool.false_eq_true,if_false]<;>omega
theorem ze6(bs:List UInt8)(B n c:Nat)(A:Option Addr)(rs:List zb3)(d:n=rs.length)(w:World)(h:Row w B A (rs.map zbN))(a:B<=w.heap.size)(b:zdT w rs)(hc:zbi rs=bs)(hl:bs.length<=1073741824)(g:n<=1000000) :
 Calls Tryz.prog 56 #[slice A n c] w (zex w.heap.size bs w):=by
 subst hc;exact zfw B n c A rs d w h a b hl g
theorem zpf(key:ByteArray)(s u o:Int)(A:Option Addr)(g:List UInt8)(n c:Nat)(D:n=g.length)(j:zav key.size n s u o true=0)(w:World)(h:ValOk w true A g c) :
 Calls Tryz.prog 121 #[zaT key s u o true A n c] w (zgv w.heap.size (zit (kb key) s u o true g) 0 w):=by
 have L:=zah j;have F:Hid (key.size<=250):=zhd L.2.1;have O:Hid (g.length<=60000):=zhd (by omega);have HR:Hid (∀ W,Calls Tryz.prog 107 #[zaT key s u o true A n c] W (IsI 0 W)):=zhd fun W=>by
  rw [<-j];exact zgz key s u o true A n c (by omega) (by omega) W
 have HV:=zhd h;have HN:=zhd D;clear j h D L;have E:=Blk.new w 46 #[.string key,int i64 s,int i64 u,int i64 o,bool true,slice A n c];have Q:=zhd E;clear E;go_enter Tryz.func121,Tryz.ntmps121
 go_wp2_with fail
 refine(HR.out _).mono ?_;rintro e w1 ⟨rfl,a⟩;have I:=zhd (zax a);have x:=zhd (Q.out.below a (by simp));have k0:=x.out.cell 0;clear a;go_wp2_with (with_reducible refine zdD _ rfl _ _ _ _ rfl key rfl Tryz.underlying9 Tryz.underlying27 Tryz.underlying5 ?_)
 intro A1 c1 Y C a _;have z:=zhd (I.out.trans (a.mono I.out.size));have G:=zhd (x.out.below a x.out.lt);have R:=zhd C;clear k0 C a;go_wp2_with fail
 refine(zid _ c1 _ A1 (kb key) (zc8 key).symm _ R.out (Nat.le_refl _) (by rw [zc8];have:=F.out;omega)).mono ?_;rintro e i ⟨S,c3,rfl,b,a⟩;have J:=zhd (z.out.trans (a.mono z.out.size));have k:=zhd (G.out.below a G.out.lt);have X:=zhd (zcu (zge Y) a b);have K:=k.out.cell 1;have N:=k.out.cell 2;have M:=k.out.cell 3;clear b a;go_wp2_with fail
 have d:Hid (Below i.heap.size i i.drew):=zhd (Below.refl _ _).drew;have t:Hid (zdT i.drew []):=zhd (zge _);have y:w.heap.size<i.heap.size:=k.out.lt;go_region_held3 (fun w'=>w'.cell? ⟨w.heap.size,1,none⟩=some (int i64 s)/\w'.cell? ⟨w.heap.size,2,none⟩=some (int i64 u)/\w'.cell? ⟨w.heap.size,3,none⟩=some (int i64 o))
  (first|go_keep|exact⟨(d.out.cell (p:=⟨w.heap.size,1,none⟩) y).trans K,(d.out.cell (p:=⟨w.heap.size,2,none⟩) y).trans N,(d.out.cell (p:=⟨w.heap.size,3,none⟩) y).trans M⟩)
  (first
   | (go_at_call 149;refine(zkZ _ _).mono ?_;rintro e w4 ⟨A4,c4,rfl,b,a⟩;have t:=zhd (zcu t.out a b);have d:=zhd (d.out.trans (a.mono d.out.size));clear b a)
   | (go_at_call 56;refine(ze6 (zlc s u o) _ _ _ _ _ rfl _ (zbs rfl) (by simp) (zcl t.out _) (by simp [zbi,zlc]) (by have:=zld s u o;omega) (by simp)).mono ?_;rintro e w5 ⟨A5,c5,rfl,b,a⟩;have ab:=zhd b;have d:=zhd (d.out.trans (zax a |>.mono d.out.size));clear b a))
 have v:Hid (Below i.heap.size i w5):=d;have l:=zhd (J.out.trans (v.out.mono J.out.size));have m:=zhd (k.out.below v.out k.out.lt);have ae:=zhd (zcu X.out v.out ab.out);clear K N M;have s4:=m.out.cell 4;have s5:=m.out.cell 5;go_wp2_with fail
 refine(zid w.heap.size c n A g HN.out _ (HV.out.row.below l.out) l.out.size (by have:=O.out;omega)).mono ?_;rintro e w6 ⟨A6,c6,rfl,b,a⟩;have B:=zhd (l.out.trans (a.mono l.out.size));have af:=zhd (m.out.below a m.out.lt);have T:=zhd (zcu ae.out a b);have q4:=af.out.cell 4;clear b a s4 s5;go_wp2_with fail
 refine(zfT true _).mono ?_;rintro e w7 ⟨Z,c7,rfl,b,a⟩;have q:=zhd (B.out.trans (a.mono B.out.size));have U:=zhd (zcu T.out a b);clear b a;go_wp2_with fail
 refine(ze6 (zit (kb key) s u o true g) _ _ _ _ [(S,zbx (kb key),c3),(A5,zlc s u o,c5),(Z,za9 true,c7),(A6,zbx g,c6)] rfl _ (zbs rfl) (by simp) (zcl (zju U.out (by intro r j;simp at j ⊢;rcases j with h|h|h|h<;>simp [h])) _) (by simp [zbi,zit]) (by have:=zle (kb key) s u o true g;have:=F.out;have:=O.out;have:=zc8 key;omega) (by simp)).mono ?_;rintro e w8 ⟨A8,c8,rfl,b,a⟩;have V:=zhd (q.out.trans ((zax a).mono q.out.size));have aa:=zhd (zaS b (Nat.le_trans q.out.size (by simp):w.heap.size<=_));clear b a;go_wp2;go_ret2
 exact⟨A8,c8,rfl,aa.out,V.out⟩
theorem zr3(key:ByteArray)(s u o:Int)(A:Option Addr)(k:List UInt8)(n c:Nat)(B:n=k.length)(i:zav key.size n s u o false=0)(w:World)(h:ValOk w false A k c) :
 Calls Tryz.prog 121 #[zaT key s u o false A n c] w (zgv w.heap.size (zit (kb key) s u o false k) 0 w):=by
 have J:=zah i;have D:Hid (key.size<=250):=zhd J.2.1;have HX:Hid (k.length<=60000):=zhd (by omega);have HR:Hid (∀ W,Calls Tryz.prog 107 #[zaT key s u o false A n c] W (IsI 0 W)):=zhd fun W=>by
  rw [<-i];exact zgz key s u o false A n c (by omega) (by omega) W
 have HV:=zhd h;have HN:=zhd B;clear i h B J;have C:=Blk.new w 46 #[.string key,int i64 s,int i64 u,int i64 o,bool false,slice A n c];have M:=zhd C;clear C;go_enter Tryz.func121,Tryz.ntmps121
 go_wp2_with fail
 refine(HR.out _).mono ?_;rintro e w1 ⟨rfl,a⟩;have F:=zhd (zax a);have t:=zhd (M.out.below a (by simp));have k0:=t.out.cell 0;clear a;go_wp2_with (with_reducible refine zdD _ rfl _ _ _ _ rfl key rfl Tryz.underlying9 Tryz.underlying27 Tryz.underlying5 ?_)
 intro Y c1 V z a _;have x:=zhd (F.out.trans (a.mono F.out.size));have E:=zhd (t.out.below a t.out.lt);have N:=zhd z;clear k0 z a;go_wp2_with fail
 refine(zid _ c1 _ Y (kb key) (zc8 key).symm _ N.out (Nat.le_refl _) (by rw [zc8];have:=D.out;omega)).mono ?_;rintro e g ⟨O,c3,rfl,b,a⟩;have G:=zhd (x.out.trans (a.mono x.out.size));have j:=zhd (E.out.below a E.out.lt);have U:=zhd (zcu (zge V) a b);have I:=j.out.cell 1;have L:=j.out.cell 2;have K:=j.out.cell 3;clear b a;go_wp2_with fail
 have d:Hid (Below g.heap.size g g.drew):=zhd (Below.refl _ _).drew;have m:Hid (zdT g.drew []):=zhd (zge _);have v:w.heap.size<g.heap.size:=j.out.lt;go_region_held3 (fun w'=>w'.cell? ⟨w.heap.size,1,none⟩=some (int i64 s)/\w'.cell? ⟨w.heap.size,2,none⟩=some (int i64 u)/\w'.cell? ⟨w.heap.size,3,none⟩=some (int i64 o))
  (first|go_keep|exact⟨(d.out.cell (p:=⟨w.heap.size,1,none⟩) v).trans I,(d.out.cell (p:=⟨w.heap.size,2,none⟩) v).trans L,(d.out.cell (p:=⟨w.heap.size,3,none⟩) v).trans K⟩)
  (first
   | (go_at_call 149;refine(zkZ _ _).mono ?_;rintro e w4 ⟨A4,c4,rfl,b,a⟩;have m:=zhd (zcu m.out a b);have d:=zhd (d.out.trans (a.mono d.out.size));clear b a)
   | (go_at_call 56;refine(ze6 (zlc s u o) _ _ _ _ _ rfl _ (zbs rfl) (by simp) (zcl m.out _) (by simp [zbi,zlc]) (by have:=zld s u o;omega) (by simp)).mono ?_;rintro e w5 ⟨A5,c5,rfl,b,a⟩;have aa:=zhd b;have d:=zhd (d.out.trans (zax a |>.mono d.out.size));clear b a))
 have q:Hid (Below g.heap.size g w5):=d;have S:=zhd (G.out.trans (q.out.mono G.out.size));have ae:=zhd (j.out.below q.out j.out.lt);have ab:=zhd (zcu U.out q.out aa.out);clear I L K;have s4:=ae.out.cell 4;have y:=S;have Q:=zhd (zoZ ab.out);go_wp2_with fail
 refine(zfT false _).mono ?_;rintro e w7 ⟨X,c7,rfl,b,a⟩;have l:=zhd (y.out.trans (a.mono y.out.size));have R:=zhd (zcu Q.out a b);clear b a;go_wp2_with fail
 refine(ze6 (zit (kb key) s u o false k) _ _ _ _ [(O,zbx (kb key),c3),(A5,zlc s u o,c5),(X,za9 false,c7),(none,[],0)] rfl _ (zbs rfl) (by simp) (zcl (zju R.out (by intro r i;simp at i ⊢;rcases i with h|h|h|h<;>simp [h])) _) (by simp [zbi,zit]) (by have:=zle (kb key) s u o false k;have:=D.out;have:=HX.out;have:=zc8 key;omega) (by simp)).mono ?_;rintro e w8 ⟨A8,c8,rfl,b,a⟩;have T:=zhd (l.out.trans ((zax a).mono l.out.size));have Z:=zhd (zaS b (Nat.le_trans l.out.size (by simp):w.heap.size<=_));clear b a;go_wp2;go_ret2
 exact⟨A8,c8,rfl,Z.out,T.out⟩
end
section
open Go.RowKit Mem Be
theorem zej{w w':World}{g:Nat}{t:TypeId}{a:Array Value}{B:Nat}{v:Value}{n:Nat}{e:TypeId}{h:List Value}(b:Blk w g t a)(d:w.grownBy w' v.ownBlock)(c:w.ownsRow B e 1 v n h)(i:g<B):Blk w' g t a:=
 b.grown d (fun e=>by have:=(c.lt g e.symm).1;omega)
theorem zb6{a w w':World}{B C:Nat}{v:Value}{n:Nat}{e:TypeId}{h:List Value}(b:Below C a w)(g:w.grownBy w' v.ownBlock)(d:w.ownsRow B e 1 v n h)(j:C<=a.heap.size)(c:C<=B):Below C a w':=
 b.grown g (Nat.le_trans j b.size) (fun k i=>Nat.le_trans c (d.lt k i).1)
theorem zpg{w w':World}{B n:Nat}{e:TypeId}{u v:Value}{a:List Value}(h:w.ownsRow B e 1 v n a)(c:w.grownBy w' u.ownBlock)(b:∀ k,u.ownBlock=some k->k<B):w'.ownsRow B e 1 v n a:=by
 refine h.kept c ?_;cases hv:v.ownBlock with
 | none=>exact Or.inl rfl
 | some k=>exact Or.inr (fun e=>by have:=(h.lt k hv).1;have:=b k e.symm;omega)
theorem zlf(key:ByteArray)(s u o:Int)(A:Option Addr)(t:List UInt8)(n c:Nat)(hn:n=t.length)(M:zav key.size n s u o false=0)(w:World)(h:ValOk w false A t c) :
 Calls Tryz.prog 66 #[zaT key s u o false A n c] w (zgv w.heap.size (zit (kb key) s u o false t) 0 w):=by
 obtain⟨F,D,C,v,G⟩:=info_parts zaB;have aw:=zah M;have HK:Hid (key.size<=250):=zhd aw.2.1;have HX:Hid (t.length<=60000):=zhd (by omega);have HR:Hid (∀ W,Calls Tryz.prog 30 #[zaT key s u o false A n c] W (IsI 0 W)):=zhd fun W=>by
  rw [<-M];exact zc9 key s u o false A n c (by omega) (by omega) W
 have HV:=zhd h;have HN:=zhd hn;clear M h hn aw;have ai:=Blk.new w 46 #[.string key,int i64 s,int i64 u,int i64 o,bool false,slice A n c];have aE:=zhd ai;clear ai;have aO:=zbo ((kb key).length:Int);have ak:=zbo s;have aA:=zbo u;have am:=zbo o;obtain⟨l,B⟩:∃ l,l=zbx (kb key):=⟨_,rfl⟩;obtain⟨j,I⟩:∃ j,j=zbj s:=⟨_,rfl⟩;obtain⟨k,K⟩:∃ k,k=zbj u:=⟨_,rfl⟩;obtain⟨i,E⟩:∃ i,i=zbj o:=⟨_,rfl⟩;obtain⟨p,J⟩:∃ p,p=l++j:=⟨_,rfl⟩;obtain⟨m,x⟩:∃ m,m=p++k:=⟨_,rfl⟩;obtain⟨q,y⟩:∃ q,q=m++i:=⟨_,rfl⟩;obtain⟨r,z⟩:∃ r,r=q++za9 false:=⟨_,rfl⟩;have L:Hid (l.length<=300):=zhd (by rw [B];unfold zbx;rw [List.length_append,zc8] at *;have:=HK.out;omega);have M1:Hid (j.length<=9):=zhd (by rw [I];exact ak);have Q:Hid (k.length<=9):=zhd (by rw [K];exact aA);have M3:Hid (i.length<=9):=zhd (by rw [E];exact am);have V:Hid (p.length<=400):=zhd (by rw [J,List.length_append];have:=L.out;have:=M1.out;omega);have L2:Hid (m.length<=500):=zhd (by rw [x,List.length_append];have:=V.out;have:=Q.out;omega);have O:Hid (q.length<=600):=zhd (by rw [y,List.length_append];have:=L2.out;have:=M3.out;omega);have L4:Hid (r.length<=700):=zhd (by rw [z,List.length_append];have:=O.out;unfold za9;simp;omega);have X1:Hid (l.map zaa++j.map zaa=p.map zaa):=zhd (by rw [J,List.map_append]);have X2:Hid (p.map zaa++k.map zaa=m.map zaa):=zhd (by rw [x,List.map_append]);have X3:Hid (m.map zaa++i.map zaa=q.map zaa):=zhd (by rw [y,List.map_append]);have X4:Hid (q.map zaa++[zaa 0]=r.map zaa):=zhd (by rw [z,List.map_append];rfl);have HE:Hid (zit (kb key) s u o false t=r):=zhd (by rw [z,y,x,J,B,I,K,E];simp [zit,zlc]);have aX:=zhd B;have aT:=zhd I;have aS:=zhd K;have aH:=zhd E;rw [HE.out];clear B I K E J x y z aO ak aA am;go_enter Tryz.func66,Tryz.ntmps66
 go_wp2_with fail
 refine(HR.out _).mono ?_;rintro e w1 ⟨rfl,a⟩;have al:=zhd (zax a);have X:=zhd (aE.out.below a (by simp));have k0:=X.out.cell 0;clear a;go_wp2_with (with_reducible refine zdD _ rfl _ _ _ _ rfl key rfl Tryz.underlying9 Tryz.underlying27 Tryz.underlying5 ?_)
 intro A1 c1 w2 ag a _;have ab:=zhd (al.out.trans (a.mono al.out.size));have R:=zhd (X.out.below a X.out.lt);have aG:=zhd ag;clear k0 ag a;go_wp2_with fail
 refine(zeg _ c1 _ A1 (kb key) (zc8 key).symm _ aG.out (Nat.le_refl _) (by rw [zc8];have:=HK.out;omega)).mono ?_;rw [<-aX.out];rintro e w3 ⟨A3,c3,rfl,g,a⟩;have an:=zhd (ab.out.trans (a.mono ab.out.size));have T:=zhd (R.out.below a R.out.lt);have aM:Hid (w3.ownsRow (w.heap.size+1) 5 1 (slice A3 l.length c3) l.length (l.map zaa)):=zhd (zaS g R.out.lt);clear g a;have q1:=T.out.cell 1;go_wp2_with fail
 refine(zcm s _).mono ?_;rw [<-aT.out];rintro e w4 ⟨A4,c4,rfl,g,a⟩;have aI:=zhd (an.out.trans (a.mono an.out.size));have aj:=zhd (T.out.below a T.out.lt);have N:=zhd (zb5 aM.out a);have aP:=zhd (Row.of_own g);clear g a q1;go_wp2_with (at_builtin;refine zan _ rfl _ _ 27 rfl (w.heap.size+1) 5 F (int .u8 0) 1 Tryz.underlying27 D C v G rfl _ _ _ rfl N.out w4.heap.size _ j.length c4 (j.map zaa) rfl (by simp) aP.out (zaH j) (by have:=L.out;have:=M1.out;unfold maxLen;omega) (by have:=L.out;have:=M1.out;omega) aj.out.lt ?_)
 intro S w5 d b _;have af:Hid (Below w.heap.size w w5):=zhd (zb6 aI.out b N.out (Nat.le_refl _) (by omega));have aa:=zhd (zej aj.out b N.out (by omega));obtain⟨A5,c5,rfl,ax⟩:=ze5 p d X1.out;have aU:=zhd ax;clear d b ax;have q2:=aa.out.cell 2;go_wp2_with fail
 refine(zcm u _).mono ?_;rw [<-aS.out];rintro e w6 ⟨A6,c6,rfl,g,a⟩;have aK:=zhd (af.out.trans (a.mono af.out.size));have aB:=zhd (aa.out.below a aa.out.lt);have Y:=zhd (zb5 aU.out a);have aL:=zhd (Row.of_own g);clear g a q2;go_wp2_with (at_builtin;refine zan _ rfl _ _ 27 rfl (w.heap.size+1) 5 F (int .u8 0) 1 Tryz.underlying27 D C v G rfl _ _ _ rfl Y.out w6.heap.size _ k.length c6 (k.map zaa) rfl (by simp) aL.out (zaH k) (by have:=V.out;have:=Q.out;unfold maxLen;omega) (by have:=V.out;have:=Q.out;omega) aB.out.lt ?_)
 intro S w7 d b _;have ae:Hid (Below w.heap.size w w7):=zhd (zb6 aK.out b Y.out (Nat.le_refl _) (by omega));have U:=zhd (zej aB.out b Y.out (by omega));obtain⟨A7,c7,rfl,au⟩:=ze5 m d X2.out;have aR:=zhd au;clear d b au;have q3:=U.out.cell 3;go_wp2_with fail
 refine(zcm o _).mono ?_;rw [<-aH.out];rintro e w8 ⟨A8,c8,rfl,g,a⟩;have aN:=zhd (ae.out.trans (a.mono ae.out.size));have ao:=zhd (U.out.below a U.out.lt);have Z:=zhd (zb5 aR.out a);have aJ:=zhd (Row.of_own g);clear g a q3;go_wp2_with (at_builtin;refine zan _ rfl _ _ 27 rfl (w.heap.size+1) 5 F (int .u8 0) 1 Tryz.underlying27 D C v G rfl _ _ _ rfl Z.out w8.heap.size _ i.length c8 (i.map zaa) rfl (by simp) aJ.out (zaH i) (by have:=L2.out;have:=M3.out;unfold maxLen;omega) (by have:=L2.out;have:=M3.out;omega) ao.out.lt ?_)
 intro S w9 d b _;have ay:Hid (Below w.heap.size w w9):=zhd (zb6 aN.out b Z.out (Nat.le_refl _) (by omega));have ah:=zhd (zej ao.out b Z.out (by omega));obtain⟨A9,c9,rfl,aD⟩:=ze5 q d X3.out;have az:=zhd aD;clear d b aD;have q4:=ah.out.cell 4;go_wp2_with (at_builtin;refine zan _ rfl _ _ 27 rfl (w.heap.size+1) 5 F (int .u8 0) 1 Tryz.underlying27 D C v G rfl _ _ _ rfl (az.out.alloc _) (w9.heap.size+1) _ 1 1 [zaa 0] rfl rfl (zbs rfl) (by simp [zaa,Value.oneCell']) (by have:=O.out;unfold maxLen;omega) (by have:=O.out;omega) (by have:=ah.out.lt;simp;omega) ?_)
 intro S aV d b _;have aQ:Hid (Below w.heap.size w aV):=zhd (zb6 (ay.out.alloc ay.out.size _) b (az.out.alloc _) (Nat.le_refl _) (by omega));obtain⟨aY,c11,rfl,aq⟩:=ze5 r d X4.out;have aW:=zhd (zaS aq (by omega:w.heap.size<=_));clear d b aq;go_wp2;go_ret2
 exact zgg aW.out rfl aQ.out
theorem zjE(key:ByteArray)(s u o:Int)(A:Option Addr)(i:List UInt8)(n c:Nat)(hn:n=i.length)(Z:zav key.size n s u o true=0)(w:World)(h:ValOk w true A i c) :
 Calls Tryz.prog 66 #[zaT key s u o true A n c] w (zgv w.heap.size (zit (kb key) s u o true i) 0 w):=by
 obtain⟨B,z,y,x,C⟩:=info_parts zaB;have an:=zah Z;have HK:Hid (key.size<=250):=zhd an.2.1;have HX:Hid (i.length<=60000):=zhd (by omega);have HR:Hid (∀ W,Calls Tryz.prog 30 #[zaT key s u o true A n c] W (IsI 0 W)):=zhd fun W=>by
  rw [<-Z];exact zc9 key s u o true A n c (by omega) (by omega) W
 have HV:=zhd h;have HN:=zhd hn;clear Z h hn an;have ax:=Blk.new w 46 #[.string key,int i64 s,int i64 u,int i64 o,bool true,slice A n c];have aX:=zhd ax;clear ax;have aP:=zbo ((kb key).length:Int);have ak:=zbo s;have aH:=zbo u;have al:=zbo o;obtain⟨m,K⟩:∃ m,m=zbx (kb key):=⟨_,rfl⟩;obtain⟨l,M⟩:∃ l,l=zbj s:=⟨_,rfl⟩;obtain⟨p,O⟩:∃ p,p=zbj u:=⟨_,rfl⟩;obtain⟨j,I⟩:∃ j,j=zbj o:=⟨_,rfl⟩;obtain⟨q,N⟩:∃ q,q=m++l:=⟨_,rfl⟩;obtain⟨r,J⟩:∃ r,r=q++p:=⟨_,rfl⟩;obtain⟨t,D⟩:∃ t,t=r++j:=⟨_,rfl⟩;obtain⟨v,E⟩:∃ v,v=t++za9 true:=⟨_,rfl⟩;have Q:Hid (m.length<=300):=zhd (by rw [K];unfold zbx;rw [List.length_append,zc8] at *;have:=HK.out;omega);have M1:Hid (l.length<=9):=zhd (by rw [M];exact ak);have R:Hid (p.length<=9):=zhd (by rw [O];exact aH);have Y:Hid (j.length<=9):=zhd (by rw [I];exact al);have L1:Hid (q.length<=400):=zhd (by rw [N,List.length_append];have:=Q.out;have:=M1.out;omega);have X:Hid (r.length<=500):=zhd (by rw [J,List.length_append];have:=L1.out;have:=R.out;omega);have L3:Hid (t.length<=600):=zhd (by rw [D,List.length_append];have:=X.out;have:=Y.out;omega);have L4:Hid (v.length<=700):=zhd (by rw [E,List.length_append];have:=L3.out;unfold za9;simp;omega);have X1:Hid (m.map zaa++l.map zaa=q.map zaa):=zhd (by rw [N,List.map_append]);have X2:Hid (q.map zaa++p.map zaa=r.map zaa):=zhd (by rw [J,List.map_append]);have X3:Hid (r.map zaa++j.map zaa=t.map zaa):=zhd (by rw [D,List.map_append]);have X4:Hid (t.map zaa++[zaa 1]=v.map zaa):=zhd (by rw [E,List.map_append];rfl);have HE:Hid (zit (kb key) s u o true i=v++zbx i):=zhd (by rw [E,D,J,N,K,M,O,I];simp [zit,zlc]);have bn:=zhd K;have bk:=zhd M;have bj:=zhd O;have aZ:=zhd I;rw [HE.out];clear K M O I N J D E aP ak aH al;go_enter Tryz.func66,Tryz.ntmps66
 go_wp2_with fail
 refine(HR.out _).mono ?_;rintro e w1 ⟨rfl,a⟩;have aA:=zhd (zax a);have V:=zhd (aX.out.below a (by simp));have k0:=V.out.cell 0;clear a;go_wp2_with (with_reducible refine zdD _ rfl _ _ _ _ rfl key rfl Tryz.underlying9 Tryz.underlying27 Tryz.underlying5 ?_)
 intro A1 c1 w2 aj a _;have ah:=zhd (aA.out.trans (a.mono aA.out.size));have ab:=zhd (V.out.below a V.out.lt);have aY:=zhd aj;clear k0 aj a;go_wp2_with fail
 refine(zeg _ c1 _ A1 (kb key) (zc8 key).symm _ aY.out (Nat.le_refl _) (by rw [zc8];have:=HK.out;omega)).mono ?_;rw [<-bn.out];rintro e w3 ⟨A3,c3,rfl,d,a⟩;have aB:=zhd (ah.out.trans (a.mono ah.out.size));have S:=zhd (ab.out.below a ab.out.lt);have aN:Hid (w3.ownsRow (w.heap.size+1) 5 1 (slice A3 m.length c3) m.length (m.map zaa)):=zhd (zaS d ab.out.lt);clear d a;have q1:=S.out.cell 1;go_wp2_with fail
 refine(zcm s _).mono ?_;rw [<-bk.out];rintro e w4 ⟨A4,c4,rfl,d,a⟩;have bd:=zhd (aB.out.trans (a.mono aB.out.size));have ay:=zhd (S.out.below a S.out.lt);have aa:=zhd (zb5 aN.out a);have bi:=zhd (Row.of_own d);clear d a q1;go_wp2_with (at_builtin;refine zan _ rfl _ _ 27 rfl (w.heap.size+1) 5 B (int .u8 0) 1 Tryz.underlying27 z y x C rfl _ _ _ rfl aa.out w4.heap.size _ l.length c4 (l.map zaa) rfl (by simp) bi.out (zaH l) (by have:=Q.out;have:=M1.out;unfold maxLen;omega) (by have:=Q.out;have:=M1.out;omega) ay.out.lt ?_)
 intro G w5 g b _;have aw:Hid (Below w.heap.size w w5):=zhd (zb6 bd.out b aa.out (Nat.le_refl _) (by omega));have ag:=zhd (zej ay.out b aa.out (by omega));obtain⟨A5,c5,rfl,aG⟩:=ze5 q g X1.out;have aU:=zhd aG;clear g b aG;have q2:=ag.out.cell 2;go_wp2_with fail
 refine(zcm u _).mono ?_;rw [<-bj.out];rintro e w6 ⟨A6,c6,rfl,d,a⟩;have aL:=zhd (aw.out.trans (a.mono aw.out.size));have aJ:=zhd (ag.out.below a ag.out.lt);have ae:=zhd (zb5 aU.out a);have aM:=zhd (Row.of_own d);clear d a q2;go_wp2_with (at_builtin;refine zan _ rfl _ _ 27 rfl (w.heap.size+1) 5 B (int .u8 0) 1 Tryz.underlying27 z y x C rfl _ _ _ rfl ae.out w6.heap.size _ p.length c6 (p.map zaa) rfl (by simp) aM.out (zaH p) (by have:=L1.out;have:=R.out;unfold maxLen;omega) (by have:=L1.out;have:=R.out;omega) aJ.out.lt ?_)
 intro G w7 g b _;have ai:Hid (Below w.heap.size w w7):=zhd (zb6 aL.out b ae.out (Nat.le_refl _) (by omega));have T:=zhd (zej aJ.out b ae.out (by omega));obtain⟨A7,c7,rfl,aE⟩:=ze5 r g X2.out;have aS:=zhd aE;clear g b aE;have q3:=T.out.cell 3;go_wp2_with fail
 refine(zcm o _).mono ?_;rw [<-aZ.out];rintro e w8 ⟨A8,c8,rfl,d,a⟩;have aO:=zhd (ai.out.trans (a.mono ai.out.size));have am:=zhd (T.out.below a T.out.lt);have af:=zhd (zb5 aS.out a);have bf:=zhd (Row.of_own d);clear d a q3;go_wp2_with (at_builtin;refine zan _ rfl _ _ 27 rfl (w.heap.size+1) 5 B (int .u8 0) 1 Tryz.underlying27 z y x C rfl _ _ _ rfl af.out w8.heap.size _ j.length c8 (j.map zaa) rfl (by simp) bf.out (zaH j) (by have:=X.out;have:=Y.out;unfold maxLen;omega) (by have:=X.out;have:=Y.out;omega) am.out.lt ?_)
 intro G w9 g b _;have L:Hid (Below w.heap.size w w9):=zhd (zb6 aO.out b af.out (Nat.le_refl _) (by omega));have F:=zhd (zej am.out b af.out (by omega));obtain⟨A9,c9,rfl,aK⟩:=ze5 t g X3.out;have aq:=zhd aK;clear g b aK;have q4:=F.out.cell 4;have q5:=F.out.cell 5;go_wp2_with fail
 refine(zeg w.heap.size c n A i HN.out _ (HV.out.row.below L.out) L.out.size (by have:=HX.out;omega)).mono ?_;rintro e aQ ⟨bo,c10,rfl,d,a⟩;have au:=zhd (L.out.trans (a.mono L.out.size));have az:=zhd (F.out.below a F.out.lt);have aI:=zhd (zb5 aq.out a);have aT:=zhd d;clear d a q4 q5;go_wp2_with (at_builtin;refine zan _ rfl _ _ 27 rfl (w.heap.size+1) 5 B (int .u8 0) 1 Tryz.underlying27 z y x C rfl _ _ _ rfl (aI.out.alloc _) (aQ.heap.size+1) _ 1 1 [zaa 1] rfl rfl (zbs rfl) (by simp [zaa,Value.oneCell']) (by have:=L3.out;unfold maxLen;omega) (by have:=L3.out;omega) (by have:=az.out.lt;simp;omega) ?_)
 intro G U g b _;have aR:Hid (Below w.heap.size w U):=zhd (zb6 (au.out.alloc au.out.size _) b (aI.out.alloc _) (Nat.le_refl _) (by omega));have aV:=zhd (Row.of_own (zpg (aT.out.alloc _) b (fun k hk=>(aq.out.lt k hk).2)));obtain⟨bp,c11,rfl,aD⟩:=ze5 v g X4.out;have ao:=zhd aD;have bl:Hid (w.heap.size+1<=U.heap.size):=zhd (by have:=az.out.lt;have:=b.size;simp at this;omega);clear g b aD;have bm:=zbo (i.length:Int);have LX:Hid ((zbx i).length<=60009):=zhd (by unfold zbx;rw [List.length_append];have:=HX.out;omega);clear bm;go_wp2_with (at_builtin;refine zan _ rfl _ _ 27 rfl (w.heap.size+1) 5 B (int .u8 0) 1 Tryz.underlying27 z y x C rfl _ _ _ rfl ao.out U.heap.size _ (zbx i).length c10 ((zbx i).map zaa) rfl (by simp) aV.out (zaH (zbx i)) (by have:=L4.out;have:=LX.out;unfold maxLen;omega) (by have:=L4.out;have:=LX.out;omega) bl.out ?_)
 intro G bh g b _;have aW:Hid (Below w.heap.size w bh):=zhd (zb6 aR.out b ao.out (Nat.le_refl _) (by omega));have bg:=zhd (zaS g (by omega:w.heap.size<=_));clear g b;go_wp2;go_ret2
 exact zgg bg.out (by rw [List.map_append]) aW.out
end
section
open Go.RowKit Mem Be
def za6(bs:List UInt8)(e:Int):(Int×Int×Int)×List UInt8×Int:=
 (((zbS 1099511627776 bs e).1,(zbS 1048576 (zbS 1099511627776 bs e).2.1 (zbS 1099511627776 bs e).2.2).1,
  (zbS 1048576 (zbS 1048576 (zbS 1099511627776 bs e).2.1 (zbS 1099511627776 bs e).2.2).2.1 (zbS 1048576 (zbS 1099511627776 bs e).2.1 (zbS 1099511627776 bs e).2.2).2.2).1),
  (zbS 1048576 (zbS 1048576 (zbS 1099511627776 bs e).2.1 (zbS 1099511627776 bs e).2.2).2.1 (zbS 1048576 (zbS 1099511627776 bs e).2.1 (zbS 1099511627776 bs e).2.2).2.2).2)
theorem zaZ{w:World}{g L:Nat}{bs:List UInt8}{e:Int}(h:Rd w g bs e)(a:g<L)(i:Nat)(u:Value):Rd (w.setCell ⟨L,i,none⟩ u) g bs e:=
 zhG h (zap w L i u) (fun k e=>by injection e with e;omega)
theorem zao{w w':World}{g L:Nat}(h:w.grownBy w' (some g))(b:w.heap.size<=L)(i:Nat)(u:Value):w.grownBy (w'.setCell ⟨L,i,none⟩ u) (some g):=
 ⟨h.os,h.tape,h.output,by simpa [World.setCell] using h.size,fun k a hne=>(Below.heap_setCell w' _ u k (by show k≠L;omega)).trans (h.block k a hne)⟩
theorem zbX{w w':World}{o:Obj}{g:Nat}(h:(w.alloc o).grownBy w' (some g)):w.grownBy w' (some g):=zaf (World.grownBy_alloc w o (some g)) h
def zr4(g:Nat)(r:(Int×Int×Int)×List UInt8×Int)(w:World)(E:Ending)(w':World):Prop:=E=.returned (zjA r.1.1 r.1.2.1 r.1.2.2)/\Rd w' g r.2.1 r.2.2/\w.grownBy w' (some g)
theorem znD(g:Nat)(bs:List UInt8)(d:Int)(w:World)(h:Rd w g bs d):Calls Tryz.prog 215 #[.pointer (some ⟨g,0,none⟩)] w (zr4 g (za6 bs d) w):=by
 have j:=rd_lt h;obtain⟨⟨r,m,s⟩,k⟩:∃ y,zbS 1099511627776 bs d=y:=⟨_,rfl⟩;obtain⟨⟨o,p,e2⟩,i⟩:∃ y,zbS 1048576 m s=y:=⟨_,rfl⟩;obtain⟨⟨q,B,e3⟩,l⟩:∃ y,zbS 1048576 p e2=y:=⟨_,rfl⟩;have t:Hid (za6 bs d=((r,o,q),B,e3)):=zhd (by unfold za6;rw [k];simp only;rw [i];simp only;rw [l]);have K:=zhd k;have C:=zhd i;have z:=zhd l;have F:=zhd (zbO h (cells #[int i64 0,int i64 0,int i64 0] 42));have J:=zhd (Blk.new w 42 #[int i64 0,int i64 0,int i64 0]);clear h k i l;rw [t.out];go_enter Tryz.func215,Tryz.ntmps215
 go_wp2_with fail
 refine(zfy g bs 1099511627776 d _ F.out).mono ?_;rw [K.out];rintro e w1 ⟨rfl,b,a⟩;have N:=zhd b;have A:=zhd (zbX a);have L:=zhd (J.out.grown a (by simp;omega));clear b a;go_wp2_with fail
 refine(zfy g m 1048576 s _ N.out).mono ?_;rw [C.out];rintro e R ⟨rfl,b,a⟩;have G:=zhd b;have E:=zhd (zaf A.out a);have x:=zhd (L.out.grown a (by simp;omega));clear b a;go_wp2_with fail
 refine(zfy g p 1048576 e2 _ G.out).mono ?_;rw [z.out];rintro e Q ⟨rfl,b,a⟩;have D:=zhd b;have u:=zhd (zaf E.out a);have c:=x.out.grown a (by simp;omega);have I:=c.cell 0;have q1:=c.cell 1;have M:=c.cell 2;have z0:=c.frozen 0;have S:=c.frozen 1;have O:=c.frozen 2;clear b a c;go_wp2;refine bodyPost_ret (v:=zjA r o q) (by simp [results,Tryz.results215,go_sem,I,q1,M]) rfl ⟨rfl,?_,?_⟩
 ·exact zaZ (zaZ (zaZ D.out j _ _) j _ _) j _ _
 ·exact zao (zao (zao u.out (Nat.le_refl _) _ _) (Nat.le_refl _) _ _) (Nat.le_refl _) _ _
def zdJ(bs:List UInt8)(e:Int):(Bool×List UInt8)×List UInt8×Int:=
 if(zeG bs e).1=true then((true,(zbz (zeG bs e).2.1 (zeG bs e).2.2).1),(zbz (zeG bs e).2.1 (zeG bs e).2.2).2) else((false,[]),(zeG bs e).2)
def zr5(g:Nat)(r:(Bool×List UInt8)×List UInt8×Int)(w:World)(E:Ending)(w':World):Prop:=
 ∃ A c,E=.returned (zr0 r.1.1 A r.1.2.length c)/\w'.ownsRow w.heap.size 5 1 (slice A r.1.2.length c) r.1.2.length (r.1.2.map zaa)/\Rd w' g r.2.1 r.2.2/\w.grownBy w' (some g)
theorem znE(g:Nat)(bs:List UInt8)(d:Int)(w:World)(h:Rd w g bs d):Calls Tryz.prog 216 #[.pointer (some ⟨g,0,none⟩)] w (zr5 g (zdJ bs d) w):=by
 have m:=rd_lt h;obtain⟨⟨t,p,z⟩,i⟩:∃ y,zeG bs d=y:=⟨_,rfl⟩;have A:=zhd (zbO h (cells #[bool false,slice none 0 0] 44));have C:=zhd (Blk.new w 44 #[bool false,slice none 0 0]);clear h;cases t
 ·have o:Hid (zdJ bs d=((false,[]),p,z)):=zhd (by unfold zdJ;rw [i];simp);have u:=zhd i;clear i;rw [o.out];go_enter Tryz.func216,Tryz.ntmps216
  go_wp2_with fail
  refine(zhF g bs d _ A.out).mono ?_;rw [u.out];rintro e w1 ⟨rfl,b,a⟩;have x:=zhd b;have l:=zhd (zbX a);have c:=C.out.grown a (by simp;omega);have s:=c.cell 0;have q1:=c.cell 1;have z0:=c.frozen 0;have J:=c.frozen 1;clear b a c;go_wp2;refine bodyPost_ret (v:=zr0 false none 0 0) (by simp [results,Tryz.results216,go_sem,s,q1]) rfl ⟨none,0,rfl,World.ownsRow_nil _ _ _ _,?_,?_⟩
  ·exact zaZ (zaZ x.out m _ _) m _ _
  ·exact zao (zao l.out (Nat.le_refl _) _ _) (Nat.le_refl _) _ _
 ·obtain⟨⟨k,E,e2⟩,r⟩:∃ y,zbz p z=y:=⟨_,rfl⟩;have o:Hid (zdJ bs d=((true,k),E,e2)):=zhd (by unfold zdJ;rw [i];simp only [if_true];rw [r]);have u:=zhd i;have F:=zhd r;clear i r;rw [o.out];go_enter Tryz.func216,Tryz.ntmps216
  go_wp2_with fail
  refine(zhF g bs d _ A.out).mono ?_;rw [u.out];rintro e w1 ⟨rfl,b,a⟩;have x:=zhd b;have l:=zhd (zbX a);have c:=zhd (C.out.grown a (by simp;omega));clear b a;go_wp2_with fail
  refine(zgh g p z _ x.out).mono ?_;rw [F.out];rintro e I ⟨q,c2,rfl,B,b,a⟩;have K:=zhd b;have G:=zhd (zaf l.out a);have j:=c.out.grown a (by simp;omega);have L:Hid (I.ownsRow w1.heap.size 5 1 (slice q k.length c2) k.length (k.map zaa)):=zhd B;have s:=j.cell 0;have q1:=j.cell 1;have z0:=j.frozen 0;have J:=j.frozen 1;clear b a j B;go_wp2;have D:=l.out.size;have hl:=c.out.lt;refine bodyPost_ret (v:=zr0 true q k.length c2) (by simp [results,Tryz.results216,go_sem,s,q1]) rfl ⟨q,c2,rfl,?_,?_,?_⟩
  ·exact zaS (zak (zak L.out hl _ _) hl _ _) D
  ·exact zaZ (zaZ K.out m _ _) m _ _
  ·exact zao (zao G.out (Nat.le_refl _) _ _) (Nat.le_refl _) _ _
end
section
open Go.RowKit Mem Be
structure EntP where
 k:List UInt8
 s:Int
 u:Int
 o:Int
 has:Bool
 v:List UInt8
def zaA:EntP:=⟨[],0,0,0,false,[]⟩
abbrev zaR:Array Value:=#[.string ⟨#[]⟩,int i64 0,int i64 0,int i64 0,bool false,slice none 0 0]
theorem zgj(bs:List UInt8):(za2 bs).1.length<=65536:=by
 unfold za2;split
 ·simp
 split
 ·simp
 split
 ·simp
 ·rename_i b a c;simp only [List.length_take];omega
theorem zjF(bs:List UInt8)(e:Int):(zbz bs e).1.length<=65536:=by
 unfold zbz;split
 ·exact zgj bs
 ·simp
theorem zph(bs:List UInt8)(e:Int):(zdJ bs e).1.2.length<=65536:=by
 unfold zdJ;split
 ·exact zjF _ _
 ·simp
def zug(g:Nat)(w:World)(x:EntP)(bs:List UInt8)(e:Int)(p:Value)(wx:World):Prop:=
 ∃ L A c,p=.pointer (some ⟨L,0,none⟩)/\Blk wx L 46 #[.string ⟨x.k.toArray⟩,int i64 x.s,int i64 x.u,int i64 x.o,bool x.has,slice A x.v.length c]/\
  wx.ownsRow (w.heap.size+1) 5 1 (slice A x.v.length c) x.v.length (x.v.map zaa)/\Rd wx g bs e/\w.grownBy wx (some g)/\w.heap.size<L/\Blk wx w.heap.size 46 zaR
def zdq(bs:List UInt8)(e:Int):EntP×List UInt8×Int:=
 (⟨(zbz bs e).1,(za6 (zbz bs e).2.1 (zbz bs e).2.2).1.1,(za6 (zbz bs e).2.1 (zbz bs e).2.2).1.2.1,(za6 (zbz bs e).2.1 (zbz bs e).2.2).1.2.2,
  (zdJ (za6 (zbz bs e).2.1 (zbz bs e).2.2).2.1 (za6 (zbz bs e).2.1 (zbz bs e).2.2).2.2).1.1,(zdJ (za6 (zbz bs e).2.1 (zbz bs e).2.2).2.1 (za6 (zbz bs e).2.1 (zbz bs e).2.2).2.2).1.2⟩,
  (zdJ (za6 (zbz bs e).2.1 (zbz bs e).2.2).2.1 (za6 (zbz bs e).2.1 (zbz bs e).2.2).2.2).2)
theorem zmD{w w':World}{B g n:Nat}{e:TypeId}{v:Value}{a:List Value}(h:w.ownsRow B e 1 v n a)(b:w.grownBy w' (some g))(c:g<B):w'.ownsRow B e 1 v n a:=by
 refine h.kept b ?_;cases hv:v.ownBlock with
 | none=>exact Or.inl rfl
 | some k=>exact Or.inr (fun e=>by injection e with e;have:=(h.lt k hv).1;omega)
theorem zek{w:World}{B c:Nat}{A:Option Addr}{a:List UInt8}(h:w.ownsRow B 5 1 (slice A a.length c) a.length (a.map zaa)):(convert 27 9 (slice A a.length c)).run Tryz.prog w=.ok (.string ⟨a.toArray⟩) w:=
 zgc c 27 9 5 Tryz.underlying27 Tryz.underlying5 Tryz.underlying9 (Row.of_own h)
theorem zfC{w:World}{B L n:Nat}{v:Value}{a:List Value}{b:Array Value}(h:w.ownsRow B 5 1 v n a)(g:Blk w L 46 b)(i:Nat)(u:Value):(w.setCell ⟨L,i,none⟩ u).ownsRow B 5 1 v n a:=by
 refine h.kept (zap w L i u) ?_;rcases h.2 with⟨rfl,_⟩|⟨j,cap,k,rfl,_,c,_⟩
 ·exact Or.inl rfl
 ·refine Or.inr (fun d=>?_);have:j=L:=by simpa [Value.ownBlock] using d
  subst this;exact Blk.ne_ (t:=5) c g (by decide) rfl
theorem zwL{w w4:World}{g:Nat}{b a:List UInt8}{s u o e:Int}{has:Bool}{bs:List UInt8}{A:Option Addr}{c:Nat}(h:w4.ownsRow (w.heap.size+1) 5 1 (slice A a.length c) a.length (a.map zaa))(i:Rd w4 g bs e)(j:w.grownBy w4 (some g))(d:Blk w4 w.heap.size 46 zaR) :
 zug g w ⟨b,s,u,o,has,a⟩ bs e (.pointer (some ⟨w4.heap.size,0,none⟩)) (w4.alloc (cells #[.string ⟨b.toArray⟩,int i64 s,int i64 u,int i64 o,bool has,slice A a.length c] 46)):=
 ⟨w4.heap.size,A,c,rfl,Blk.new _ _ _,h.alloc _,zbO i _,zaf j (World.grownBy_alloc _ _ _),d.lt,d.alloc _⟩
theorem zwM{w w4:World}{g L:Nat}{h d:List UInt8}{s u o e:Int}{has:Bool}{bs:List UInt8}{A:Option Addr}{c:Nat}(k:Blk w4 L 46 zaR)(q:w4.ownsRow (w.heap.size+1) 5 1 (slice A d.length c) d.length (d.map zaa))(r:Rd w4 g bs e)(t:w.grownBy w4 (some g))(m:Blk w4 w.heap.size 46 zaR)(b:g<L)(a:w.heap.size<L) :
 zug g w ⟨h,s,u,o,has,d⟩ bs e (.pointer (some ⟨L,0,none⟩)) ((((((w4.setCell ⟨L,0,none⟩ (.string ⟨h.toArray⟩)).setCell ⟨L,1,none⟩ (int i64 s)).setCell ⟨L,2,none⟩ (int i64 u)).setCell ⟨L,3,none⟩ (int i64 o)).setCell ⟨L,4,none⟩ (bool has)).setCell ⟨L,5,none⟩ (slice A d.length c)):=by
 have k1:=k.set_ 0 (.string ⟨h.toArray⟩);have l:=k1.set_ 1 (int i64 s);have j:=l.set_ 2 (int i64 u);have i:=j.set_ 3 (int i64 o);have k5:=i.set_ 4 (bool has);have v:=k5.set_ 5 (slice A d.length c);refine⟨L,A,c,rfl,v,?_,?_,?_,a,?_⟩
 ·exact zfC (zfC (zfC (zfC (zfC (zfC q k _ _) k1 _ _) l _ _) j _ _) i _ _) k5 _ _
 ·exact zaZ (zaZ (zaZ (zaZ (zaZ (zaZ r b _ _) b _ _) b _ _) b _ _) b _ _) b _ _
 ·exact zao (zao (zao (zao (zao (zao t (Nat.le_of_lt a) _ _) (Nat.le_of_lt a) _ _) (Nat.le_of_lt a) _ _) (Nat.le_of_lt a) _ _) (Nat.le_of_lt a) _ _) (Nat.le_of_lt a) _ _
 ·have hne:w.heap.size≠L:=by omega
  exact(((((m.far (p:=⟨L,0,none⟩) hne _).far (p:=⟨L,1,none⟩) hne _).far (p:=⟨L,2,none⟩) hne _).far (p:=⟨L,3,none⟩) hne _).far (p:=⟨L,4,none⟩) hne _).far (p:=⟨L,5,none⟩) hne _
theorem zlg{w a:World}{g:Nat}(b:((w.alloc (cells zaR 46)).alloc (cells zaR 46)).drew.grownBy a (some g))(c:g<w.heap.size):Blk a (w.heap.size+1) 46 zaR:=by
 have h:=((Blk.new (w.alloc (cells zaR 46)) 46 zaR).drew).grown b (by simp;omega);have e:(w.alloc (cells zaR 46)).heap.size=w.heap.size+1:=by simp
 rw [e] at h;exact h
end
section
open Go.RowKit Mem Be
theorem zdZ{w w':World}{L g:Nat}{t:TypeId}{a:Array Value}(h:Blk w L t a)(b:w.grownBy w' (some g))(c:g<L):Blk w' L t a:=h.grown b (fun e=>by injection e with e;omega)
def zrG(x:EntP)(e:Int):Int:=if zav x.k.length x.v.length x.s x.u x.o x.has=0 then e else if e=0 then 11 else e
def zoL(r:EntP×List UInt8×Int):EntP×List UInt8×Int:=if zrG r.1 r.2.2=0 then(r.1,r.2.1,0) else(zaA,r.2.1,zrG r.1 r.2.2)
def zc2(bs:List UInt8)(e:Int):EntP×List UInt8×Int:=zoL (zdq bs e)
def GotE(g:Nat)(r:EntP×List UInt8×Int)(w:World)(E:Ending)(w':World):Prop:=
 ∃ A c,E=.returned (zaT ⟨r.1.k.toArray⟩ r.1.s r.1.u r.1.o r.1.has A r.1.v.length c)/\w'.ownsRow w.heap.size 5 1 (slice A r.1.v.length c) r.1.v.length (r.1.v.map zaa)/\Rd w' g r.2.1 r.2.2/\w.grownBy w' (some g)
theorem zuh(g:Nat)(bs:List UInt8)(E:Int)(w:World)(h:Rd w g bs E):Calls Tryz.prog 204 #[.pointer (some ⟨g,0,none⟩)] w (GotE g (zc2 bs E) w):=by
 have b:=rd_lt h;obtain⟨⟨j,b1,e1⟩,h1⟩:∃ y,zbz bs E=y:=⟨_,rfl⟩;obtain⟨⟨⟨s,u,o⟩,b2,e2⟩,h2⟩:∃ y,za6 b1 e1=y:=⟨_,rfl⟩;obtain⟨⟨⟨has,l⟩,m,e3⟩,h3⟩:∃ y,zdJ b2 e2=y:=⟨_,rfl⟩;have HT:Hid (zdq bs E=(⟨j,s,u,o,has,l⟩,m,e3)):=zhd (by unfold zdq;rw [h1];simp only;rw [h2];simp only;rw [h3]);have H1:=zhd h1;have H2:=zhd h2;have H3:=zhd h3;have H0:=zhd h;have t:=zhd (zpd (zbO h (cells zaR 46)));have B:Hid (w.grownBy (w.alloc (cells zaR 46)).drew (some g)):=zhd (zbX (zfx _ 1 _));have q:=zhd (Blk.new w 46 zaR).drew;have HE:Hid (zc2 bs E=zoL (⟨j,s,u,o,has,l⟩,m,e3)):=zhd (by unfold zc2;rw [HT.out]);rw [HE.out];obtain⟨R,ae⟩:∃ R,zoL (⟨j,s,u,o,has,l⟩,m,e3)=R:=⟨_,rfl⟩;rw [ae];have ai:=zhd ae;clear h h1 h2 h3 ae;go_enter Tryz.func204,Tryz.ntmps204
 go_upto_region 1 with fail
 go_cut [3] (fun p wx=>zug g w ⟨j,s,u,o,has,l⟩ m e3 p wx)
 case first=>
  go_region_with (first
   | (go_at_call 201;refine(zgh g bs E _ (by first|exact t.out|exact zpd (zbO (zbO H0.out _) _))).mono ?_;rw [H1.out];rintro e w2 ⟨A2,c2,rfl,K,x,d⟩;(have t:=zhd x);(first|have i:=zhd (zlg d b)|skip);(have q:=zhd (by first|exact zdZ q.out d b|exact zdZ (((Blk.new w 46 zaR).alloc _).drew) d b:Blk w2 w.heap.size 46 zaR));(have au:w.heap.size<w2.heap.size:=q.out.lt);(have B:=zhd (zaf (by first|exact B.out|exact zbX (zbX (zfx _ 1 _))) d));(have r:=zhd (zaS (B':=w.heap.size+1) K (by simp)));(have cv:=zek r.out);(have aa:=fun z=>zek (r.out.alloc z));(have al:g<w2.heap.size:=rd_lt t.out);clear K x d)
   | (go_at_call 215;refine(znD g b1 e1 _ (by first|exact t.out|exact zbO t.out _)).mono ?_;rw [H2.out];rintro e w3 ⟨rfl,x,d⟩;clear cv aa;(have t:=zhd x);(first|have i:=zhd (zdZ i.out d (by omega))|have i:=zhd (zdZ (Blk.new _ _ _) d al)|skip);(have q:=zhd (by first|exact zdZ q.out d b|exact zdZ (q.out.alloc _) d b:Blk w3 w.heap.size 46 zaR));(have aw:w.heap.size<w3.heap.size:=q.out.lt);(have B:=zhd (zaf (by first|exact B.out|exact zaf B.out (World.grownBy_alloc _ _ _)) d));(have r:=zhd (zmD (by first|exact r.out|exact r.out.alloc _) d (by omega)));(have cv:=zek r.out);(have aa:=fun z=>zek (r.out.alloc z));(have an:g<w3.heap.size:=rd_lt t.out);clear x d)
   | (go_at_call 216;refine(znE g b2 e2 _ (by first|exact t.out|exact zbO t.out _)).mono ?_;rw [H3.out];rintro e w4 ⟨A4,c4,rfl,K,x,d⟩;clear cv aa;(have t:=zhd x);(have HV:=zhd (zaS (B':=w.heap.size+1) K (by first|exact q.out.lt|(have:=q.out.lt;simp;omega))));(first|have i:=zhd (zdZ i.out d (by omega))|have i:=zhd (zdZ (Blk.new _ _ _) d an)|skip);(have q:=zhd (by first|exact zdZ q.out d b|exact zdZ (q.out.alloc _) d b:Blk w4 w.heap.size 46 zaR));(first|(have l0:w4.cell? ⟨_,0,none⟩=some (.string ⟨#[]⟩):=i.out.cell 0;have y0:=i.out.frozen 0;have l1:w4.cell? ⟨_,1,none⟩=some (int i64 0):=i.out.cell 1;have y1:=i.out.frozen 1;have l2:w4.cell? ⟨_,2,none⟩=some (int i64 0):=i.out.cell 2;have y2:=i.out.frozen 2;have l3:w4.cell? ⟨_,3,none⟩=some (int i64 0):=i.out.cell 3;have y3:=i.out.frozen 3;have l4:w4.cell? ⟨_,4,none⟩=some (bool false):=i.out.cell 4;have y4:=i.out.frozen 4;have l5:w4.cell? ⟨_,5,none⟩=some (slice none 0 0):=i.out.cell 5;have y5:=i.out.frozen 5)|skip);(have B:=zhd (zaf (by first|exact B.out|exact zaf B.out (World.grownBy_alloc _ _ _)) d));(have r:=zhd (zmD (by first|exact r.out|exact r.out.alloc _) d (by omega)));(have cv:=zek r.out);(have aa:=fun z=>zek (r.out.alloc z));clear K x d))
  all_goals
   go_wp2_with fail
   go_meet
   first
    | with_reducible exact zwL HV.out t.out B.out q.out
    | with_reducible exact zwM i.out HV.out t.out B.out q.out (by omega) (by omega)
 case rest=>
  obtain⟨L,A,c,rfl,D,hV,hD,hG,ax,hR⟩:=hcut;have i:=zhd D;have HV:=zhd hV;have ah:=zhd hD;have ab:=zhd hG;have G:=zhd hR;have c0:=D.cell 0;have c1:=D.cell 1;have c2:=D.cell 2;have c3:=D.cell 3;have c4:=D.cell 4;have c5:=D.cell 5;have af:=zjF bs E;rw [H1.out] at af;have ag:=zph b2 e2;rw [H3.out] at ag;simp only at af ag;have I:∀ W,Calls Tryz.prog 107 #[zaT ⟨j.toArray⟩ s u o has A l.length c] W (IsI (zav j.length l.length s u o has) W):=fun W=>zgz ⟨j.toArray⟩ s u o has A l.length c (by omega) (by show(j.length:Int)<=_;omega) W;clear D hV hD hG hR af ag;rcases zdo j.length l.length s u o has with hq|hq
  ·rw [hq] at I;have HC:=zhd I;have F:zrG ⟨j,s,u,o,has,l⟩ e3=e3:=if_pos hq;clear I;by_cases h0:e3=0
   ·subst h0;have X:Hid (zoL (⟨j,s,u,o,has,l⟩,m,0)=(⟨j,s,u,o,has,l⟩,m,0)):=zhd (if_pos F)
    (have T:=ai.out.symm.trans X.out);(subst T)
    clear F hq;go_wp2_with fail
    refine(HC.out _).mono ?_;rintro e w5 ⟨rfl,k⟩;have J:=zhd (i.out.below k i.out.lt);have ao:=zhd (zb5 HV.out k);have C:=zhd (zii ah.out k);have U:=zhd (zaf ab.out (zbQ k (Nat.le_refl _) (some g)));have a:=zhd (G.out.below k G.out.lt);clear k c0 c1 c2 c3 c4 c5;go_wp2_with fail
    refine(zdn g m _ C.out).mono ?_;rintro e w' ⟨rfl,rfl⟩;have c0:=J.out.cell 0;have c1:=J.out.cell 1;have c2:=J.out.cell 2;have c3:=J.out.cell 3;have c4:=J.out.cell 4;have c5:=J.out.cell 5;have O:=a.out.cell 0;have Q:=a.out.cell 1;have Y:=a.out.cell 2;have S:=a.out.cell 3;have M:=a.out.cell 4;have N:=a.out.cell 5;have z0:=a.out.frozen 0;have z1:=a.out.frozen 1;have z2:=a.out.frozen 2;have z3:=a.out.frozen 3;have z4:=a.out.frozen 4;have z5:=a.out.frozen 5;go_wp2;refine bodyPost_ret (v:=zaT ⟨j.toArray⟩ s u o has A l.length c) (by simp [results,Tryz.results204,go_sem,O,Q,Y,S,M,N]) rfl ⟨A,c,rfl,?_,?_,?_⟩
    ·exact zaS (zak (zak (zak (zak (zak (zak ao.out (by omega) _ _) (by omega) _ _) (by omega) _ _) (by omega) _ _) (by omega) _ _) (by omega) _ _) (by omega)
    ·exact zaZ (zaZ (zaZ (zaZ (zaZ (zaZ C.out b _ _) b _ _) b _ _) b _ _) b _ _) b _ _
    ·exact zao (zao (zao (zao (zao (zao U.out (Nat.le_refl _) _ _) (Nat.le_refl _) _ _) (Nat.le_refl _) _ _) (Nat.le_refl _) _ _) (Nat.le_refl _) _ _) (Nat.le_refl _) _ _
   ·have X:Hid (zoL (⟨j,s,u,o,has,l⟩,m,e3)=(zaA,m,e3)):=zhd (by unfold zoL;rw [F];exact if_neg h0)
    (have T:=ai.out.symm.trans X.out);(subst T)
    have HN:=zhd h0;clear F hq h0;go_wp2_with fail
    refine(HC.out _).mono ?_;rintro e w5 ⟨rfl,k⟩;have C:=zhd (zii ah.out k);have U:=zhd (zaf ab.out (zbQ k (Nat.le_refl _) (some g)));have a:=zhd (G.out.below k G.out.lt);clear k c0 c1 c2 c3 c4 c5;go_wp2_with fail
    refine(zco g m e3 HN.out _ C.out).mono ?_;rintro e w' ⟨rfl,rfl⟩;have O:=a.out.cell 0;have Q:=a.out.cell 1;have Y:=a.out.cell 2;have S:=a.out.cell 3;have M:=a.out.cell 4;have N:=a.out.cell 5;have z0:=a.out.frozen 0;have z1:=a.out.frozen 1;have z2:=a.out.frozen 2;have z3:=a.out.frozen 3;have z4:=a.out.frozen 4;have z5:=a.out.frozen 5;go_wp2;refine bodyPost_ret (v:=zaT ⟨#[]⟩ 0 0 0 false none 0 0) (by simp [results,Tryz.results204,go_sem,O,Q,Y,S,M,N]) rfl ⟨none,0,rfl,World.ownsRow_nil _ _ _ _,?_,?_⟩
    ·exact zaZ (zaZ (zaZ (zaZ (zaZ (zaZ C.out b _ _) b _ _) b _ _) b _ _) b _ _) b _ _
    ·exact zao (zao (zao (zao (zao (zao U.out (Nat.le_refl _) _ _) (Nat.le_refl _) _ _) (Nat.le_refl _) _ _) (Nat.le_refl _) _ _) (Nat.le_refl _) _ _) (Nat.le_refl _) _ _
  ·rw [hq] at I;have HC:=zhd I;have F:zrG ⟨j,s,u,o,has,l⟩ e3=if e3=0 then 11 else e3:=if_neg (by show ¬ zav j.length l.length s u o has=0;rw [hq];simp);clear I;obtain⟨V,Z⟩:∃ V,(if e3=0 then 11 else e3)=V:=⟨_,rfl⟩;have h4:V≠0:=by rw [<-Z];split<;>omega
   have X:Hid (zoL (⟨j,s,u,o,has,l⟩,m,e3)=(zaA,m,V)):=zhd (by unfold zoL;rw [F,Z];exact if_neg h4)
   (have T:=ai.out.symm.trans X.out);(subst T)
   have HN:=zhd h4;have aq:=zhd Z;clear F hq h4 Z;go_wp2_with fail
   refine(HC.out _).mono ?_;rintro e w4 ⟨rfl,k⟩;have aj:=zhd (zii ah.out k);have am:=zhd (zaf ab.out (zbQ k (Nat.le_refl _) (some g)));have ak:=zhd (G.out.below k G.out.lt);clear k c0 c1 c2 c3 c4 c5;go_wp2_with fail
   refine(zpc g m e3 _ aj.out).mono ?_;rw [aq.out];rintro e w5 ⟨rfl,x,d⟩;have C:=zhd x;have U:=zhd (zaf am.out d);have a:=zhd (zdZ ak.out d b);clear x d;go_wp2_with fail
   refine(zco g m V HN.out _ C.out).mono ?_;rintro e w' ⟨rfl,rfl⟩;have O:=a.out.cell 0;have Q:=a.out.cell 1;have Y:=a.out.cell 2;have S:=a.out.cell 3;have M:=a.out.cell 4;have N:=a.out.cell 5;have z0:=a.out.frozen 0;have z1:=a.out.frozen 1;have z2:=a.out.frozen 2;have z3:=a.out.frozen 3;have z4:=a.out.frozen 4;have z5:=a.out.frozen 5;go_wp2;refine bodyPost_ret (v:=zaT ⟨#[]⟩ 0 0 0 false none 0 0) (by simp [results,Tryz.results204,go_sem,O,Q,Y,S,M,N]) rfl ⟨none,0,rfl,World.ownsRow_nil _ _ _ _,?_,?_⟩
   ·exact zaZ (zaZ (zaZ (zaZ (zaZ (zaZ C.out b _ _) b _ _) b _ _) b _ _) b _ _) b _ _
   ·exact zao (zao (zao (zao (zao (zao U.out (Nat.le_refl _) _ _) (Nat.le_refl _) _ _) (Nat.le_refl _) _ _) (Nat.le_refl _) _ _) (Nat.le_refl _) _ _) (Nat.le_refl _) _ _
end
section
open Go.RowKit Mem Be
theorem zui{m:Int}{bs:List UInt8}{x:Int}{k:Nat}{e:Int}(a:zbP bs=(x,k,e)):zcg m bs=if e=0/\(x<0\/m<=x) then(0,0,11) else(x,k,e):=by unfold zcg;rw [a]
theorem ziu(B c n at_:Nat)(m:Int)(A:Option Addr)(bs:List UInt8)(w:World)(h:Row w B A (bs.map zaa))(j:n=bs.length)(hl:n<=1073741824) :
 Calls Tryz.prog 162 #[slice A n c,int i64 at_,int i64 m] w (At3 (zcg (m+1) (bs.drop at_)) at_ w):=by
 obtain⟨x,k,e,g⟩:∃ x k e,zbP (bs.drop at_)=(x,k,e):=⟨_,_,_,rfl⟩;have i:Hid (Calls Tryz.prog 161 #[slice A n c,int i64 at_] w (At3 (x,k,e) at_ w)):=zhd (by rw [<-g];exact zfz B c n at_ A bs w h j hl);have a:=zui (m:=m+1) g;clear g h j;by_cases d:e=0
 ·subst d;cases hr:inR x m
  ·have b:Hid (zcg (m+1) (bs.drop at_)=(0,0,11)):=zhd (by rw [a,if_pos ⟨rfl,by have:=zvB hr;omega⟩]);have l:=zhd hr;clear a hr;go_enter Tryz.func162,Tryz.ntmps162
   go_wp2_with (first|(go_at_call 161;refine i.out.mono ?_;rintro e w' ⟨rfl,rfl⟩;unfold zcn)|(go_at_call 85;refine(zbA _ _ _ (by assumption) _).mono ?_;rintro e w' ⟨rfl,rfl⟩))
   go_ret3
   exact zdH b.out rfl (by omega) w
  ·have b:Hid (zcg (m+1) (bs.drop at_)=(x,k,0)):=zhd (by rw [a,if_neg (by rintro⟨_,h⟩;have:=zfA hr;omega)]);have l:=zhd hr;clear a hr;go_enter Tryz.func162,Tryz.ntmps162
   go_wp2_with (first|(go_at_call 161;refine i.out.mono ?_;rintro e w' ⟨rfl,rfl⟩;unfold zcn)|(go_at_call 85;refine(zbA _ _ _ (by assumption) _).mono ?_;rintro e w' ⟨rfl,rfl⟩))
   go_ret3
   exact zdH b.out rfl rfl w
 ·have b:Hid (zcg (m+1) (bs.drop at_)=(x,k,e)):=zhd (by rw [a,if_neg (by rintro⟨h,_⟩;exact d h)]);have o:(e==0)=false:=by simpa using d
  clear a d;go_enter Tryz.func162,Tryz.ntmps162
  go_wp2_with (go_at_call 161;refine i.out.mono ?_;rintro e w' ⟨rfl,rfl⟩;unfold zcn)
  go_ret3
  exact zdH b.out rfl rfl w
def AtT(r:Bool×Nat×Int)(at_:Nat)(w:World)(e:Ending)(w':World):Prop:=e=.returned (.tuple #[bool r.1,int i64 ((at_+r.2.1:Nat):Int),int i64 r.2.2])/\w=w'
theorem zlh{r:Bool×Nat×Int}{b:Bool}{k:Nat}{e:Int}(h:r=(b,k,e)){at_:Nat}{a:Bool}{c:Int}(d:a=b)(g:c=((at_+k:Nat):Int))(w:World):AtT r at_ w (.returned (.tuple #[bool a,int i64 c,int i64 e])) w:=by
 subst h;subst d;subst g;exact⟨rfl,rfl⟩
theorem zgB(B c n at_:Nat)(A:Option Addr)(bs:List UInt8)(w:World)(h:Row w B A (bs.map zaa))(r:n=bs.length)(hl:n<=1073741824) :
 Calls Tryz.prog 163 #[slice A n c,int i64 at_] w (AtT (zdj (bs.drop at_)) at_ w):=by
 subst r;rcases Nat.lt_or_ge at_ bs.length with d|d
 ·obtain⟨b,o,rfl,_,k⟩:=h.open_ (by simp;omega);have p:w.cell? ⟨b,o+at_,none⟩=some (int .u8 (bs[at_].toNat:Int)):=(k at_ (by simpa using d)).trans (congrArg some (by rw [List.getElem_map];rfl));obtain⟨a,rest,j⟩:∃ a rest,bs.drop at_=a :: rest:=⟨_,_,List.drop_eq_getElem_cons d⟩;have l:bs[at_]=a:=by
   have:=List.drop_eq_getElem_cons d;rw [j] at this;exact(List.cons.inj this).1.symm
  rw [l] at p;rw [j];have q:(at_:Int)<(bs.length:Int):=by omega
  have t:(bs.length:Int)<=1073741824:=by omega
  have s:=a.toNat_lt;clear k h j l;by_cases g:1<a.toNat
  ·have i:Hid (zdj (a :: rest)=(false,0,11)):=zhd (by unfold zdj;rw [if_neg (by simp),if_pos (by simpa using g)]);have m:(1:Int)<(a.toNat:Int):=by omega
   clear g;go_enter Tryz.func163,Tryz.ntmps163
   go_wp2;go_ret3
   exact zlh i.out rfl (by omega) w
  ·have i:Hid (zdj (a :: rest)=(a.toNat==1,1,0)):=zhd (by unfold zdj;rw [if_neg (by simp),if_neg (by simpa using g)];rfl);have m:(a.toNat:Int)<=1:=by omega
   clear g;go_enter Tryz.func163,Tryz.ntmps163
   go_wp2;go_ret3
   have e:(((a.toNat:Int))==1)=(a.toNat==1):=by rw [Bool.eq_iff_iff];simp;omega
   exact zlh i.out e (by omega) w
 ·rw [List.drop_of_length_le d];have q:(bs.length:Int)<=(at_:Int):=by omega
  clear h;go_enter Tryz.func163,Tryz.ntmps163
  go_wp2;go_ret3
  exact zlh (show zdj []=(false,0,12) from rfl) rfl (by omega) w
end
section
open Go.RowKit Mem Be
def zcK(bs:List UInt8):EntP×Nat×Int:=
 let r:=za2 bs
 if r.2.2≠0 then(zaA,0,r.2.2) else
 let a:=zcg 1099511627776 (bs.drop r.2.1)
 if a.2.2≠0 then(zaA,0,a.2.2) else
 let b:=zcg 1048576 (bs.drop (r.2.1+a.2.1))
 if b.2.2≠0 then(zaA,0,b.2.2) else
 let c:=zcg 1048576 (bs.drop (r.2.1+a.2.1+b.2.1))
 if c.2.2≠0 then(zaA,0,c.2.2) else
 let t:=zdj (bs.drop (r.2.1+a.2.1+b.2.1+c.2.1))
 if t.2.2≠0 then(zaA,0,t.2.2) else
 if t.1=true then
  let v:=za2 (bs.drop (r.2.1+a.2.1+b.2.1+c.2.1+t.2.1))
  if v.2.2≠0 then(zaA,0,v.2.2) else
  if zav r.1.length v.1.length a.1 b.1 c.1 true≠0 then(zaA,0,11) else(⟨r.1,a.1,b.1,c.1,true,v.1⟩,r.2.1+a.2.1+b.2.1+c.2.1+t.2.1+v.2.1,0)
 else
  if zav r.1.length 0 a.1 b.1 c.1 false≠0 then(zaA,0,11) else(⟨r.1,a.1,b.1,c.1,false,[]⟩,r.2.1+a.2.1+b.2.1+c.2.1+t.2.1,0)
def zpi(r:EntP×Nat×Int)(w:World)(E:Ending)(w':World):Prop:=
 ∃ A c,E=.returned (.tuple #[zaT ⟨r.1.k.toArray⟩ r.1.s r.1.u r.1.o r.1.has A r.1.v.length c,int i64 (r.2.1:Int),int i64 r.2.2])/\w'.ownsRow w.heap.size 5 1 (slice A r.1.v.length c) r.1.v.length (r.1.v.map zaa)/\Below w.heap.size w w'
theorem zbY{r:EntP×Nat×Int}{e:Int}(b:r=(zaA,0,e)){w w':World}(a:Below w.heap.size w w'):zpi r w (.returned (.tuple #[zaT ⟨#[]⟩ 0 0 0 false none 0 0,int i64 0,int i64 e])) w':=by
 subst b;exact⟨none,0,rfl,World.ownsRow_nil _ _ _ _,a⟩
theorem zjG{w:World}{g a:Nat}{t:TypeId}{b:Array Value}(e:g=a)(h:Blk w g t b):Blk w a t b:=by subst e;exact h
theorem zcq{w a:World}{v0 v1 v2 v3 v4 v5:Value}(b:Below w.heap.size w a):Below w.heap.size w ((((((a.setCell ⟨w.heap.size,0,none⟩ v0).setCell ⟨w.heap.size,1,none⟩ v1).setCell ⟨w.heap.size,2,none⟩ v2).setCell ⟨w.heap.size,3,none⟩ v3).setCell ⟨w.heap.size,4,none⟩ v4).setCell ⟨w.heap.size,5,none⟩ v5):=
 zad (zad (zad (zad (zad (zad b (Nat.le_refl _) _ _) (Nat.le_refl _) _ _) (Nat.le_refl _) _ _) (Nat.le_refl _) _ _) (Nat.le_refl _) _ _) (Nat.le_refl _) _ _
theorem zjH{r:EntP×Nat×Int}{d b:List UInt8}{s u o:Int}{has:Bool}{q:Nat}(j:r=(⟨d,s,u,o,has,b⟩,q,0)){w a:World}{A:Option Addr}{c n:Nat}{v0 v1 v2 v3 v4 v5:Value}(i:n=b.length)(g:a.ownsRow (w.heap.size+1) 5 1 (slice A n c) n (b.map zaa))(h:Below w.heap.size w a) :
 zpi r w (.returned (.tuple #[zaT ⟨d.toArray⟩ s u o has A n c,int i64 q,int i64 0])) ((((((a.setCell ⟨w.heap.size,0,none⟩ v0).setCell ⟨w.heap.size,1,none⟩ v1).setCell ⟨w.heap.size,2,none⟩ v2).setCell ⟨w.heap.size,3,none⟩ v3).setCell ⟨w.heap.size,4,none⟩ v4).setCell ⟨w.heap.size,5,none⟩ v5):=by
 subst j;subst i;exact⟨A,c,rfl,zaS (zak (zak (zak (zak (zak (zak g (by omega) _ _) (by omega) _ _) (by omega) _ _) (by omega) _ _) (by omega) _ _) (by omega) _ _) (by omega),zcq h⟩
def zvD(B:Nat)(x:List UInt8)(q:Nat)(e:Int)(w:World)(E:Ending)(w':World):Prop:=∃ A c,E=.returned (.tuple #[slice A x.length c,int i64 (q:Int),int i64 e])/\Row w B A (x.map zaa)/\w=w'
theorem ztG{B c n p q k:Nat}{A:Option Addr}{bs x:List UInt8}{e:Int}{w:World}(h:Row w B A (bs.map zaa))(b:n=bs.length)(hl:n<=1000000)(hc:n<=c)(a:p<=n)(d:za2 (bs.drop p)=(x,k,e))(hq:p+k=q) :
 Calls Tryz.prog 134 #[slice A n c,int i64 (p:Int)] w (zvD B x q e w):=
 (zij B c n p A bs w h b (by omega) hc a).mono fun _ _ ⟨A1,c1,he,h1,h2⟩=>by
  rw [d] at he h1;exact⟨A1,c1,by rw [he,<-hq],h1,h2⟩
theorem zpj{B c n p q k:Nat}{m:Int}{A:Option Addr}{bs:List UInt8}{x e:Int}{w:World}(h:Row w B A (bs.map zaa))(a:n=bs.length)(hl:n<=1000000)(b:zcg (m+1) (bs.drop p)=(x,k,e))(hq:p+k=q) :
 Calls Tryz.prog 162 #[slice A n c,int i64 (p:Int),int i64 m] w fun E w'=>E=.returned (.tuple #[int i64 x,int i64 (q:Int),int i64 e])/\w=w':=
 (ziu B c n p m A bs w h a (by omega)).mono fun _ _ ⟨he,h2⟩=>by
  rw [b] at he;exact⟨by rw [he,<-hq];rfl,h2⟩
theorem zr6{B c n p q k:Nat}{A:Option Addr}{bs:List UInt8}{x:Bool}{e:Int}{w:World}(h:Row w B A (bs.map zaa))(a:n=bs.length)(hl:n<=1000000)(b:zdj (bs.drop p)=(x,k,e))(hq:p+k=q) :
 Calls Tryz.prog 163 #[slice A n c,int i64 (p:Int)] w fun E w'=>E=.returned (.tuple #[bool x,int i64 (q:Int),int i64 e])/\w=w':=
 (zgB B c n p A bs w h a (by omega)).mono fun _ _ ⟨he,h2⟩=>by
  rw [b] at he;exact⟨by rw [he,<-hq],h2⟩
theorem zli(n c:Nat)(A:Option Addr)(bs:List UInt8)(R:n=bs.length)(hl:n<=1000000)(hc:n<=c)(w:World)(h:Row w w.heap.size A (bs.map zaa)) :
 Calls Tryz.prog 135 #[slice A n c,int i64 0] w (zpi (zcK bs) w):=by
 obtain⟨i0,aV,aS,aN,bg⟩:=info_parts zaB;obtain⟨⟨b,k1,L⟩,h1⟩:∃ y,za2 bs=y:=⟨_,rfl⟩;obtain⟨⟨s,x,e2⟩,h2⟩:∃ y,zcg 1099511627776 (bs.drop k1)=y:=⟨_,rfl⟩;obtain⟨⟨u,E,e3⟩,h3⟩:∃ y,zcg 1048576 (bs.drop (k1+x))=y:=⟨_,rfl⟩;obtain⟨⟨o,O,N⟩,h4⟩:∃ y,zcg 1048576 (bs.drop (k1+x+E))=y:=⟨_,rfl⟩;obtain⟨⟨has,k5,S⟩,Y⟩:∃ y,zdj (bs.drop (k1+x+E+O))=y:=⟨_,rfl⟩;obtain⟨⟨d,k6,z⟩,G⟩:∃ y,za2 (bs.drop (k1+x+E+O+k5))=y:=⟨_,rfl⟩;have M:zcK bs=if L≠0 then(zaA,0,L) else if e2≠0 then(zaA,0,e2) else if e3≠0 then(zaA,0,e3) else if N≠0 then(zaA,0,N) else if S≠0 then(zaA,0,S) else
  if has=true then(if z≠0 then(zaA,0,z) else if zav b.length d.length s u o true≠0 then(zaA,0,11) else(⟨b,s,u,o,true,d⟩,k1+x+E+O+k5+k6,0))
  else(if zav b.length 0 s u o false≠0 then(zaA,0,11) else(⟨b,s,u,o,false,[]⟩,k1+x+E+O+k5,0)):=by
  unfold zcK;simp only [h1,h2,h3,h4,Y,G]
 have l1:=zdG bs;have l2:=zb4 1099511627776 (bs.drop k1);have l3:=zb4 1048576 (bs.drop (k1+x));have l4:=zb4 1048576 (bs.drop (k1+x+E));have l5:=zgf (bs.drop (k1+x+E+O));have l6:=zgj bs;have l7:=zgj (bs.drop (k1+x+E+O+k5));rw [h1] at l1 l6;rw [h2] at l2;rw [h3] at l3;rw [h4] at l4;rw [Y] at l5;rw [G] at l7;simp only [List.length_drop] at l1 l2 l3 l4 l5 l6 l7;have az:Below w.heap.size w ((w.alloc (cells zaR 46)).alloc (cells zaR 46)):=(zbl).alloc (by simp) _;have ab:=h.below az;obtain⟨q2,aA⟩:∃ q,k1+x=q:=⟨_,rfl⟩;rw [aA] at h3 h4 Y G l3 l4 l5 M;obtain⟨q3,ay⟩:∃ q,q2+E=q:=⟨_,rfl⟩;rw [ay] at h4 Y G l4 l5 M;obtain⟨q4,au⟩:∃ q,q3+O=q:=⟨_,rfl⟩;rw [au] at Y G l5 M;obtain⟨I,aB⟩:∃ q,q4+k5=q:=⟨_,rfl⟩;rw [aB] at G M;obtain⟨q6,ax⟩:∃ q,I+k6=q:=⟨_,rfl⟩;rw [ax] at M;have bf:=zhd (ztG (p:=0) ab R hl hc (Nat.zero_le _) (by rw [List.drop_zero];exact h1) (Nat.zero_add k1));have aW:=zhd (zpj (c:=c) (m:=1099511627775) ab R hl (by rw [show(1099511627775:Int)+1=1099511627776 by omega];exact h2) aA);have aZ:=zhd (zpj (c:=c) (m:=1048575) ab R hl (by rw [show(1048575:Int)+1=1048576 by omega];exact h3) ay);have bj:=zhd (zpj (c:=c) (m:=1048575) ab R hl (by rw [show(1048575:Int)+1=1048576 by omega];exact h4) au);have aR:=zhd (zr6 (c:=c) ab R hl Y aB);have bd:Hid (∀ W,Row W w.heap.size A (bs.map zaa)->I<=n->Calls Tryz.prog 134 #[slice A n c,int i64 (I:Int)] W (zvD w.heap.size d q6 z W)):=zhd (fun W hW aQ=>ztG hW R hl hc aQ G ax);have bh:=zhd h;have HQ:Hid (L=0->e2=0->e3=0->N=0->S=0->I<=n):=zhd (by omega);have HK:=zhd l6;have HX:=zhd l7;have HE:=zhd M;have B:=zhd az;clear h h1 h2 h3 h4 Y G l1 l2 l3 l4 l5 l6 l7 ab aA ay au aB ax R hl hc M az;go_enter Tryz.func135,Tryz.ntmps135
 go_wp2_with fail
 refine bf.out.mono ?_;rintro e w1 ⟨A1,c1,rfl,aG,rfl⟩;have aU:=zhd aG;clear aG;by_cases al:L=0
 case neg=>
  have j:Hid (zcK bs=(zaA,0,L)):=zhd (HE.out.trans (if_pos al));have hne:(L != 0)=true:=by simpa using al
  clear al;go_wp2;exact bodyPost_ret (v:=.tuple #[zaT ⟨#[]⟩ 0 0 0 false none 0 0,int i64 0,int i64 L]) (by simp [results,Tryz.results135,go_sem]) rfl (zbY j.out B.out)
 subst al;go_wp2_with fail
 refine aW.out.mono ?_;rintro e w' ⟨rfl,rfl⟩;by_cases ag:e2=0
 case neg=>
  have j:Hid (zcK bs=(zaA,0,e2)):=zhd (HE.out.trans ((if_neg (by simp)).trans (if_pos ag)));have hne:(e2 != 0)=true:=by simpa using ag
  clear ag;go_wp2;exact bodyPost_ret (v:=.tuple #[zaT ⟨#[]⟩ 0 0 0 false none 0 0,int i64 0,int i64 e2]) (by simp [results,Tryz.results135,go_sem]) rfl (zbY j.out B.out)
 subst ag;go_wp2_with fail
 refine aZ.out.mono ?_;rintro e w' ⟨rfl,rfl⟩;by_cases an:e3=0
 case neg=>
  have j:Hid (zcK bs=(zaA,0,e3)):=zhd (HE.out.trans ((if_neg (by simp)).trans ((if_neg (by simp)).trans (if_pos an))));have hne:(e3 != 0)=true:=by simpa using an
  clear an;go_wp2;exact bodyPost_ret (v:=.tuple #[zaT ⟨#[]⟩ 0 0 0 false none 0 0,int i64 0,int i64 e3]) (by simp [results,Tryz.results135,go_sem]) rfl (zbY j.out B.out)
 subst an;go_wp2_with fail
 refine bj.out.mono ?_;rintro e w' ⟨rfl,rfl⟩;by_cases aq:N=0
 case neg=>
  have j:Hid (zcK bs=(zaA,0,N)):=zhd (HE.out.trans ((if_neg (by simp)).trans ((if_neg (by simp)).trans ((if_neg (by simp)).trans (if_pos aq)))));have hne:(N != 0)=true:=by simpa using aq
  clear aq;go_wp2;exact bodyPost_ret (v:=.tuple #[zaT ⟨#[]⟩ 0 0 0 false none 0 0,int i64 0,int i64 N]) (by simp [results,Tryz.results135,go_sem]) rfl (zbY j.out B.out)
 subst aq;go_wp2_with fail
 refine aR.out.mono ?_;rintro e w' ⟨rfl,rfl⟩;by_cases aj:S=0
 case neg=>
  have j:Hid (zcK bs=(zaA,0,S)):=zhd (HE.out.trans ((if_neg (by simp)).trans ((if_neg (by simp)).trans ((if_neg (by simp)).trans ((if_neg (by simp)).trans (if_pos aj))))));have hne:(S != 0)=true:=by simpa using aj
  clear aj;go_wp2;exact bodyPost_ret (v:=.tuple #[zaT ⟨#[]⟩ 0 0 0 false none 0 0,int i64 0,int i64 S]) (by simp [results,Tryz.results135,go_sem]) rfl (zbY j.out B.out)
 subst aj;have cv:=zgc (P:=Tryz.prog) c1 27 9 5 Tryz.underlying27 Tryz.underlying5 Tryz.underlying9 aU.out;have aD:Hid (zcK bs=if has=true then(if z≠0 then(zaA,0,z) else if zav b.length d.length s u o true≠0 then(zaA,0,11) else(⟨b,s,u,o,true,d⟩,q6,0))
  else(if zav b.length 0 s u o false≠0 then(zaA,0,11) else(⟨b,s,u,o,false,[]⟩,I,0))):=zhd (HE.out.trans ((if_neg (by simp)).trans ((if_neg (by simp)).trans ((if_neg (by simp)).trans ((if_neg (by simp)).trans (if_neg (by simp)))))))
 have aw:=HQ.out (by simp) (by simp) (by simp) (by simp) (by simp);cases has
 ·have HF:Hid (zcK bs=if zav b.length 0 s u o false≠0 then(zaA,0,11) else(⟨b,s,u,o,false,[]⟩,I,0)):=zhd (aD.out.trans (if_neg (by simp)));have D:Hid (Below w.heap.size w (((w.alloc (cells zaR 46)).alloc (cells zaR 46)).alloc (cells #[.string ⟨b.toArray⟩,int i64 s,int i64 u,int i64 o,bool false,slice none 0 0] 46))):=zhd (B.out.alloc B.out.size _);have ae:Hid (Blk (((w.alloc (cells zaR 46)).alloc (cells zaR 46)).alloc (cells #[.string ⟨b.toArray⟩,int i64 s,int i64 u,int i64 o,bool false,slice none 0 0] 46)) w.heap.size 46 zaR):=zhd (((Blk.new w _ _).alloc _).alloc _);have ai:Hid (Blk (((w.alloc (cells zaR 46)).alloc (cells zaR 46)).alloc (cells #[.string ⟨b.toArray⟩,int i64 s,int i64 u,int i64 o,bool false,slice none 0 0] 46)) (w.heap.size+1) 46 zaR):=zhd (zjG (by simp) ((Blk.new (w.alloc _) _ _).alloc _));have ao:Hid (Blk (((w.alloc (cells zaR 46)).alloc (cells zaR 46)).alloc (cells #[.string ⟨b.toArray⟩,int i64 s,int i64 u,int i64 o,bool false,slice none 0 0] 46)) (w.heap.size+2) 46 #[.string ⟨b.toArray⟩,int i64 s,int i64 u,int i64 o,bool false,slice none 0 0]):=zhd (zjG (by simp) (Blk.new _ _ _));have l:∀ W,Calls Tryz.prog 30 #[zaT ⟨b.toArray⟩ s u o false none 0 0] W (IsI (zav b.length 0 s u o false) W):=fun W=>zc9 ⟨b.toArray⟩ s u o false none 0 0 (by omega) (by show(b.length:Int)<=_;have:=HK.out;omega) W;clear aw;rcases zdo b.length 0 s u o false with hq|hq
  ·have j:Hid (zcK bs=(⟨b,s,u,o,false,[]⟩,I,0)):=zhd (HF.out.trans (if_neg (by rw [hq];simp)));rw [hq] at l;have X:=zhd l;clear l hq;go_wp2_with fail
   refine(X.out _).mono ?_;rintro e w5 ⟨rfl,i⟩;have t:=zhd (ao.out.below i ao.out.lt);have a:=zhd (ae.out.below i ae.out.lt);have Q:=zhd (D.out.trans (i.mono D.out.size));clear i;have c0:=t.out.cell 0;have c1:=t.out.cell 1;have c2:=t.out.cell 2;have c3:=t.out.cell 3;have c4:=t.out.cell 4;have c5:=t.out.cell 5;have J:=a.out.cell 0;have K:=a.out.cell 1;have Z:=a.out.cell 2;have V:=a.out.cell 3;have T:=a.out.cell 4;have U:=a.out.cell 5;have z0:=a.out.frozen 0;have z1:=a.out.frozen 1;have z2:=a.out.frozen 2;have z3:=a.out.frozen 3;have z4:=a.out.frozen 4;have z5:=a.out.frozen 5;go_wp2;exact bodyPost_ret (v:=.tuple #[zaT ⟨b.toArray⟩ s u o false none 0 0,int i64 I,int i64 0]) (by simp [results,Tryz.results135,go_sem,J,K,Z,V,T,U]) rfl (zjH j.out rfl (World.ownsRow_nil _ _ _ _) Q.out)
  ·have j:Hid (zcK bs=(zaA,0,11)):=zhd (HF.out.trans (if_pos (by rw [hq];simp)));rw [hq] at l;have X:=zhd l;clear l hq;go_wp2_with fail
   refine(X.out _).mono ?_;rintro e w5 ⟨rfl,i⟩;have r:=zhd (ai.out.below i ai.out.lt);have a:=zhd (ae.out.below i ae.out.lt);have Q:=zhd (D.out.trans (i.mono D.out.size));clear i;have d0:=r.out.cell 0;have d1:=r.out.cell 1;have d2:=r.out.cell 2;have d3:=r.out.cell 3;have d4:=r.out.cell 4;have d5:=r.out.cell 5;have J:=a.out.cell 0;have K:=a.out.cell 1;have Z:=a.out.cell 2;have V:=a.out.cell 3;have T:=a.out.cell 4;have U:=a.out.cell 5;have z0:=a.out.frozen 0;have z1:=a.out.frozen 1;have z2:=a.out.frozen 2;have z3:=a.out.frozen 3;have z4:=a.out.frozen 4;have z5:=a.out.frozen 5;go_wp2;exact bodyPost_ret (v:=.tuple #[zaT ⟨#[]⟩ 0 0 0 false none 0 0,int i64 0,int i64 11]) (by simp [results,Tryz.results135,go_sem,J,K,Z,V,T,U]) rfl (zbY j.out (zcq Q.out))
 ·have aJ:Hid (zcK bs=if z≠0 then(zaA,0,z) else if zav b.length d.length s u o true≠0 then(zaA,0,11) else(⟨b,s,u,o,true,d⟩,q6,0)):=zhd (aD.out.trans (if_pos (by simp)));have D:Hid (Below w.heap.size w (((w.alloc (cells zaR 46)).alloc (cells zaR 46)).alloc (cells #[.string ⟨b.toArray⟩,int i64 s,int i64 u,int i64 o,bool true,slice none 0 0] 46))):=zhd (B.out.alloc B.out.size _);have ae:Hid (Blk (((w.alloc (cells zaR 46)).alloc (cells zaR 46)).alloc (cells #[.string ⟨b.toArray⟩,int i64 s,int i64 u,int i64 o,bool true,slice none 0 0] 46)) w.heap.size 46 zaR):=zhd (((Blk.new w _ _).alloc _).alloc _);have ai:Hid (Blk (((w.alloc (cells zaR 46)).alloc (cells zaR 46)).alloc (cells #[.string ⟨b.toArray⟩,int i64 s,int i64 u,int i64 o,bool true,slice none 0 0] 46)) (w.heap.size+1) 46 zaR):=zhd (zjG (by simp) ((Blk.new (w.alloc _) _ _).alloc _));have ao:Hid (Blk (((w.alloc (cells zaR 46)).alloc (cells zaR 46)).alloc (cells #[.string ⟨b.toArray⟩,int i64 s,int i64 u,int i64 o,bool true,slice none 0 0] 46)) (w.heap.size+2) 46 #[.string ⟨b.toArray⟩,int i64 s,int i64 u,int i64 o,bool true,slice none 0 0]):=zhd (zjG (by simp) (Blk.new _ _ _));have aO:=zhd (bd.out (((w.alloc (cells zaR 46)).alloc (cells zaR 46)).alloc (cells #[.string ⟨b.toArray⟩,int i64 s,int i64 u,int i64 o,bool true,slice none 0 0] 46)) (bh.out.below D.out) aw);clear aw;go_wp2_with fail
  refine aO.out.mono ?_;rintro e w6 ⟨A6,c6,rfl,aL,rfl⟩;have aY:=zhd aL;clear aL;by_cases ah:z=0
  case neg=>
   have j:Hid (zcK bs=(zaA,0,z)):=zhd (aJ.out.trans (if_pos ah));have hne:(z != 0)=true:=by simpa using ah
   clear ah;go_wp2;exact bodyPost_ret (v:=.tuple #[zaT ⟨#[]⟩ 0 0 0 false none 0 0,int i64 0,int i64 z]) (by simp [results,Tryz.results135,go_sem]) rfl (zbY j.out D.out)
  subst ah;have HF:Hid (zcK bs=if zav b.length d.length s u o true≠0 then(zaA,0,11) else(⟨b,s,u,o,true,d⟩,q6,0)):=zhd (aJ.out.trans (if_neg (by simp)));go_wp2_with (at_builtin;refine zan _ rfl _ _ 27 rfl (w.heap.size+3) 5 i0 (int .u8 0) 1 Tryz.underlying27 aV aS aN bg rfl (slice none 0 0) 0 [] rfl (World.ownsRow_nil _ _ _ _) w.heap.size _ d.length c6 (d.map zaa) rfl (by simp) aY.out (zaH d) (by have:=HX.out;unfold maxLen;omega) (by have:=HX.out;omega) (by simp) ?_)
  intro v' w3 aI aa _;obtain⟨C,c7,rfl,aK⟩:=ze5 d aI (by simp);have af:Below (((w.alloc (cells zaR 46)).alloc (cells zaR 46)).alloc (cells #[.string ⟨b.toArray⟩,int i64 s,int i64 u,int i64 o,bool true,slice none 0 0] 46)).heap.size (((w.alloc (cells zaR 46)).alloc (cells zaR 46)).alloc (cells #[.string ⟨b.toArray⟩,int i64 s,int i64 u,int i64 o,bool true,slice none 0 0] 46)) w3:=⟨aa.os,aa.tape,aa.output,aa.size,fun k hk=>aa.block k hk (by simp [Value.ownBlock])⟩;have aP:=zhd aK;have F:=zhd (ao.out.below af (by simp));have bi:=zhd (ai.out.below af (by simp));have bl:=zhd (ae.out.below af (by simp;omega));have bk:=zhd (D.out.trans (af.mono D.out.size));clear aI aa aK af;have c0:=F.out.cell 0;have aE:=F.out.cell 1;have c2:=F.out.cell 2;have c3:=F.out.cell 3;have c4:=F.out.cell 4;have c5:=F.out.cell 5;have y5:=F.out.frozen 5;have l:∀ W,Calls Tryz.prog 30 #[zaT ⟨b.toArray⟩ s u o true C d.length c7] W (IsI (zav b.length d.length s u o true) W):=fun W=>zc9 ⟨b.toArray⟩ s u o true C d.length c7 (by have:=HX.out;omega) (by show(b.length:Int)<=_;have:=HK.out;omega) W;have aT:=zhd (zak aP.out (g:=w.heap.size+2) (by omega) 5 (slice C d.length c7));have aH:=zhd (F.out.set_ 5 (slice C d.length c7));have aM:=zhd (bi.out.far (p:=⟨w.heap.size+2,5,none⟩) (by show w.heap.size+1≠w.heap.size+2;omega) (slice C d.length c7));have am:=zhd (bl.out.far (p:=⟨w.heap.size+2,5,none⟩) (by show w.heap.size≠w.heap.size+2;omega) (slice C d.length c7));have ak:=zhd (zad bk.out (g:=w.heap.size+2) (by omega) 5 (slice C d.length c7));rcases zdo b.length d.length s u o true with hq|hq
  ·have j:Hid (zcK bs=(⟨b,s,u,o,true,d⟩,q6,0)):=zhd (HF.out.trans (if_neg (by rw [hq];simp)));rw [hq] at l;have X:=zhd l;clear l hq;go_wp2_with fail
   refine(X.out _).mono ?_;rintro e w5 ⟨rfl,i⟩;have t:Hid (Blk w5 (w.heap.size+2) 46 #[.string ⟨b.toArray⟩,int i64 s,int i64 u,int i64 o,bool true,slice C d.length c7]):=zhd (aH.out.below i aH.out.lt);have a:=zhd (am.out.below i am.out.lt);have aX:=zhd (zb5 aT.out i);have Q:=zhd (ak.out.trans (i.mono ak.out.size));clear i c0 aE c2 c3 c4 c5 y5;have d0:=t.out.cell 0;have d1:=t.out.cell 1;have d2:=t.out.cell 2;have d3:=t.out.cell 3;have d4:=t.out.cell 4;have d5:=t.out.cell 5;have J:=a.out.cell 0;have K:=a.out.cell 1;have Z:=a.out.cell 2;have V:=a.out.cell 3;have T:=a.out.cell 4;have U:=a.out.cell 5;have z0:=a.out.frozen 0;have z1:=a.out.frozen 1;have z2:=a.out.frozen 2;have z3:=a.out.frozen 3;have z4:=a.out.frozen 4;have z5:=a.out.frozen 5;go_wp2;exact bodyPost_ret (v:=.tuple #[zaT ⟨b.toArray⟩ s u o true C d.length c7,int i64 q6,int i64 0]) (by simp [results,Tryz.results135,go_sem,J,K,Z,V,T,U]) rfl (zjH j.out rfl (zaS aX.out (by omega)) Q.out)
  ·have j:Hid (zcK bs=(zaA,0,11)):=zhd (HF.out.trans (if_pos (by rw [hq];simp)));rw [hq] at l;have X:=zhd l;clear l hq;go_wp2_with fail
   refine(X.out _).mono ?_;rintro e w5 ⟨rfl,i⟩;have r:=zhd (aM.out.below i aM.out.lt);have a:=zhd (am.out.below i am.out.lt);have Q:=zhd (ak.out.trans (i.mono ak.out.size));clear i c0 aE c2 c3 c4 c5 y5;have d0:=r.out.cell 0;have d1:=r.out.cell 1;have d2:=r.out.cell 2;have d3:=r.out.cell 3;have d4:=r.out.cell 4;have d5:=r.out.cell 5;have J:=a.out.cell 0;have K:=a.out.cell 1;have Z:=a.out.cell 2;have V:=a.out.cell 3;have T:=a.out.cell 4;have U:=a.out.cell 5;have z0:=a.out.frozen 0;have z1:=a.out.frozen 1;have z2:=a.out.frozen 2;have z3:=a.out.frozen 3;have z4:=a.out.frozen 4;have z5:=a.out.frozen 5;go_wp2;exact bodyPost_ret (v:=.tuple #[zaT ⟨#[]⟩ 0 0 0 false none 0 0,int i64 0,int i64 11]) (by simp [results,Tryz.results135,go_sem,J,K,Z,V,T,U]) rfl (zbY j.out (zcq Q.out))
end
section
open Go.RowKit Mem Be
theorem znF(b:List UInt8)(e:Int)(a:e≠0):za6 b e=((0,0,0),b,e):=by
 unfold za6;simp only [zdI _ _ e a]
theorem zgk(b:List UInt8)(e:Int)(a:e≠0):zdJ b e=((false,[]),b,e):=by
 unfold zdJ;simp only [zik _ e a];simp
theorem zr7{r:EntP×List UInt8×Int}(a:r.2.2≠0):zoL r=(zaA,r.2.1,r.2.2):=by
 have h:zrG r.1 r.2.2=r.2.2:=by simp [zrG,a]
 unfold zoL;rw [h,if_neg a]
theorem zpk(m:Int)(b:List UInt8):zbS m b 0=((zcg m b).1,b.drop (zcg m b).2.1,(zcg m b).2.2):=if_pos rfl
theorem ztH(b:List UInt8):zbz b 0=((za2 b).1,b.drop (za2 b).2.1,(za2 b).2.2):=if_pos rfl
theorem zvE(b:List UInt8):zeG b 0=((zdj b).1,b.drop (zdj b).2.1,(zdj b).2.2):=if_pos rfl
def zeH(bs:List UInt8):Prop:=(zc2 bs 0).1=(zcK bs).1/\(zc2 bs 0).2.2=(zcK bs).2.2/\((zcK bs).2.2=0->(zc2 bs 0).2.1=bs.drop (zcK bs).2.1)
theorem zfD{bs b:List UInt8}{e:Int}{x:EntP}(a:e≠0)(d:zdq bs 0=(x,b,e))(g:zcK bs=(zaA,0,e)):zeH bs:=by
 have c:zc2 bs 0=(zaA,b,e):=by unfold zc2;rw [d];exact zr7 a
 unfold zeH;rw [c,g];exact⟨rfl,rfl,fun h=>absurd h a⟩
theorem zr8(bs:List UInt8):zeH bs:=by
 obtain⟨⟨g,k1,I⟩,k⟩:∃ y,za2 bs=y:=⟨_,rfl⟩;have p:zbz bs 0=(g,bs.drop k1,I):=by rw [ztH,k]
 by_cases A:I=0
 case neg=>
  refine zfD (x:=⟨g,0,0,0,false,[]⟩) (b:=bs.drop k1) A ?_ ?_
  ·unfold zdq;simp only [p,znF _ I A,zgk _ I A]
  ·unfold zcK;simp only [k];exact if_pos A
 subst A;obtain⟨⟨s,a,e2⟩,m⟩:∃ y,zcg 1099511627776 (bs.drop k1)=y:=⟨_,rfl⟩;have O:zbS 1099511627776 (bs.drop k1) 0=(s,bs.drop (k1+a),e2):=by rw [zpk,m,List.drop_drop]
 by_cases D:e2=0
 case neg=>
  have ht:za6 (bs.drop k1) 0=((s,0,0),bs.drop (k1+a),e2):=by unfold za6;simp only [O,zdI _ _ e2 D]
  refine zfD (x:=⟨g,s,0,0,false,[]⟩) (b:=bs.drop (k1+a)) D ?_ ?_
  ·unfold zdq;simp only [p,ht,zgk _ e2 D]
  ·unfold zcK;simp only [k,m];exact(if_neg (by simp)).trans (if_pos D)
 subst D;obtain⟨⟨u,c,e3⟩,v⟩:∃ y,zcg 1048576 (bs.drop (k1+a))=y:=⟨_,rfl⟩;have Q:zbS 1048576 (bs.drop (k1+a)) 0=(u,bs.drop (k1+a+c),e3):=by rw [zpk,v,List.drop_drop]
 by_cases z:e3=0
 case neg=>
  have ht:za6 (bs.drop k1) 0=((s,u,0),bs.drop (k1+a+c),e3):=by unfold za6;simp only [O,Q,zdI _ _ e3 z]
  refine zfD (x:=⟨g,s,u,0,false,[]⟩) (b:=bs.drop (k1+a+c)) z ?_ ?_
  ·unfold zdq;simp only [p,ht,zgk _ e3 z]
  ·unfold zcK;simp only [k,m,v];exact(if_neg (by simp)).trans ((if_neg (by simp)).trans (if_pos z))
 subst z;obtain⟨⟨o,d,F⟩,C⟩:∃ y,zcg 1048576 (bs.drop (k1+a+c))=y:=⟨_,rfl⟩;have S:zbS 1048576 (bs.drop (k1+a+c)) 0=(o,bs.drop (k1+a+c+d),F):=by rw [zpk,C,List.drop_drop]
 have ht:za6 (bs.drop k1) 0=((s,u,o),bs.drop (k1+a+c+d),F):=by unfold za6;simp only [O,Q,S]
 by_cases G:F=0
 case neg=>
  refine zfD (x:=⟨g,s,u,o,false,[]⟩) (b:=bs.drop (k1+a+c+d)) G ?_ ?_
  ·unfold zdq;simp only [p,ht,zgk _ F G]
  ·unfold zcK;simp only [k,m,v,C];exact(if_neg (by simp)).trans ((if_neg (by simp)).trans ((if_neg (by simp)).trans (if_pos G)))
 subst G;obtain⟨⟨has,k5,L⟩,E⟩:∃ y,zdj (bs.drop (k1+a+c+d))=y:=⟨_,rfl⟩;have N:zeG (bs.drop (k1+a+c+d)) 0=(has,bs.drop (k1+a+c+d+k5),L):=by rw [zvE,E,List.drop_drop]
 have K:=zgf (bs.drop (k1+a+c+d));rw [E] at K;simp only at K;by_cases J:L=0
 case neg=>
  have T:has=false:=by rcases K with⟨h,_⟩|⟨h,_⟩;exact absurd h J;exact h
  subst T;have B:zdJ (bs.drop (k1+a+c+d)) 0=((false,[]),bs.drop (k1+a+c+d+k5),L):=by unfold zdJ;simp only [N];rfl
  refine zfD (x:=⟨g,s,u,o,false,[]⟩) (b:=bs.drop (k1+a+c+d+k5)) J ?_ ?_
  ·unfold zdq;simp only [p,ht,B]
  ·unfold zcK;simp only [k,m,v,C,E];exact(if_neg (by simp)).trans ((if_neg (by simp)).trans ((if_neg (by simp)).trans ((if_neg (by simp)).trans (if_pos J))))
 subst J;cases has
 ·have B:zdJ (bs.drop (k1+a+c+d)) 0=((false,[]),bs.drop (k1+a+c+d+k5),0):=by unfold zdJ;simp only [N];rfl
  have r:zdq bs 0=(⟨g,s,u,o,false,[]⟩,bs.drop (k1+a+c+d+k5),0):=by unfold zdq;simp only [p,ht,B]
  have i:zcK bs=if zav g.length 0 s u o false≠0 then(zaA,0,11) else(⟨g,s,u,o,false,[]⟩,k1+a+c+d+k5,0):=by
   unfold zcK;simp only [k,m,v,C,E];exact(if_neg (by simp)).trans ((if_neg (by simp)).trans ((if_neg (by simp)).trans ((if_neg (by simp)).trans ((if_neg (by simp)).trans (if_neg (by simp))))))
  by_cases hq:zav g.length 0 s u o false=0
  ·rw [if_neg (by rw [hq];simp)] at i;have l:zrG ⟨g,s,u,o,false,[]⟩ 0=0:=if_pos hq;have h:zc2 bs 0=(⟨g,s,u,o,false,[]⟩,bs.drop (k1+a+c+d+k5),0):=by unfold zc2;rw [r];exact if_pos l
   unfold zeH;rw [h,i];exact⟨rfl,rfl,fun _=>rfl⟩
  ·rw [if_pos hq] at i;have l:zrG ⟨g,s,u,o,false,[]⟩ 0=11:=(if_neg hq).trans (if_pos rfl);have h:zc2 bs 0=(zaA,bs.drop (k1+a+c+d+k5),11):=by unfold zc2;rw [r];unfold zoL;rw [l];exact if_neg (by decide)
   unfold zeH;rw [h,i];exact⟨rfl,rfl,fun h=>absurd h (by decide)⟩
 ·obtain⟨⟨j,t,q⟩,R⟩:∃ y,za2 (bs.drop (k1+a+c+d+k5))=y:=⟨_,rfl⟩;have U:zbz (bs.drop (k1+a+c+d+k5)) 0=(j,bs.drop (k1+a+c+d+k5+t),q):=by rw [ztH,R,List.drop_drop]
  have B:zdJ (bs.drop (k1+a+c+d)) 0=((true,j),bs.drop (k1+a+c+d+k5+t),q):=by unfold zdJ;simp only [N,if_true,U]
  have r:zdq bs 0=(⟨g,s,u,o,true,j⟩,bs.drop (k1+a+c+d+k5+t),q):=by unfold zdq;simp only [p,ht,B]
  have i:zcK bs=if q≠0 then(zaA,0,q) else if zav g.length j.length s u o true≠0 then(zaA,0,11) else(⟨g,s,u,o,true,j⟩,k1+a+c+d+k5+t,0):=by
   unfold zcK;simp only [k,m,v,C,E,R];exact(if_neg (by simp)).trans ((if_neg (by simp)).trans ((if_neg (by simp)).trans ((if_neg (by simp)).trans ((if_neg (by simp)).trans (if_pos (by simp))))))
  by_cases M:q=0
  case neg=>
   rw [if_pos M] at i;exact zfD M r i
  subst M;rw [if_neg (by simp)] at i;by_cases hq:zav g.length j.length s u o true=0
  ·rw [if_neg (by rw [hq];simp)] at i;have l:zrG ⟨g,s,u,o,true,j⟩ 0=0:=if_pos hq;have h:zc2 bs 0=(⟨g,s,u,o,true,j⟩,bs.drop (k1+a+c+d+k5+t),0):=by unfold zc2;rw [r];exact if_pos l
   unfold zeH;rw [h,i];exact⟨rfl,rfl,fun _=>rfl⟩
  ·rw [if_pos hq] at i;have l:zrG ⟨g,s,u,o,true,j⟩ 0=11:=(if_neg hq).trans (if_pos rfl);have h:zc2 bs 0=(zaA,bs.drop (k1+a+c+d+k5+t),11):=by unfold zc2;rw [r];unfold zoL;rw [l];exact if_neg (by decide)
   unfold zeH;rw [h,i];exact⟨rfl,rfl,fun h=>absurd h (by decide)⟩
def zbT(bs:List UInt8):EntP×Int:=if zk3 (zc2 bs 0).2.1 (zc2 bs 0).2.2=0 then((zc2 bs 0).1,0) else(zaA,zk3 (zc2 bs 0).2.1 (zc2 bs 0).2.2)
def zda(bs:List UInt8):EntP×Int:=if(zcK bs).2.2≠0 then(zaA,(zcK bs).2.2) else if(zcK bs).2.1<bs.length then(zaA,11) else((zcK bs).1,0)
theorem ze7(bs:List UInt8):zbT bs=zda bs:=by
 obtain⟨g,c,d⟩:=zr8 bs;unfold zbT zda zk3;rw [c,g];by_cases a:(zcK bs).2.2=0
 ·rw [a,d a];simp only [if_true,List.length_drop];by_cases hl:(zcK bs).2.1<bs.length
  ·have b:¬ (bs.length - (zcK bs).2.1=0):=by omega
   simp [b,hl]
  ·have b:bs.length - (zcK bs).2.1=0:=by omega
   simp [b,hl]
 ·rw [if_neg a,if_neg a,if_pos a]
end
section
open Go.RowKit Mem Be
def zgC(r:EntP×Int)(w:World)(E:Ending)(w':World):Prop:=
 ∃ A c,E=.returned (.tuple #[zaT ⟨r.1.k.toArray⟩ r.1.s r.1.u r.1.o r.1.has A r.1.v.length c,int i64 r.2])/\w'.ownsRow w.heap.size 5 1 (slice A r.1.v.length c) r.1.v.length (r.1.v.map zaa)/\Below w.heap.size w w'
theorem zeI{r:EntP×Int}{e:Int}(d:r=(zaA,e)){w b:World}{v0 v1 v2 v3 v4 v5:Value}{c:Obj}(a:Below w.heap.size w b):zgC r w (.returned (.tuple #[zaT ⟨#[]⟩ 0 0 0 false none 0 0,int i64 e])) (((((((b.setCell ⟨w.heap.size,0,none⟩ v0).setCell ⟨w.heap.size,1,none⟩ v1).setCell ⟨w.heap.size,2,none⟩ v2).setCell ⟨w.heap.size,3,none⟩ v3).setCell ⟨w.heap.size,4,none⟩ v4).setCell ⟨w.heap.size,5,none⟩ v5).alloc c):=by
 subst d;exact⟨none,0,rfl,World.ownsRow_nil _ _ _ _,(zcq a).alloc (zcq a).size _⟩
theorem zhJ{r:EntP×Int}{x:EntP}(h:r=(x,0)){w a:World}{A:Option Addr}{c:Nat}{v0 v1 v2 v3 v4 v5:Value}{d:Obj}(g:a.ownsRow (w.heap.size+1) 5 1 (slice A x.v.length c) x.v.length (x.v.map zaa))(b:Below w.heap.size w a) :
 zgC r w (.returned (.tuple #[zaT ⟨x.k.toArray⟩ x.s x.u x.o x.has A x.v.length c,int i64 0])) (((((((a.setCell ⟨w.heap.size,0,none⟩ v0).setCell ⟨w.heap.size,1,none⟩ v1).setCell ⟨w.heap.size,2,none⟩ v2).setCell ⟨w.heap.size,3,none⟩ v3).setCell ⟨w.heap.size,4,none⟩ v4).setCell ⟨w.heap.size,5,none⟩ v5).alloc d):=by
 subst h;exact⟨A,c,rfl,(zaS (zak (zak (zak (zak (zak (zak g (by omega) _ _) (by omega) _ _) (by omega) _ _) (by omega) _ _) (by omega) _ _) (by omega) _ _) (by omega)).alloc _,(zcq b).alloc (zcq b).size _⟩
theorem zmE(B n c:Nat)(A:Option Addr)(bs:List UInt8)(G:n=bs.length)(hl:n<=1000000)(w:World)(h:Row w B A (bs.map zaa))(U:B<=w.heap.size) :
 Calls Tryz.prog 180 #[slice A n c] w (zgC (zbT bs) w):=by
 have ab:=zhd (h.below ((Below.refl w.heap.size w).alloc (Nat.le_refl _) (cells zaR 46) |>.mono U));have HN:=zhd G;have Z:Hid (bs.length<=1073741824):=zhd (by omega);have V:=zhd (Blk.new w 46 zaR);obtain⟨⟨x,rest,e⟩,m⟩:∃ y,zc2 bs 0=y:=⟨_,rfl⟩;have HS:=zhd m;have l:zbT bs=if zk3 rest e=0 then(x,0) else(zaA,zk3 rest e):=by unfold zbT;rw [m]
 clear h G hl m;obtain⟨d,q⟩:∃ z,zk3 rest e=z:=⟨_,rfl⟩;rw [q] at l;have ae:=zhd q;clear q;obtain⟨R,D⟩:∃ R,zbT bs=R:=⟨_,rfl⟩;rw [D] at l ⊢;have F:=zhd l;clear l D;go_enter Tryz.func180,Tryz.ntmps180
 go_wp2_with fail
 refine(zo9 B c n A bs HN.out _ ab.out (by simp;omega) Z.out).mono ?_;rintro e w1 ⟨g,rfl,J,i,j⟩;have O:=zhd (zax j);have E:=zhd (V.out.below j (by simp));have aa:=zhd i;have af:w.heap.size+1<=g:=by simpa using J
 clear J j i;go_wp2_with fail
 refine(zuh g bs 0 _ aa.out).mono ?_;rw [HS.out];rintro e K ⟨W,c2,rfl,I,i,r⟩;have X:=zhd i;have C:Hid (Below w.heap.size w K):=zhd (zcT O.out r O.out.size (by omega));have a:=zhd (E.out.grown r (fun e=>by injection e with e;omega));have Y:=zhd (zaS (B':=w.heap.size+1) I E.out.lt);clear I i r;have N:=a.out.cell 0;have Q:=a.out.cell 1;have S:=a.out.cell 2;have t:=a.out.cell 3;have L:=a.out.cell 4;have M:=a.out.cell 5;have z0:=a.out.frozen 0;have z1:=a.out.frozen 1;have z2:=a.out.frozen 2;have z3:=a.out.frozen 3;have z4:=a.out.frozen 4;have z5:=a.out.frozen 5;have T:w.heap.size<K.heap.size:=a.out.lt;go_wp2_with fail
 refine(zk4 g rest _ _ (zbO X.out _)).mono ?_;rw [ae.out];rintro e w' ⟨rfl,rfl⟩;by_cases b:d=0
 ·have j:(d != 0)=false:=by simpa using b
  have p:Hid (R=(x,0)):=zhd (F.out.trans (if_pos b));clear b;go_wp2;exact bodyPost_ret (v:=.tuple #[zaT ⟨x.k.toArray⟩ x.s x.u x.o x.has W x.v.length c2,int i64 0]) (by simp [results,Tryz.results180,go_sem,N,Q,S,t,L,M,T]) rfl (zhJ p.out Y.out C.out)
 ·have j:(d != 0)=true:=by simpa using b
  have p:Hid (R=(zaA,d)):=zhd (F.out.trans (if_neg b));clear b;go_wp2;exact bodyPost_ret (v:=.tuple #[zaT ⟨#[]⟩ 0 0 0 false none 0 0,int i64 d]) (by simp [results,Tryz.results180,go_sem,N,Q,S,t,L,M,T]) rfl (zeI p.out C.out)
theorem zeJ(n c:Nat)(A:Option Addr)(bs:List UInt8)(p:n=bs.length)(hl:n<=1000000)(hc:n<=c)(w:World)(h:Row w w.heap.size A (bs.map zaa)) :
 Calls Tryz.prog 105 #[slice A n c] w (zgC (zda bs) w):=by
 have Q:Hid (Row (w.alloc (cells zaR 46)) (w.alloc (cells zaR 46)).heap.size A (bs.map zaa)):=zhd ((h.alloc (Nat.le_refl _) _).more (by simp));have O:=zhd p;have N:=zhd hl;have K:=zhd hc;have I:=zhd (Blk.new w 46 zaR);have V:(n:Int)<=1000000:=by omega
 obtain⟨⟨x,q,e⟩,l⟩:∃ y,zcK bs=y:=⟨_,rfl⟩;have S:=zhd l;have z:zda bs=if e≠0 then(zaA,e) else if q<n then(zaA,11) else(x,0):=by unfold zda;rw [l,p]
 clear h p hl hc l;obtain⟨R,F⟩:∃ R,zda bs=R:=⟨_,rfl⟩;rw [F] at z ⊢;have m:=zhd z;clear z F;go_enter Tryz.func105,Tryz.ntmps105
 go_wp2_with fail
 refine(zli n c A bs O.out N.out K.out _ Q.out).mono ?_;rw [S.out];rintro W M ⟨J,c2,rfl,G,d⟩;have j:=zhd (zax d);have a:=zhd (I.out.below d (by simp));have T:=zhd (zaS (B':=w.heap.size+1) G (by simp));clear G d;have B:=a.out.cell 0;have C:=a.out.cell 1;have D:=a.out.cell 2;have i:=a.out.cell 3;have r:=a.out.cell 4;have t:=a.out.cell 5;have z0:=a.out.frozen 0;have X:=a.out.frozen 1;have U:=a.out.frozen 2;have z3:=a.out.frozen 3;have z4:=a.out.frozen 4;have z5:=a.out.frozen 5;have E:w.heap.size<M.heap.size:=a.out.lt;by_cases g:e=0
 ·subst g;by_cases hq:q<n
  ·have b:Hid (R=(zaA,11)):=zhd (m.out.trans ((if_neg (by simp)).trans (if_pos hq)));have L:(q:Int)<(n:Int):=by omega
   clear hq;go_wp2;exact bodyPost_ret (v:=.tuple #[zaT ⟨#[]⟩ 0 0 0 false none 0 0,int i64 11]) (by simp [results,Tryz.results105,go_sem,B,C,D,i,r,t,E]) rfl (zeI b.out j.out)
  ·have b:Hid (R=(x,0)):=zhd (m.out.trans ((if_neg (by simp)).trans (if_neg hq)));have L:(n:Int)<=(q:Int):=by omega
   clear hq;go_wp2;exact bodyPost_ret (v:=.tuple #[zaT ⟨x.k.toArray⟩ x.s x.u x.o x.has J x.v.length c2,int i64 0]) (by simp [results,Tryz.results105,go_sem,B,C,D,i,r,t,E]) rfl (zhJ b.out T.out j.out)
 ·have d:(e != 0)=true:=by simpa using g
  have b:Hid (R=(zaA,e)):=zhd (m.out.trans (if_pos g));clear g;go_wp2;exact bodyPost_ret (v:=.tuple #[zaT ⟨#[]⟩ 0 0 0 false none 0 0,int i64 e]) (by simp [results,Tryz.results105,go_sem,B,C,D,i,r,t,E]) rfl (zeI b.out j.out)
end
end Go.Proofs.YtahnjkkgojfdmaaGreatDoor
