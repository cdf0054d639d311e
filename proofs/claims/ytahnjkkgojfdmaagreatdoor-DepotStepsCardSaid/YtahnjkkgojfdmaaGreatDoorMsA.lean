import Derived.Test.YtahnjkkgojfdmaaGreatDoorMsP
import Derived.Test.YtahnjkkgojfdmaaGreatDoorEvZ
set_option maxRecDepth 100000
set_option maxHeartbeats 4000000
set_option linter.unusedVariables false
namespace Go.Proofs.YtahnjkkgojfdmaaGreatDoor
open Go.Obj(cells)
open Go.IntKind(i64)
open Go.Value(int bool)
section
open Go.RowKit Mem Be Rg
def zq2:List Bool:=[false,false,false,false,false,false,false,true,false,false,true,true,true,false,false,false,false,true,false,false,false,false,true,false,false,false,false,true,false,false,true,false,false,false,false,false,false,true,false,false,false,false,true,false,false,true,false,true,false,false,false,false,true,false,false,false,false,true,false,false,true,false,false,false,false,true,true,false,true,false,true,true,false,true,false,false,false,false,false,false,false,false,false,false,true,false,false,false,false,false]
def KT(w:World):Prop:=∀ i,i<90->w.cell? ⟨0,i,none⟩=some (bool (zq2.getD i false))
theorem KT.pos{w:World}(h:KT w):0<w.heap.size:=zaq (h 0 (by decide))
theorem KT.below{w w':World}(h:KT w)(hb:Below w.heap.size w w'):KT w':=fun i hi=>(hb.cell (p:=⟨0,i,none⟩) h.pos).trans (h i hi)
theorem KT.low{w w':World}{B:Nat}(h:KT w)(hb:Below B w w')(hB:0<B):KT w':=fun i hi=>(hb.cell (p:=⟨0,i,none⟩) hB).trans (h i hi)
abbrev b5(a b c d e:Bool):Value:=.agg #[bool a,bool b,bool c,bool d,bool e]
abbrev zvn(k:Int):Value:=b5 (zfO k) (zf2 k) (zh5 k) (zf3 k) (zkT k)
theorem zfq{k:Int}(h:exK k=false):k<1\/17<k:=by unfold exK at h;have:=of_decide_eq_false h;omega
theorem zdi{k:Int}(h:exK k=true):1<=k/\k<=17:=of_decide_eq_true h
theorem zeq{k:Int}(h:k<1\/17<k):zfO k=false/\zf2 k=false/\zh5 k=false/\zf3 k=false/\zkT k=false:=by
 unfold zfO zf2 zh5 zf3 zkT;simp only [Bool.or_eq_false_iff,beq_eq_false_iff_ne];omega
theorem zon(k:Int)(w:World):Calls Tryz.prog 75 #[int i64 k] w fun e w'=>e=.returned (bool (exK k))/\w=w':=by
 cases h:exK k
 ·rcases zfq h with a|a
  ·clear h;go_enter Tryz.func75,Tryz.ntmps75
   go_wp2;go_ret;exact⟨rfl,rfl⟩
  ·have c:1<=k:=by omega
   have b:18<=k:=by omega
   have d:decide (k<18)=false:=by simp;omega
   clear h;go_enter Tryz.func75,Tryz.ntmps75
   go_wp2;go_ret;exact⟨rfl,rfl⟩
 ·obtain⟨a,c⟩:=zdi h;have b:k<18:=by omega
  clear h;go_enter Tryz.func75,Tryz.ntmps75
  go_wp2;go_ret;exact⟨rfl,rfl⟩
theorem zau(k:Int)(b:Bool)(h:Hid (exK k=b))(w:World):Calls Tryz.prog 75 #[int i64 k] w fun e w'=>e=.returned (bool b)/\w=w':=by
 have:=zon k w;rw [h.out] at this;exact this
theorem ztc(n:Int)(w:World):Calls Tryz.prog 76 #[int i64 n] w fun e w'=>e=.returned (bool (inR n 1048575))/\w=w':=by
 by_cases h:0<=n
 ·by_cases a:n<=1048575
  ·rw [show inR n 1048575=true from decide_eq_true ⟨h,a⟩];go_enter Tryz.func76,Tryz.ntmps76
   go_wp2;go_ret;exact⟨rfl,rfl⟩
  ·rw [show inR n 1048575=false from decide_eq_false (by omega)];have b:decide (n<=1048575)=false:=decide_eq_false a;clear a;go_enter Tryz.func76,Tryz.ntmps76
   go_wp2;go_ret;exact⟨rfl,rfl⟩
 ·rw [show inR n 1048575=false from decide_eq_false (by omega)];have b:n<0:=by omega
  clear h;go_enter Tryz.func76,Tryz.ntmps76
  go_wp2;go_ret;exact⟨rfl,rfl⟩
theorem zer(n:Int)(b:Bool)(h:Hid (inR n 1048575=b))(w:World):Calls Tryz.prog 76 #[int i64 n] w fun e w'=>e=.returned (bool b)/\w=w':=by
 have:=ztc n w;rw [h.out] at this;exact this
theorem zkB(n:Int)(w:World):Calls Tryz.prog 77 #[int i64 n] w fun e w'=>e=.returned (bool (inR n 1099511627775))/\w=w':=by
 by_cases h:0<=n
 ·by_cases a:n<=1099511627775
  ·rw [show inR n 1099511627775=true from decide_eq_true ⟨h,a⟩];go_enter Tryz.func77,Tryz.ntmps77
   go_wp2;go_ret;exact⟨rfl,rfl⟩
  ·rw [show inR n 1099511627775=false from decide_eq_false (by omega)];have b:decide (n<=1099511627775)=false:=decide_eq_false a;clear a;go_enter Tryz.func77,Tryz.ntmps77
   go_wp2;go_ret;exact⟨rfl,rfl⟩
 ·rw [show inR n 1099511627775=false from decide_eq_false (by omega)];have b:n<0:=by omega
  clear h;go_enter Tryz.func77,Tryz.ntmps77
  go_wp2;go_ret;exact⟨rfl,rfl⟩
theorem zdz(n:Int)(b:Bool)(h:Hid (inR n 1099511627775=b))(w:World):Calls Tryz.prog 77 #[int i64 n] w fun e w'=>e=.returned (bool b)/\w=w':=by
 have:=zkB n w;rw [h.out] at this;exact this
def zhv(k:Int)(w:World)(e:Ending)(w':World):Prop:=e=.returned (zvn k)/\Below w.heap.size w w'
theorem ztd(w:World)(h:KT w):Calls Tryz.prog 80 #[int i64 1] w (zhv 1 w):=by
 have b:Hid (Below w.heap.size w (w.alloc (cells #[bool false,bool false,bool false,bool false,bool false] 143))):=zhd (zbl);have a:=h.below b.out;have c:Hid (exK 1=true):=zhd (by decide);have c0:(w.alloc (cells #[bool false,bool false,bool false,bool false,bool false] 143)).cell? ⟨0,5,none⟩=some (bool false):=a 5 (by decide);have c1:(w.alloc (cells #[bool false,bool false,bool false,bool false,bool false] 143)).cell? ⟨0,6,none⟩=some (bool false):=a 6 (by decide);have c2:(w.alloc (cells #[bool false,bool false,bool false,bool false,bool false] 143)).cell? ⟨0,7,none⟩=some (bool true):=a 7 (by decide);have c3:(w.alloc (cells #[bool false,bool false,bool false,bool false,bool false] 143)).cell? ⟨0,8,none⟩=some (bool false):=a 8 (by decide);have c4:(w.alloc (cells #[bool false,bool false,bool false,bool false,bool false] 143)).cell? ⟨0,9,none⟩=some (bool false):=a 9 (by decide);clear a h;go_enter Tryz.func80,Tryz.ntmps80
 go_wp2_with (go_at_call 75;refine(zau _ _ c _).mono ?_;rintro e w' ⟨rfl,rfl⟩)
 exact bodyPost_ret (v:=.agg #[bool false,bool false,bool true,bool false,bool false]) (by simp [results,Tryz.results80,go_sem]) rfl ⟨rfl,zbl⟩
theorem zte(w:World)(h:KT w):Calls Tryz.prog 80 #[int i64 2] w (zhv 2 w):=by
 have b:Hid (Below w.heap.size w (w.alloc (cells #[bool false,bool false,bool false,bool false,bool false] 143))):=zhd (zbl);have a:=h.below b.out;have c:Hid (exK 2=true):=zhd (by decide);have c0:(w.alloc (cells #[bool false,bool false,bool false,bool false,bool false] 143)).cell? ⟨0,10,none⟩=some (bool true):=a 10 (by decide);have c1:(w.alloc (cells #[bool false,bool false,bool false,bool false,bool false] 143)).cell? ⟨0,11,none⟩=some (bool true):=a 11 (by decide);have c2:(w.alloc (cells #[bool false,bool false,bool false,bool false,bool false] 143)).cell? ⟨0,12,none⟩=some (bool true):=a 12 (by decide);have c3:(w.alloc (cells #[bool false,bool false,bool false,bool false,bool false] 143)).cell? ⟨0,13,none⟩=some (bool false):=a 13 (by decide);have c4:(w.alloc (cells #[bool false,bool false,bool false,bool false,bool false] 143)).cell? ⟨0,14,none⟩=some (bool false):=a 14 (by decide);clear a h;go_enter Tryz.func80,Tryz.ntmps80
 go_wp2_with (go_at_call 75;refine(zau _ _ c _).mono ?_;rintro e w' ⟨rfl,rfl⟩)
 exact bodyPost_ret (v:=.agg #[bool true,bool true,bool true,bool false,bool false]) (by simp [results,Tryz.results80,go_sem]) rfl ⟨rfl,zbl⟩
theorem ztf(w:World)(h:KT w):Calls Tryz.prog 80 #[int i64 3] w (zhv 3 w):=by
 have b:Hid (Below w.heap.size w (w.alloc (cells #[bool false,bool false,bool false,bool false,bool false] 143))):=zhd (zbl);have a:=h.below b.out;have c:Hid (exK 3=true):=zhd (by decide);have c0:(w.alloc (cells #[bool false,bool false,bool false,bool false,bool false] 143)).cell? ⟨0,15,none⟩=some (bool false):=a 15 (by decide);have c1:(w.alloc (cells #[bool false,bool false,bool false,bool false,bool false] 143)).cell? ⟨0,16,none⟩=some (bool false):=a 16 (by decide);have c2:(w.alloc (cells #[bool false,bool false,bool false,bool false,bool false] 143)).cell? ⟨0,17,none⟩=some (bool true):=a 17 (by decide);have c3:(w.alloc (cells #[bool false,bool false,bool false,bool false,bool false] 143)).cell? ⟨0,18,none⟩=some (bool false):=a 18 (by decide);have c4:(w.alloc (cells #[bool false,bool false,bool false,bool false,bool false] 143)).cell? ⟨0,19,none⟩=some (bool false):=a 19 (by decide);clear a h;go_enter Tryz.func80,Tryz.ntmps80
 go_wp2_with (go_at_call 75;refine(zau _ _ c _).mono ?_;rintro e w' ⟨rfl,rfl⟩)
 exact bodyPost_ret (v:=.agg #[bool false,bool false,bool true,bool false,bool false]) (by simp [results,Tryz.results80,go_sem]) rfl ⟨rfl,zbl⟩
theorem ztg(w:World)(h:KT w):Calls Tryz.prog 80 #[int i64 4] w (zhv 4 w):=by
 have b:Hid (Below w.heap.size w (w.alloc (cells #[bool false,bool false,bool false,bool false,bool false] 143))):=zhd (zbl);have a:=h.below b.out;have c:Hid (exK 4=true):=zhd (by decide);have c0:(w.alloc (cells #[bool false,bool false,bool false,bool false,bool false] 143)).cell? ⟨0,20,none⟩=some (bool false):=a 20 (by decide);have c1:(w.alloc (cells #[bool false,bool false,bool false,bool false,bool false] 143)).cell? ⟨0,21,none⟩=some (bool false):=a 21 (by decide);have c2:(w.alloc (cells #[bool false,bool false,bool false,bool false,bool false] 143)).cell? ⟨0,22,none⟩=some (bool true):=a 22 (by decide);have c3:(w.alloc (cells #[bool false,bool false,bool false,bool false,bool false] 143)).cell? ⟨0,23,none⟩=some (bool false):=a 23 (by decide);have c4:(w.alloc (cells #[bool false,bool false,bool false,bool false,bool false] 143)).cell? ⟨0,24,none⟩=some (bool false):=a 24 (by decide);clear a h;go_enter Tryz.func80,Tryz.ntmps80
 go_wp2_with (go_at_call 75;refine(zau _ _ c _).mono ?_;rintro e w' ⟨rfl,rfl⟩)
 exact bodyPost_ret (v:=.agg #[bool false,bool false,bool true,bool false,bool false]) (by simp [results,Tryz.results80,go_sem]) rfl ⟨rfl,zbl⟩
theorem zth(w:World)(h:KT w):Calls Tryz.prog 80 #[int i64 5] w (zhv 5 w):=by
 have b:Hid (Below w.heap.size w (w.alloc (cells #[bool false,bool false,bool false,bool false,bool false] 143))):=zhd (zbl);have a:=h.below b.out;have c:Hid (exK 5=true):=zhd (by decide);have c0:(w.alloc (cells #[bool false,bool false,bool false,bool false,bool false] 143)).cell? ⟨0,25,none⟩=some (bool false):=a 25 (by decide);have c1:(w.alloc (cells #[bool false,bool false,bool false,bool false,bool false] 143)).cell? ⟨0,26,none⟩=some (bool false):=a 26 (by decide);have c2:(w.alloc (cells #[bool false,bool false,bool false,bool false,bool false] 143)).cell? ⟨0,27,none⟩=some (bool true):=a 27 (by decide);have c3:(w.alloc (cells #[bool false,bool false,bool false,bool false,bool false] 143)).cell? ⟨0,28,none⟩=some (bool false):=a 28 (by decide);have c4:(w.alloc (cells #[bool false,bool false,bool false,bool false,bool false] 143)).cell? ⟨0,29,none⟩=some (bool false):=a 29 (by decide);clear a h;go_enter Tryz.func80,Tryz.ntmps80
 go_wp2_with (go_at_call 75;refine(zau _ _ c _).mono ?_;rintro e w' ⟨rfl,rfl⟩)
 exact bodyPost_ret (v:=.agg #[bool false,bool false,bool true,bool false,bool false]) (by simp [results,Tryz.results80,go_sem]) rfl ⟨rfl,zbl⟩
theorem zti(w:World)(h:KT w):Calls Tryz.prog 80 #[int i64 6] w (zhv 6 w):=by
 have b:Hid (Below w.heap.size w (w.alloc (cells #[bool false,bool false,bool false,bool false,bool false] 143))):=zhd (zbl);have a:=h.below b.out;have c:Hid (exK 6=true):=zhd (by decide);have c0:(w.alloc (cells #[bool false,bool false,bool false,bool false,bool false] 143)).cell? ⟨0,30,none⟩=some (bool true):=a 30 (by decide);have c1:(w.alloc (cells #[bool false,bool false,bool false,bool false,bool false] 143)).cell? ⟨0,31,none⟩=some (bool false):=a 31 (by decide);have c2:(w.alloc (cells #[bool false,bool false,bool false,bool false,bool false] 143)).cell? ⟨0,32,none⟩=some (bool false):=a 32 (by decide);have c3:(w.alloc (cells #[bool false,bool false,bool false,bool false,bool false] 143)).cell? ⟨0,33,none⟩=some (bool false):=a 33 (by decide);have c4:(w.alloc (cells #[bool false,bool false,bool false,bool false,bool false] 143)).cell? ⟨0,34,none⟩=some (bool false):=a 34 (by decide);clear a h;go_enter Tryz.func80,Tryz.ntmps80
 go_wp2_with (go_at_call 75;refine(zau _ _ c _).mono ?_;rintro e w' ⟨rfl,rfl⟩)
 exact bodyPost_ret (v:=.agg #[bool true,bool false,bool false,bool false,bool false]) (by simp [results,Tryz.results80,go_sem]) rfl ⟨rfl,zbl⟩
theorem ztj(w:World)(h:KT w):Calls Tryz.prog 80 #[int i64 7] w (zhv 7 w):=by
 have b:Hid (Below w.heap.size w (w.alloc (cells #[bool false,bool false,bool false,bool false,bool false] 143))):=zhd (zbl);have a:=h.below b.out;have c:Hid (exK 7=true):=zhd (by decide);have c0:(w.alloc (cells #[bool false,bool false,bool false,bool false,bool false] 143)).cell? ⟨0,35,none⟩=some (bool false):=a 35 (by decide);have c1:(w.alloc (cells #[bool false,bool false,bool false,bool false,bool false] 143)).cell? ⟨0,36,none⟩=some (bool false):=a 36 (by decide);have c2:(w.alloc (cells #[bool false,bool false,bool false,bool false,bool false] 143)).cell? ⟨0,37,none⟩=some (bool true):=a 37 (by decide);have c3:(w.alloc (cells #[bool false,bool false,bool false,bool false,bool false] 143)).cell? ⟨0,38,none⟩=some (bool false):=a 38 (by decide);have c4:(w.alloc (cells #[bool false,bool false,bool false,bool false,bool false] 143)).cell? ⟨0,39,none⟩=some (bool false):=a 39 (by decide);clear a h;go_enter Tryz.func80,Tryz.ntmps80
 go_wp2_with (go_at_call 75;refine(zau _ _ c _).mono ?_;rintro e w' ⟨rfl,rfl⟩)
 exact bodyPost_ret (v:=.agg #[bool false,bool false,bool true,bool false,bool false]) (by simp [results,Tryz.results80,go_sem]) rfl ⟨rfl,zbl⟩
theorem ztk(w:World)(h:KT w):Calls Tryz.prog 80 #[int i64 8] w (zhv 8 w):=by
 have b:Hid (Below w.heap.size w (w.alloc (cells #[bool false,bool false,bool false,bool false,bool false] 143))):=zhd (zbl);have a:=h.below b.out;have c:Hid (exK 8=true):=zhd (by decide);have c0:(w.alloc (cells #[bool false,bool false,bool false,bool false,bool false] 143)).cell? ⟨0,40,none⟩=some (bool false):=a 40 (by decide);have c1:(w.alloc (cells #[bool false,bool false,bool false,bool false,bool false] 143)).cell? ⟨0,41,none⟩=some (bool false):=a 41 (by decide);have c2:(w.alloc (cells #[bool false,bool false,bool false,bool false,bool false] 143)).cell? ⟨0,42,none⟩=some (bool true):=a 42 (by decide);have c3:(w.alloc (cells #[bool false,bool false,bool false,bool false,bool false] 143)).cell? ⟨0,43,none⟩=some (bool false):=a 43 (by decide);have c4:(w.alloc (cells #[bool false,bool false,bool false,bool false,bool false] 143)).cell? ⟨0,44,none⟩=some (bool false):=a 44 (by decide);clear a h;go_enter Tryz.func80,Tryz.ntmps80
 go_wp2_with (go_at_call 75;refine(zau _ _ c _).mono ?_;rintro e w' ⟨rfl,rfl⟩)
 exact bodyPost_ret (v:=.agg #[bool false,bool false,bool true,bool false,bool false]) (by simp [results,Tryz.results80,go_sem]) rfl ⟨rfl,zbl⟩
theorem ztl(w:World)(h:KT w):Calls Tryz.prog 80 #[int i64 9] w (zhv 9 w):=by
 have b:Hid (Below w.heap.size w (w.alloc (cells #[bool false,bool false,bool false,bool false,bool false] 143))):=zhd (zbl);have a:=h.below b.out;have c:Hid (exK 9=true):=zhd (by decide);have c0:(w.alloc (cells #[bool false,bool false,bool false,bool false,bool false] 143)).cell? ⟨0,45,none⟩=some (bool true):=a 45 (by decide);have c1:(w.alloc (cells #[bool false,bool false,bool false,bool false,bool false] 143)).cell? ⟨0,46,none⟩=some (bool false):=a 46 (by decide);have c2:(w.alloc (cells #[bool false,bool false,bool false,bool false,bool false] 143)).cell? ⟨0,47,none⟩=some (bool true):=a 47 (by decide);have c3:(w.alloc (cells #[bool false,bool false,bool false,bool false,bool false] 143)).cell? ⟨0,48,none⟩=some (bool false):=a 48 (by decide);have c4:(w.alloc (cells #[bool false,bool false,bool false,bool false,bool false] 143)).cell? ⟨0,49,none⟩=some (bool false):=a 49 (by decide);clear a h;go_enter Tryz.func80,Tryz.ntmps80
 go_wp2_with (go_at_call 75;refine(zau _ _ c _).mono ?_;rintro e w' ⟨rfl,rfl⟩)
 exact bodyPost_ret (v:=.agg #[bool true,bool false,bool true,bool false,bool false]) (by simp [results,Tryz.results80,go_sem]) rfl ⟨rfl,zbl⟩
theorem zq3(w:World)(h:KT w):Calls Tryz.prog 80 #[int i64 10] w (zhv 10 w):=by
 have b:Hid (Below w.heap.size w (w.alloc (cells #[bool false,bool false,bool false,bool false,bool false] 143))):=zhd (zbl);have a:=h.below b.out;have c:Hid (exK 10=true):=zhd (by decide);have c0:(w.alloc (cells #[bool false,bool false,bool false,bool false,bool false] 143)).cell? ⟨0,50,none⟩=some (bool false):=a 50 (by decide);have c1:(w.alloc (cells #[bool false,bool false,bool false,bool false,bool false] 143)).cell? ⟨0,51,none⟩=some (bool false):=a 51 (by decide);have c2:(w.alloc (cells #[bool false,bool false,bool false,bool false,bool false] 143)).cell? ⟨0,52,none⟩=some (bool true):=a 52 (by decide);have c3:(w.alloc (cells #[bool false,bool false,bool false,bool false,bool false] 143)).cell? ⟨0,53,none⟩=some (bool false):=a 53 (by decide);have c4:(w.alloc (cells #[bool false,bool false,bool false,bool false,bool false] 143)).cell? ⟨0,54,none⟩=some (bool false):=a 54 (by decide);clear a h;go_enter Tryz.func80,Tryz.ntmps80
 go_wp2_with (go_at_call 75;refine(zau _ _ c _).mono ?_;rintro e w' ⟨rfl,rfl⟩)
 exact bodyPost_ret (v:=.agg #[bool false,bool false,bool true,bool false,bool false]) (by simp [results,Tryz.results80,go_sem]) rfl ⟨rfl,zbl⟩
theorem zq4(w:World)(h:KT w):Calls Tryz.prog 80 #[int i64 11] w (zhv 11 w):=by
 have b:Hid (Below w.heap.size w (w.alloc (cells #[bool false,bool false,bool false,bool false,bool false] 143))):=zhd (zbl);have a:=h.below b.out;have c:Hid (exK 11=true):=zhd (by decide);have c0:(w.alloc (cells #[bool false,bool false,bool false,bool false,bool false] 143)).cell? ⟨0,55,none⟩=some (bool false):=a 55 (by decide);have c1:(w.alloc (cells #[bool false,bool false,bool false,bool false,bool false] 143)).cell? ⟨0,56,none⟩=some (bool false):=a 56 (by decide);have c2:(w.alloc (cells #[bool false,bool false,bool false,bool false,bool false] 143)).cell? ⟨0,57,none⟩=some (bool true):=a 57 (by decide);have c3:(w.alloc (cells #[bool false,bool false,bool false,bool false,bool false] 143)).cell? ⟨0,58,none⟩=some (bool false):=a 58 (by decide);have c4:(w.alloc (cells #[bool false,bool false,bool false,bool false,bool false] 143)).cell? ⟨0,59,none⟩=some (bool false):=a 59 (by decide);clear a h;go_enter Tryz.func80,Tryz.ntmps80
 go_wp2_with (go_at_call 75;refine(zau _ _ c _).mono ?_;rintro e w' ⟨rfl,rfl⟩)
 exact bodyPost_ret (v:=.agg #[bool false,bool false,bool true,bool false,bool false]) (by simp [results,Tryz.results80,go_sem]) rfl ⟨rfl,zbl⟩
theorem zq5(w:World)(h:KT w):Calls Tryz.prog 80 #[int i64 12] w (zhv 12 w):=by
 have b:Hid (Below w.heap.size w (w.alloc (cells #[bool false,bool false,bool false,bool false,bool false] 143))):=zhd (zbl);have a:=h.below b.out;have c:Hid (exK 12=true):=zhd (by decide);have c0:(w.alloc (cells #[bool false,bool false,bool false,bool false,bool false] 143)).cell? ⟨0,60,none⟩=some (bool true):=a 60 (by decide);have c1:(w.alloc (cells #[bool false,bool false,bool false,bool false,bool false] 143)).cell? ⟨0,61,none⟩=some (bool false):=a 61 (by decide);have c2:(w.alloc (cells #[bool false,bool false,bool false,bool false,bool false] 143)).cell? ⟨0,62,none⟩=some (bool false):=a 62 (by decide);have c3:(w.alloc (cells #[bool false,bool false,bool false,bool false,bool false] 143)).cell? ⟨0,63,none⟩=some (bool false):=a 63 (by decide);have c4:(w.alloc (cells #[bool false,bool false,bool false,bool false,bool false] 143)).cell? ⟨0,64,none⟩=some (bool false):=a 64 (by decide);clear a h;go_enter Tryz.func80,Tryz.ntmps80
 go_wp2_with (go_at_call 75;refine(zau _ _ c _).mono ?_;rintro e w' ⟨rfl,rfl⟩)
 exact bodyPost_ret (v:=.agg #[bool true,bool false,bool false,bool false,bool false]) (by simp [results,Tryz.results80,go_sem]) rfl ⟨rfl,zbl⟩
theorem zq6(w:World)(h:KT w):Calls Tryz.prog 80 #[int i64 13] w (zhv 13 w):=by
 have b:Hid (Below w.heap.size w (w.alloc (cells #[bool false,bool false,bool false,bool false,bool false] 143))):=zhd (zbl);have a:=h.below b.out;have c:Hid (exK 13=true):=zhd (by decide);have c0:(w.alloc (cells #[bool false,bool false,bool false,bool false,bool false] 143)).cell? ⟨0,65,none⟩=some (bool true):=a 65 (by decide);have c1:(w.alloc (cells #[bool false,bool false,bool false,bool false,bool false] 143)).cell? ⟨0,66,none⟩=some (bool true):=a 66 (by decide);have c2:(w.alloc (cells #[bool false,bool false,bool false,bool false,bool false] 143)).cell? ⟨0,67,none⟩=some (bool false):=a 67 (by decide);have c3:(w.alloc (cells #[bool false,bool false,bool false,bool false,bool false] 143)).cell? ⟨0,68,none⟩=some (bool true):=a 68 (by decide);have c4:(w.alloc (cells #[bool false,bool false,bool false,bool false,bool false] 143)).cell? ⟨0,69,none⟩=some (bool false):=a 69 (by decide);clear a h;go_enter Tryz.func80,Tryz.ntmps80
 go_wp2_with (go_at_call 75;refine(zau _ _ c _).mono ?_;rintro e w' ⟨rfl,rfl⟩)
 exact bodyPost_ret (v:=.agg #[bool true,bool true,bool false,bool true,bool false]) (by simp [results,Tryz.results80,go_sem]) rfl ⟨rfl,zbl⟩
theorem zq7(w:World)(h:KT w):Calls Tryz.prog 80 #[int i64 14] w (zhv 14 w):=by
 have b:Hid (Below w.heap.size w (w.alloc (cells #[bool false,bool false,bool false,bool false,bool false] 143))):=zhd (zbl);have a:=h.below b.out;have c:Hid (exK 14=true):=zhd (by decide);have c0:(w.alloc (cells #[bool false,bool false,bool false,bool false,bool false] 143)).cell? ⟨0,70,none⟩=some (bool true):=a 70 (by decide);have c1:(w.alloc (cells #[bool false,bool false,bool false,bool false,bool false] 143)).cell? ⟨0,71,none⟩=some (bool true):=a 71 (by decide);have c2:(w.alloc (cells #[bool false,bool false,bool false,bool false,bool false] 143)).cell? ⟨0,72,none⟩=some (bool false):=a 72 (by decide);have c3:(w.alloc (cells #[bool false,bool false,bool false,bool false,bool false] 143)).cell? ⟨0,73,none⟩=some (bool true):=a 73 (by decide);have c4:(w.alloc (cells #[bool false,bool false,bool false,bool false,bool false] 143)).cell? ⟨0,74,none⟩=some (bool false):=a 74 (by decide);clear a h;go_enter Tryz.func80,Tryz.ntmps80
 go_wp2_with (go_at_call 75;refine(zau _ _ c _).mono ?_;rintro e w' ⟨rfl,rfl⟩)
 exact bodyPost_ret (v:=.agg #[bool true,bool true,bool false,bool true,bool false]) (by simp [results,Tryz.results80,go_sem]) rfl ⟨rfl,zbl⟩
theorem zq8(w:World)(h:KT w):Calls Tryz.prog 80 #[int i64 15] w (zhv 15 w):=by
 have b:Hid (Below w.heap.size w (w.alloc (cells #[bool false,bool false,bool false,bool false,bool false] 143))):=zhd (zbl);have a:=h.below b.out;have c:Hid (exK 15=true):=zhd (by decide);have c0:(w.alloc (cells #[bool false,bool false,bool false,bool false,bool false] 143)).cell? ⟨0,75,none⟩=some (bool false):=a 75 (by decide);have c1:(w.alloc (cells #[bool false,bool false,bool false,bool false,bool false] 143)).cell? ⟨0,76,none⟩=some (bool false):=a 76 (by decide);have c2:(w.alloc (cells #[bool false,bool false,bool false,bool false,bool false] 143)).cell? ⟨0,77,none⟩=some (bool false):=a 77 (by decide);have c3:(w.alloc (cells #[bool false,bool false,bool false,bool false,bool false] 143)).cell? ⟨0,78,none⟩=some (bool false):=a 78 (by decide);have c4:(w.alloc (cells #[bool false,bool false,bool false,bool false,bool false] 143)).cell? ⟨0,79,none⟩=some (bool false):=a 79 (by decide);clear a h;go_enter Tryz.func80,Tryz.ntmps80
 go_wp2_with (go_at_call 75;refine(zau _ _ c _).mono ?_;rintro e w' ⟨rfl,rfl⟩)
 exact bodyPost_ret (v:=.agg #[bool false,bool false,bool false,bool false,bool false]) (by simp [results,Tryz.results80,go_sem]) rfl ⟨rfl,zbl⟩
theorem zq9(w:World)(h:KT w):Calls Tryz.prog 80 #[int i64 16] w (zhv 16 w):=by
 have b:Hid (Below w.heap.size w (w.alloc (cells #[bool false,bool false,bool false,bool false,bool false] 143))):=zhd (zbl);have a:=h.below b.out;have c:Hid (exK 16=true):=zhd (by decide);have c0:(w.alloc (cells #[bool false,bool false,bool false,bool false,bool false] 143)).cell? ⟨0,80,none⟩=some (bool false):=a 80 (by decide);have c1:(w.alloc (cells #[bool false,bool false,bool false,bool false,bool false] 143)).cell? ⟨0,81,none⟩=some (bool false):=a 81 (by decide);have c2:(w.alloc (cells #[bool false,bool false,bool false,bool false,bool false] 143)).cell? ⟨0,82,none⟩=some (bool false):=a 82 (by decide);have c3:(w.alloc (cells #[bool false,bool false,bool false,bool false,bool false] 143)).cell? ⟨0,83,none⟩=some (bool false):=a 83 (by decide);have c4:(w.alloc (cells #[bool false,bool false,bool false,bool false,bool false] 143)).cell? ⟨0,84,none⟩=some (bool true):=a 84 (by decide);clear a h;go_enter Tryz.func80,Tryz.ntmps80
 go_wp2_with (go_at_call 75;refine(zau _ _ c _).mono ?_;rintro e w' ⟨rfl,rfl⟩)
 exact bodyPost_ret (v:=.agg #[bool false,bool false,bool false,bool false,bool true]) (by simp [results,Tryz.results80,go_sem]) rfl ⟨rfl,zbl⟩
theorem zra(w:World)(h:KT w):Calls Tryz.prog 80 #[int i64 17] w (zhv 17 w):=by
 have b:Hid (Below w.heap.size w (w.alloc (cells #[bool false,bool false,bool false,bool false,bool false] 143))):=zhd (zbl);have a:=h.below b.out;have c:Hid (exK 17=true):=zhd (by decide);have c0:(w.alloc (cells #[bool false,bool false,bool false,bool false,bool false] 143)).cell? ⟨0,85,none⟩=some (bool false):=a 85 (by decide);have c1:(w.alloc (cells #[bool false,bool false,bool false,bool false,bool false] 143)).cell? ⟨0,86,none⟩=some (bool false):=a 86 (by decide);have c2:(w.alloc (cells #[bool false,bool false,bool false,bool false,bool false] 143)).cell? ⟨0,87,none⟩=some (bool false):=a 87 (by decide);have c3:(w.alloc (cells #[bool false,bool false,bool false,bool false,bool false] 143)).cell? ⟨0,88,none⟩=some (bool false):=a 88 (by decide);have c4:(w.alloc (cells #[bool false,bool false,bool false,bool false,bool false] 143)).cell? ⟨0,89,none⟩=some (bool false):=a 89 (by decide);clear a h;go_enter Tryz.func80,Tryz.ntmps80
 go_wp2_with (go_at_call 75;refine(zau _ _ c _).mono ?_;rintro e w' ⟨rfl,rfl⟩)
 exact bodyPost_ret (v:=.agg #[bool false,bool false,bool false,bool false,bool false]) (by simp [results,Tryz.results80,go_sem]) rfl ⟨rfl,zbl⟩
theorem zfP(k:Int)(w:World)(h:KT w):Calls Tryz.prog 80 #[int i64 k] w (zhv k w):=by
 cases hx:exK k
 ·obtain⟨b,e2,e3,a,c⟩:=zeq (zfq hx);have i:Hid (Below w.heap.size w (w.alloc (cells #[bool false,bool false,bool false,bool false,bool false] 143))):=zhd (zbl);have g:=zhd hx;have d:Hid (zvn k=.agg #[bool false,bool false,bool false,bool false,bool false]):=zhd (by unfold zvn;rw [b,e2,e3,a,c]);clear h hx b e2 e3 a c;go_enter Tryz.func80,Tryz.ntmps80
  go_wp2_with (go_at_call 75;refine(zau _ _ g _).mono ?_;rintro e w' ⟨rfl,rfl⟩)
  exact bodyPost_ret (v:=.agg #[bool false,bool false,bool false,bool false,bool false]) (by simp [results,Tryz.results80,go_sem]) rfl ⟨by rw [d.out],zbl⟩
 ·obtain⟨j,l⟩:=zdi hx;have hc:k=1\/k=2\/k=3\/k=4\/k=5\/k=6\/k=7\/k=8\/k=9\/k=10\/k=11\/k=12\/k=13\/k=14\/k=15\/k=16\/k=17:=by omega
  rcases hc with rfl|rfl|rfl|rfl|rfl|rfl|rfl|rfl|rfl|rfl|rfl|rfl|rfl|rfl|rfl|rfl|rfl
  ·exact ztd w h
  ·exact zte w h
  ·exact ztf w h
  ·exact ztg w h
  ·exact zth w h
  ·exact zti w h
  ·exact ztj w h
  ·exact ztk w h
  ·exact ztl w h
  ·exact zq3 w h
  ·exact zq4 w h
  ·exact zq5 w h
  ·exact zq6 w h
  ·exact zq7 w h
  ·exact zq8 w h
  ·exact zq9 w h
  ·exact zra w h
end
end Go.Proofs.YtahnjkkgojfdmaaGreatDoor
