import Derived.Test.YtahnjkkgojfdmaaGreatDoorMsA
import Derived.Test.YtahnjkkgojfdmaaGreatDoorRely
import Derived.StillTail
set_option maxRecDepth 100000
set_option maxHeartbeats 4000000
set_option linter.unusedVariables false
namespace Go.Proofs.YtahnjkkgojfdmaaGreatDoor
open Go.Obj(cells)
open Go.IntKind(i64)
open Go.Value(int slice bool)
section
open Go.RowKit Mem
theorem zkj(key:ByteArray)(s u o:Int)(has:Bool)(A:Option Addr)(m c:Nat)(C:(m:Int)<=9223372036854775807)(D:(key.size:Int)<=9223372036854775807)(w:World) :
 Calls Tryz.prog 107 #[zaT key s u o has A m c] w (IsI (zav key.size m s u o has) w):=by
 have j:Hid (Below w.heap.size w (w.alloc (zhm key s u o has A m c))):=zhd (zbl);obtain⟨g,d⟩:=zwD key.size m has;have b:=zjB s;rcases g with g|g|⟨g,r⟩<;>rcases d with d|⟨d,rfl⟩|⟨d,rfl,rfl⟩|⟨d,B,rfl⟩<;>rcases b with b|b
 all_goals try (cases has)
 all_goals
  go_enter Tryz.func107,Tryz.ntmps107
  go_wp2_with (first
   | (go_at_call 113;refine(zbB _ _ _ _ (by assumption) _).mono ?_;rintro e t ⟨rfl,a⟩;obtain⟨hc,x⟩:=zdE a;have h:=zhd (j.out.trans (a.mono j.out.size));clear a)
   | (go_at_call 136;refine(zhH _ _ _ _).mono ?_;rintro e v ⟨rfl,a⟩;have q:=zhd (h.out.trans (a.mono h.out.size));clear a))
  go_ret
  first
   | exact zal (zbt (by refine⟨by omega,by omega,by omega,by simp,?_⟩;rintro⟨i,k⟩;first|exact zgi b i|simp at k)).symm q.out
   | exact zal (zaP (by rintro⟨i,k,y,l,z,p⟩;first|omega|(simp at l;omega)|exact p ⟨zei b,rfl⟩)).symm h.out
end
section
open Go.RowKit Mem Be Rg
theorem zg5{α:Type}{a b:List α}{k:Nat}(d:k<a.length)(c:k<b.length)(ht:a.take k=b.take k)(h:a[k]=b[k]):a.take (k+1)=b.take (k+1):=by
 rw [List.take_succ_eq_append_getElem d,List.take_succ_eq_append_getElem c,ht,h]
theorem zom(B B' c c' n j:Nat)(A E:Option Addr)(a d:List Int)(w:World)(h:Row w B A (a.map iV))(t:Row w B' E (d.map iV))(r:n=a.length)(s:j=d.length)(hl:n<=maxLen)(z:j<=maxLen) :
 Calls Tryz.prog 141 #[slice A n c,slice E j c'] w (zss (bool (decide (a=d))) w):=by
 have X:(n:Int)<=9223372036854775807:=by unfold maxLen at hl;omega
 have aa:(j:Int)<=9223372036854775807:=by unfold maxLen at z;omega
 obtain⟨R,l⟩:∃ R,decide (a=d)=R:=⟨_,rfl⟩;rw [l];by_cases I:n=j
 ·subst I;have S:=zhd h;have Q:=zhd t;have N:=zhd r;have M:=zhd s;have G:=zhd l;have ae:(0:Int)<=(n:Int):=by omega
  clear h t r s l hl z;go_enter Tryz.func141,Tryz.ntmps141
  go_wp2;go_loopw [13] (fun i wr=>∃ k:Nat,k<=n/\i=int i64 k/\Hid (∃ q,wr=w.drewN q)/\Hid (a.take k=d.take k)) (fun i _=>n - (intOf i).toNat)
  case atStart=>exact⟨0,by omega,rfl,zhd ⟨0,rfl⟩,zhd rfl⟩
  case round=>
   obtain⟨k,hk,rfl,m,D⟩:=hrel;by_cases J:k<n
   ·have u:k<a.length:=by rw [<-N.out];exact J
    have K:k<d.length:=by rw [<-M.out];exact J
    obtain⟨b,o,rfl,_,hc⟩:=zcP (zcW S.out m.out) (by omega);obtain⟨V,o',rfl,_,L⟩:=zcP (zcW Q.out m.out) (by omega);have U:=hc k u;have T:=L k K;have v:Hid (a[k]≠d[k]->R=false):=zhd fun h=>by
     rw [<-G.out];exact decide_eq_false fun e=>h (List.getElem_of_eq e u)
    have C:Hid (a[k]=d[k]->a.take (k+1)=d.take (k+1)):=zhd fun h=>zg5 u K D.out h;obtain⟨x,O⟩:∃ x,a[k]=x:=⟨_,rfl⟩;obtain⟨y,F⟩:∃ y,d[k]=y:=⟨_,rfl⟩;rw [O] at U v C;rw [F] at T v C;have Z:(0:Int)<=(k:Int):=by omega
    have ab:(k:Int)<(n:Int):=by omega
    clear hc L O F;by_cases p:x=y
    ·subst p;have g:=zhd (C.out rfl);go_wp2;go_quiet (fail)
     go_wp2;go_roundw
     case rel=>exact⟨k+1,by omega,by go_num,zhd (by obtain⟨q,rfl⟩:=m.out;exact⟨_,World.drewN_drewN _ _ _⟩),g⟩
     case measure=>simp [intOf];omega
    ·have W:(x==y)=false:=by simpa using p
     have Y:(x != y)=true:=by simpa using p
     have g:=zhd (v.out p);go_wp2;go_quiet (fail)
     go_wp2;go_ret;exact⟨by rw [g.out];rfl,by obtain⟨q,rfl⟩:=m.out;exact⟨_,World.drewN_drewN _ _ _⟩⟩
   ·obtain rfl:k=n:=by omega
    have g:Hid (R=true):=zhd (by
     rw [<-G.out];refine decide_eq_true ?_;have:=D.out
     rwa [show a.take k=a by rw [N.out];exact List.take_length,show d.take k=d by rw [M.out];exact List.take_length] at this)
    go_wp2;go_ret;exact⟨by rw [g.out];rfl,m.out⟩
 ·have g:Hid (R=false):=zhd (by
   rw [<-l];exact decide_eq_false fun e=>I (by rw [r,s,e]))
  have hb:((n:Int)==(j:Int))=false:=by rw [beq_eq_false_iff_ne];omega
  have af:((n:Int) != (j:Int))=true:=by rw [bne_iff_ne];omega
  clear h t r s l hl z;go_enter Tryz.func141,Tryz.ntmps141
  go_wp2;go_ret;exact⟨by rw [g.out];rfl,0,rfl⟩
theorem zg6(B B' c c' n j:Nat)(A E:Option Addr)(a d:List Int)(w:World)(h:Row w B A (a.map iV))(t:Row w B' E (d.map iV))(r:n=a.length)(s:j=d.length)(hl:n<=maxLen)(z:j<=maxLen) :
 Calls Tryz.prog 74 #[slice A n c,slice E j c'] w (zss (bool (decide (a=d))) w):=by
 have X:(n:Int)<=9223372036854775807:=by unfold maxLen at hl;omega
 have aa:(j:Int)<=9223372036854775807:=by unfold maxLen at z;omega
 obtain⟨R,l⟩:∃ R,decide (a=d)=R:=⟨_,rfl⟩;rw [l];by_cases I:n=j
 ·subst I;have S:=zhd h;have Q:=zhd t;have N:=zhd r;have M:=zhd s;have G:=zhd l;have ae:(0:Int)<=(n:Int):=by omega
  clear h t r s l hl z;go_enter Tryz.func74,Tryz.ntmps74
  go_wp2;go_loopw [5] (fun i wr=>∃ k:Nat,k<=n/\i=int i64 k/\Hid (∃ q,wr=w.drewN q)/\Hid (a.take k=d.take k)) (fun i _=>n - (intOf i).toNat)
  case atStart=>exact⟨0,by omega,rfl,zhd ⟨0,rfl⟩,zhd rfl⟩
  case round=>
   obtain⟨k,hk,rfl,m,D⟩:=hrel;by_cases J:k<n
   ·have u:k<a.length:=by rw [<-N.out];exact J
    have K:k<d.length:=by rw [<-M.out];exact J
    obtain⟨b,o,rfl,_,hc⟩:=zcP (zcW S.out m.out) (by omega);obtain⟨V,o',rfl,_,L⟩:=zcP (zcW Q.out m.out) (by omega);have U:=hc k u;have T:=L k K;have v:Hid (a[k]≠d[k]->R=false):=zhd fun h=>by
     rw [<-G.out];exact decide_eq_false fun e=>h (List.getElem_of_eq e u)
    have C:Hid (a[k]=d[k]->a.take (k+1)=d.take (k+1)):=zhd fun h=>zg5 u K D.out h;obtain⟨x,O⟩:∃ x,a[k]=x:=⟨_,rfl⟩;obtain⟨y,F⟩:∃ y,d[k]=y:=⟨_,rfl⟩;rw [O] at U v C;rw [F] at T v C;have Z:(0:Int)<=(k:Int):=by omega
    have ab:(k:Int)<(n:Int):=by omega
    clear hc L O F;by_cases p:x=y
    ·subst p;have g:=zhd (C.out rfl);go_wp2;go_quiet (fail)
     go_wp2;go_roundw
     case rel=>exact⟨k+1,by omega,by go_num,zhd (by obtain⟨q,rfl⟩:=m.out;exact⟨_,World.drewN_drewN _ _ _⟩),g⟩
     case measure=>simp [intOf];omega
    ·have W:(x==y)=false:=by simpa using p
     have Y:(x != y)=true:=by simpa using p
     have g:=zhd (v.out p);go_wp2;go_quiet (fail)
     go_wp2;go_ret;exact⟨by rw [g.out];rfl,by obtain⟨q,rfl⟩:=m.out;exact⟨_,World.drewN_drewN _ _ _⟩⟩
   ·obtain rfl:k=n:=by omega
    have g:Hid (R=true):=zhd (by
     rw [<-G.out];refine decide_eq_true ?_;have:=D.out
     rwa [show a.take k=a by rw [N.out];exact List.take_length,show d.take k=d by rw [M.out];exact List.take_length] at this)
    go_wp2;go_ret;exact⟨by rw [g.out];rfl,m.out⟩
 ·have g:Hid (R=false):=zhd (by
   rw [<-l];exact decide_eq_false fun e=>I (by rw [r,s,e]))
  have hb:((n:Int)==(j:Int))=false:=by rw [beq_eq_false_iff_ne];omega
  have af:((n:Int) != (j:Int))=true:=by rw [bne_iff_ne];omega
  clear h t r s l hl z;go_enter Tryz.func74,Tryz.ntmps74
  go_wp2;go_ret;exact⟨by rw [g.out];rfl,0,rfl⟩
theorem zkz(A p:Option Addr)(n m c c':Nat)(ns i:List Int)(e k g j:Int)(C:n=ns.length)(B:m=i.length)(hl:n<=maxLen)(F:m<=maxLen)(w:World)(h:Row w w.heap.size A (ns.map iV))(D:Row w w.heap.size p (i.map iV)) :
 Calls Tryz.prog 112 #[.agg #[slice A n c,int i64 e,int i64 k],.agg #[slice p m c',int i64 g,int i64 j]] w (IsB (decide (ns=i/\e=g/\k=j)) w):=by
 have o:=zhd fun W (l:Below w.heap.size w W)=>zom _ _ c c' n m A p ns i W (h.below l) (D.below l) C B hl F;have a:Hid (Below w.heap.size w ((w.alloc (cells #[slice A n c,int i64 e,int i64 k] 49)).alloc (cells #[slice p m c',int i64 g,int i64 j] 49))):=zhd ((zbl).alloc (by simp) _);obtain⟨R,u⟩:∃ R,decide (ns=i/\e=g/\k=j)=R:=⟨_,rfl⟩;rw [u];obtain⟨b,l⟩:∃ b,decide (ns=i)=b:=⟨_,rfl⟩;rw [l] at o;have r:=zhd u;have E:=zhd l;clear h D C B hl F u l;have z:∀ (t:Bool) (W:World),R=t->Below w.heap.size w W->IsB R w (.returned (bool t)) W:=fun t W J G=>⟨by rw [J],G⟩;have s:=zhd z;clear z;cases b
 ·have d:Hid (R=false):=zhd (by rw [<-r.out];exact decide_eq_false fun h=>of_decide_eq_false E.out h.1);go_enter Tryz.func112,Tryz.ntmps112
  go_wp2_with fail
  refine(o.out _ a.out).mono ?_;rintro y w1 ⟨rfl,q,rfl⟩;go_wp2;go_ret;exact s.out _ _ d.out (a.out.trans (zaU _ _ _))
 ·by_cases v:e=g
  ·subst v;by_cases x:k=j
   ·subst x;have d:Hid (R=true):=zhd (by rw [<-r.out];exact decide_eq_true ⟨of_decide_eq_true E.out,rfl,rfl⟩);go_enter Tryz.func112,Tryz.ntmps112
    go_wp2_with fail
    refine(o.out _ a.out).mono ?_;rintro y w1 ⟨rfl,q,rfl⟩;go_wp2;go_ret;exact s.out _ _ d.out (a.out.trans (zaU _ _ _))
   ·have d:Hid (R=false):=zhd (by rw [<-r.out];exact decide_eq_false fun h=>x h.2.2);have I:(k==j)=false:=by simpa using x
    go_enter Tryz.func112,Tryz.ntmps112
    go_wp2_with fail
    refine(o.out _ a.out).mono ?_;rintro y w1 ⟨rfl,q,rfl⟩;go_wp2;go_ret;exact s.out _ _ d.out (a.out.trans (zaU _ _ _))
  ·have d:Hid (R=false):=zhd (by rw [<-r.out];exact decide_eq_false fun h=>v h.2.1);have I:(e==g)=false:=by simpa using v
   go_enter Tryz.func112,Tryz.ntmps112
   go_wp2_with fail
   refine(o.out _ a.out).mono ?_;rintro y w1 ⟨rfl,q,rfl⟩;go_wp2;go_ret;exact s.out _ _ d.out (a.out.trans (zaU _ _ _))
theorem zeb(A p:Option Addr)(n m c c':Nat)(ns i:List Int)(e k g j:Int)(C:n=ns.length)(B:m=i.length)(hl:n<=maxLen)(F:m<=maxLen)(w:World)(h:Row w w.heap.size A (ns.map iV))(D:Row w w.heap.size p (i.map iV)) :
 Calls Tryz.prog 49 #[.agg #[slice A n c,int i64 e,int i64 k],.agg #[slice p m c',int i64 g,int i64 j]] w (IsB (decide (ns=i/\e=g/\k=j)) w):=by
 have o:=zhd fun W (l:Below w.heap.size w W)=>zg6 _ _ c c' n m A p ns i W (h.below l) (D.below l) C B hl F;have a:Hid (Below w.heap.size w ((w.alloc (cells #[slice A n c,int i64 e,int i64 k] 49)).alloc (cells #[slice p m c',int i64 g,int i64 j] 49))):=zhd ((zbl).alloc (by simp) _);obtain⟨R,u⟩:∃ R,decide (ns=i/\e=g/\k=j)=R:=⟨_,rfl⟩;rw [u];obtain⟨b,l⟩:∃ b,decide (ns=i)=b:=⟨_,rfl⟩;rw [l] at o;have r:=zhd u;have E:=zhd l;clear h D C B hl F u l;have z:∀ (t:Bool) (W:World),R=t->Below w.heap.size w W->IsB R w (.returned (bool t)) W:=fun t W J G=>⟨by rw [J],G⟩;have s:=zhd z;clear z;cases b
 ·have d:Hid (R=false):=zhd (by rw [<-r.out];exact decide_eq_false fun h=>of_decide_eq_false E.out h.1);go_enter Tryz.func49,Tryz.ntmps49
  go_wp2_with fail
  refine(o.out _ a.out).mono ?_;rintro y w1 ⟨rfl,q,rfl⟩;go_wp2;go_ret;exact s.out _ _ d.out (a.out.trans (zaU _ _ _))
 ·by_cases v:e=g
  ·subst v;by_cases x:k=j
   ·subst x;have d:Hid (R=true):=zhd (by rw [<-r.out];exact decide_eq_true ⟨of_decide_eq_true E.out,rfl,rfl⟩);go_enter Tryz.func49,Tryz.ntmps49
    go_wp2_with fail
    refine(o.out _ a.out).mono ?_;rintro y w1 ⟨rfl,q,rfl⟩;go_wp2;go_ret;exact s.out _ _ d.out (a.out.trans (zaU _ _ _))
   ·have d:Hid (R=false):=zhd (by rw [<-r.out];exact decide_eq_false fun h=>x h.2.2);have I:(k==j)=false:=by simpa using x
    go_enter Tryz.func49,Tryz.ntmps49
    go_wp2_with fail
    refine(o.out _ a.out).mono ?_;rintro y w1 ⟨rfl,q,rfl⟩;go_wp2;go_ret;exact s.out _ _ d.out (a.out.trans (zaU _ _ _))
  ·have d:Hid (R=false):=zhd (by rw [<-r.out];exact decide_eq_false fun h=>v h.2.1);have I:(e==g)=false:=by simpa using v
   go_enter Tryz.func49,Tryz.ntmps49
   go_wp2_with fail
   refine(o.out _ a.out).mono ?_;rintro y w1 ⟨rfl,q,rfl⟩;go_wp2;go_ret;exact s.out _ _ d.out (a.out.trans (zaU _ _ _))
theorem zl2(key:ByteArray)(s u o:Int)(has:Bool)(A:Option Addr)(m c:Nat)(b:(key.size:Int)+(m:Int)<=9223372036854775807)(w:World) :
 Calls Tryz.prog 111 #[zaT key s u o has A m c] w (IsI ((key.size:Int)+(m:Int)) w):=by
 have a:Hid (Below w.heap.size w (w.alloc (zhm key s u o has A m c))):=zhd (zbl);go_enter Tryz.func111,Tryz.ntmps111
 go_wp2;go_ret;exact zal rfl a.out
theorem zkA(has:Bool)(A:Option Addr)(m c:Nat)(w:World):Calls Tryz.prog 140 #[zr0 has A m c,zr0 false none 0 0] w (IsB (!has) w):=by
 have a:Hid (Below w.heap.size w ((w.alloc (cells #[bool has,slice A m c] 44)).alloc (cells #[bool false,slice none 0 0] 44))):=zhd ((zbl).alloc (by simp) _);cases has
 ·go_enter Tryz.func140,Tryz.ntmps140
  go_wp2;go_ret;exact zaM rfl a.out
 ·go_enter Tryz.func140,Tryz.ntmps140
  go_wp2;go_ret;exact zaM rfl a.out
theorem zq1(k:ByteArray)(s u o:Int)(has:Bool)(A:Option Addr)(m c:Nat)(w:World) :
 Calls Tryz.prog 110 #[zaT k s u o has A m c,zaT ⟨#[]⟩ 0 0 0 false none 0 0] w (IsB (decide (k=⟨#[]⟩)&&(eqT s u o 0 0 0&&!has)) w):=by
 have b:Hid (Below w.heap.size w ((w.alloc (zhm k s u o has A m c)).alloc (zhm ⟨#[]⟩ 0 0 0 false none 0 0))):=zhd ((zbl).alloc (by simp) _);by_cases d:k=⟨#[]⟩
 ·subst d;rw [decide_eq_true rfl,Bool.true_and];have hq:=zgx s u o 0 0 0;cases he:eqT s u o 0 0 0
  ·rw [he] at hq;clear he;go_enter Tryz.func110,Tryz.ntmps110
   go_wp2;go_ret;exact zaM rfl b.out
  ·rw [he] at hq;rw [Bool.true_and];clear he;go_enter Tryz.func110,Tryz.ntmps110
   go_wp2_with (go_at_call 140;refine(zkA _ _ _ _ _).mono ?_;rintro e p ⟨rfl,i⟩;have j:=zhd (b.out.trans (i.mono b.out.size));clear i)
   go_ret;exact zaM rfl j.out
 ·have t:(k.toList==(⟨#[]⟩:ByteArray).toList)=false:=zfB d;rw [decide_eq_false d,Bool.false_and];have g:k.toList≠[]:=fun e=>d (by
   obtain⟨⟨l⟩⟩:=k;rw [ByteArray.toList_eq] at e;simp at e;rw [e])
  have v:(k.toList==[])=false:=by simpa using g
  have q:k.toList.isEmpty=false:=by cases h:k.toList with
   | nil=>exact absurd h g
   | cons a r=>rfl
  go_enter Tryz.func110,Tryz.ntmps110
  go_wp2;go_ret;exact zaM rfl b.out
end
section
open Go.RowKit Mem Be Rg
abbrev zwH(kind fr dst ep op n:Int)(flag:Bool)(key:ByteArray)(s u o:Int)(has:Bool)(A:Option Addr)(m c:Nat)(lA:Option Addr)(ln lc:Nat)(rA:Option Addr)(rn rc:Nat)(each keep:Int):Array Value:=#[int i64 kind,int i64 fr,int i64 dst,int i64 ep,int i64 op,int i64 n,bool flag,.string key,int i64 s,int i64 u,int i64 o,bool has,slice A m c,slice lA ln lc,slice rA rn rc,int i64 each,int i64 keep]
theorem zwj(a g b d c:Bool)(w:World):(Instr.index 143 (.agg #[bool a,bool g,bool b,bool d,bool c]) (int i64 0)).run Tryz.prog w=.ok (bool a) w:=by kernel_rfl
theorem zwk(b a c g d:Bool)(w:World):(Instr.index 143 (.agg #[bool b,bool a,bool c,bool g,bool d]) (int i64 1)).run Tryz.prog w=.ok (bool a) w:=by kernel_rfl
theorem zrb(b g a d c:Bool)(w:World):(Instr.index 143 (.agg #[bool b,bool g,bool a,bool d,bool c]) (int i64 2)).run Tryz.prog w=.ok (bool a) w:=by kernel_rfl
theorem zwl(b g c a d:Bool)(w:World):(Instr.index 143 (.agg #[bool b,bool g,bool c,bool a,bool d]) (int i64 3)).run Tryz.prog w=.ok (bool a) w:=by kernel_rfl
theorem zwm(b g c d a:Bool)(w:World):(Instr.index 143 (.agg #[bool b,bool g,bool c,bool d,bool a]) (int i64 4)).run Tryz.prog w=.ok (bool a) w:=by kernel_rfl
def zrc:Nat->List UInt8
 | 1=>[101]|2=>[110,102,101]|3=>[101]|4=>[101]|5=>[101]|6=>[110]|7=>[101]|8=>[101]|9=>[110,101]|10=>[101]|11=>[101]|12=>[110]|13=>[110,102,108]|14=>[110,102,108]|16=>[114]|_=>[]
theorem zu4(l:List UInt8)(k:Nat)(h:k<l.length)(a:l.length<=1000)(w:World):(Instr.slice 9 (.string ⟨l.toArray⟩) (some (int i64 (k:Int))) (some (int i64 ((k:Int)+1))) none).run Tryz.prog w=.ok (.string ⟨#[l[k]]⟩) w:=by
 have b:(({data:=l.toArray}:ByteArray).size:Int)=(l.length:Int):=by show((l.toArray.size:Nat):Int)=_;simp
 have c:({data:=l.toArray}:ByteArray).extract k (k+1)=⟨#[l[k]]⟩:=by
  apply ByteArray.ext;rw [ByteArray.data_extract];apply Array.ext
  ·simp;omega
  ·intro i d a;have:i=0:=by simp at a;omega
   subst this;simp
 simp [Instr.slice,run_underlying Tryz.underlying9,Instr.sliceBounds,Instr.sliceBound,asIntOf];rw [if_pos ⟨by omega,by rw [b];omega⟩,c]
theorem zrd(l:List UInt8):(⟨l.toArray⟩:ByteArray).size=l.length:=by show l.toArray.size=_;simp
abbrev zu5:List Value:=[.string ⟨#[]⟩,.string ⟨#[101]⟩,.string ⟨#[110,102,101]⟩,.string ⟨#[101]⟩,.string ⟨#[101]⟩,.string ⟨#[101]⟩,.string ⟨#[110]⟩,.string ⟨#[101]⟩,.string ⟨#[101]⟩,.string ⟨#[110,101]⟩,.string ⟨#[101]⟩,.string ⟨#[101]⟩,.string ⟨#[110]⟩,.string ⟨#[110,102,108]⟩,.string ⟨#[110,102,108]⟩,.string ⟨#[]⟩,.string ⟨#[114]⟩,.string ⟨#[]⟩]
theorem ztm(j:Nat):(zrc j).length<=3:=by unfold zrc;split<;>decide
theorem zre(j:Nat)(v:1<=j)(D:j<=17)(x:UInt8)(w:World):Calls Tryz.prog 47 #[int i64 (j:Int),.string ⟨#[x]⟩] w fun e w'=>e=.returned (bool ((zrc j).contains x))/\Below w.heap.size w w':=by
 have M:(1:Int)<=(j:Int):=by omega
 have I:(j:Int)<=17:=by omega
 have t:Below w.heap.size w (w.alloc (cells ⟨zu5⟩ 9)):=zbl;have s:=zhd t;have m:=Blk.new w 9 ⟨zu5⟩;have hc:(w.alloc (cells ⟨zu5⟩ 9)).cell? ⟨w.heap.size,j,none⟩=some (.string ⟨(zrc j).toArray⟩):=by
  have E:j=1\/j=2\/j=3\/j=4\/j=5\/j=6\/j=7\/j=8\/j=9\/j=10\/j=11\/j=12\/j=13\/j=14\/j=15\/j=16\/j=17:=by omega
  rcases E with rfl|rfl|rfl|rfl|rfl|rfl|rfl|rfl|rfl|rfl|rfl|rfl|rfl|rfl|rfl|rfl|rfl<;>exact m.cell _
 have d:=ztm j;obtain⟨S,q⟩:∃ S,zrc j=S:=⟨_,rfl⟩;rw [q] at hc d ⊢;have L:=zrd S;have K:(S.length:Int)<=3:=by omega
 have G:=zhd d;obtain⟨R,c⟩:∃ R,S.contains x=R:=⟨_,rfl⟩;rw [c];have p:=zhd c;clear c;clear m t q d v D;go_enter Tryz.func47,Tryz.ntmps47
 go_wp2;go_loop [7] (fun i=>∃ k:Nat,k<=S.length/\i=int i64 k/\Hid (x ∉ S.take k)) (fun i=>S.length - (intOf i).toNat)
 case atStart=>exact⟨0,by omega,rfl,zhd (by simp)⟩
 case round=>
  obtain⟨k,m,rfl,r⟩:=hrel;by_cases g:k<S.length
  ·have hcut:=fun W=>zu4 S k g (by have:=G.out;omega) W;have u:Hid (S[k]≠x->x ∉ S.take (k+1)):=zhd fun A a=>by
    rw [List.take_succ_eq_append_getElem g] at a;rcases List.mem_append.1 a with a|a
    ·exact r.out a
    ·exact A (by simpa using (List.mem_singleton.1 a).symm)
   have o:Hid (S[k]=x->R=true):=zhd fun z=>by
    rw [<-p.out,List.contains_iff_mem];exact z▸List.getElem_mem g
   obtain⟨y,l⟩:∃ y,S[k]=y:=⟨_,rfl⟩;rw [l] at u o;simp only [l] at hcut;clear l;by_cases b:y=x
   ·subst b;have C:=zhd (o.out rfl);go_wp2;go_ret;exact⟨by rw [C.out];rfl,s.out⟩
   ·have hne:¬ (⟨#[y]⟩:ByteArray)=⟨#[x]⟩:=fun e=>b (by injection e with e;simpa using e);have N:=zfB hne;have B:=zhd (u.out b);have J:(y==x)=false:=by simpa using b
    go_wp2;go_round
    case rel=>exact⟨k+1,by omega,by go_num,B⟩
    case measure=>simp [intOf];omega
  ·obtain rfl:k=S.length:=by omega
   have F:Hid (R=false):=zhd (by
    rw [<-p.out];have:=r.out;rw [List.take_length] at this;cases h:S.contains x
    ·rfl
    ·exact absurd (List.contains_iff_mem.1 h) this)
   go_wp2;go_ret;exact⟨by rw [F.out];rfl,s.out⟩
theorem zdA(k:Int)(x:UInt8)(w:World):Calls Tryz.prog 47 #[int i64 k,.string ⟨#[x]⟩] w fun e w'=>e=.returned (bool (exK k&&(zrc k.toNat).contains x))/\Below w.heap.size w w':=by
 cases h:exK k
 ·rcases zfq h with a|a
  ·clear h;go_enter Tryz.func47,Tryz.ntmps47
   go_wp2;go_ret;exact⟨rfl,Below.refl _ _⟩
  ·have b:1<=k:=by omega
   clear h;go_enter Tryz.func47,Tryz.ntmps47
   go_wp2;go_ret;exact⟨rfl,Below.refl _ _⟩
 ·obtain⟨a,b⟩:=zdi h;obtain⟨j,rfl⟩:∃ j:Nat,k=(j:Int):=⟨k.toNat,by omega⟩;rw [Int.toNat_natCast,Bool.true_and];exact zre j (by omega) (by omega) x w
theorem zwn(k:Int):(exK k&&(zrc k.toNat).contains 110)=zfO k:=by
 cases h:exK k
 ·obtain⟨d,e2,e3,a,g⟩:=zeq (zfq h);rw [Bool.false_and];exact Eq.symm (by assumption)
 ·obtain⟨b,c⟩:=zdi h;have hc:k=1\/k=2\/k=3\/k=4\/k=5\/k=6\/k=7\/k=8\/k=9\/k=10\/k=11\/k=12\/k=13\/k=14\/k=15\/k=16\/k=17:=by omega
  rcases hc with rfl|rfl|rfl|rfl|rfl|rfl|rfl|rfl|rfl|rfl|rfl|rfl|rfl|rfl|rfl|rfl|rfl<;>rfl
theorem zrf(k:Int)(w:World):Calls Tryz.prog 47 #[int i64 k,.string ⟨#[110]⟩] w fun e w'=>e=.returned (bool (zfO k))/\Below w.heap.size w w':=by
 have:=zdA k 110 w;rw [zwn] at this;exact this
theorem zwo(k:Int):(exK k&&(zrc k.toNat).contains 102)=zf2 k:=by
 cases h:exK k
 ·obtain⟨d,e2,e3,a,g⟩:=zeq (zfq h);rw [Bool.false_and];exact Eq.symm (by assumption)
 ·obtain⟨b,c⟩:=zdi h;have hc:k=1\/k=2\/k=3\/k=4\/k=5\/k=6\/k=7\/k=8\/k=9\/k=10\/k=11\/k=12\/k=13\/k=14\/k=15\/k=16\/k=17:=by omega
  rcases hc with rfl|rfl|rfl|rfl|rfl|rfl|rfl|rfl|rfl|rfl|rfl|rfl|rfl|rfl|rfl|rfl|rfl<;>rfl
theorem zrg(k:Int)(w:World):Calls Tryz.prog 47 #[int i64 k,.string ⟨#[102]⟩] w fun e w'=>e=.returned (bool (zf2 k))/\Below w.heap.size w w':=by
 have:=zdA k 102 w;rw [zwo] at this;exact this
theorem zwp(k:Int):(exK k&&(zrc k.toNat).contains 101)=zh5 k:=by
 cases h:exK k
 ·obtain⟨d,e2,e3,a,g⟩:=zeq (zfq h);rw [Bool.false_and];exact Eq.symm (by assumption)
 ·obtain⟨b,c⟩:=zdi h;have hc:k=1\/k=2\/k=3\/k=4\/k=5\/k=6\/k=7\/k=8\/k=9\/k=10\/k=11\/k=12\/k=13\/k=14\/k=15\/k=16\/k=17:=by omega
  rcases hc with rfl|rfl|rfl|rfl|rfl|rfl|rfl|rfl|rfl|rfl|rfl|rfl|rfl|rfl|rfl|rfl|rfl<;>rfl
theorem zkC(k:Int)(w:World):Calls Tryz.prog 47 #[int i64 k,.string ⟨#[101]⟩] w fun e w'=>e=.returned (bool (zh5 k))/\Below w.heap.size w w':=by
 have:=zdA k 101 w;rw [zwp] at this;exact this
theorem zwq(k:Int):(exK k&&(zrc k.toNat).contains 108)=zf3 k:=by
 cases h:exK k
 ·obtain⟨d,e2,e3,a,g⟩:=zeq (zfq h);rw [Bool.false_and];exact Eq.symm (by assumption)
 ·obtain⟨b,c⟩:=zdi h;have hc:k=1\/k=2\/k=3\/k=4\/k=5\/k=6\/k=7\/k=8\/k=9\/k=10\/k=11\/k=12\/k=13\/k=14\/k=15\/k=16\/k=17:=by omega
  rcases hc with rfl|rfl|rfl|rfl|rfl|rfl|rfl|rfl|rfl|rfl|rfl|rfl|rfl|rfl|rfl|rfl|rfl<;>rfl
theorem zrh(k:Int)(w:World):Calls Tryz.prog 47 #[int i64 k,.string ⟨#[108]⟩] w fun e w'=>e=.returned (bool (zf3 k))/\Below w.heap.size w w':=by
 have:=zdA k 108 w;rw [zwq] at this;exact this
theorem zwr(k:Int):(exK k&&(zrc k.toNat).contains 114)=zkT k:=by
 cases h:exK k
 ·obtain⟨d,e2,e3,a,g⟩:=zeq (zfq h);rw [Bool.false_and];exact Eq.symm (by assumption)
 ·obtain⟨b,c⟩:=zdi h;have hc:k=1\/k=2\/k=3\/k=4\/k=5\/k=6\/k=7\/k=8\/k=9\/k=10\/k=11\/k=12\/k=13\/k=14\/k=15\/k=16\/k=17:=by omega
  rcases hc with rfl|rfl|rfl|rfl|rfl|rfl|rfl|rfl|rfl|rfl|rfl|rfl|rfl|rfl|rfl|rfl|rfl<;>rfl
theorem zri(k:Int)(w:World):Calls Tryz.prog 47 #[int i64 k,.string ⟨#[114]⟩] w fun e w'=>e=.returned (bool (zkT k))/\Below w.heap.size w w':=by
 have:=zdA k 114 w;rw [zwr] at this;exact this
end
section
open Go.RowKit Mem
namespace Tail
section
variable {P : Program} {ops : Array Oper} {md : Region.Mode} {C : World → Prop}
def zrj(P:Program)(md:Region.Mode)(ops:Array Oper)(C:World->Prop)(n:Nat)(L:Array Bool->Act->Prop):Nat->Array Bool->Act->Prop
 | 0,done,a=>L done a
 | f+1,done,a=>Region.ready md ops done≠[]/\∀ i∈Region.ready md ops done,i<n/\qOp P ops C i (zrj P md ops C n L f (done.setIfInBounds i true)) a
theorem any_of_ahead{n g:Nat}{L:Array Bool->Act->Prop}{Q:Exit->Act->World->Prop}(k:∀ done a w,C w->L done a->wpAny P md ops Q g done a w) :
 ∀ (f:Nat) (done:Array Bool) (a:Act) (w:World),C w->zrj P md ops C n L f done a->wpAny P md ops Q (f+g) done a w:=by
 intro f
 induction f with
 | zero=>intro done a w b h;rw [Nat.zero_add];exact k _ _ _ b h
 | succ f ih=>
  intro done a w b h;rw [show f+1+g=(f+g)+1 by omega];exact⟨fun j=>absurd j h.1,fun i l=>wpOp_of_qOp b (fun d w' hw' c=>ih _ d w' hw' c) (h.2 i l).2⟩
theorem zl3{n i:Nat}{p:Oper}{v:Value}{L:Array Bool->Act->Prop}(t:ops[i]?=some p)(D:∀ (j:Nat) (o:Oper) m b,ops[j]?=some o->o.op≠.select m b)
 (x:Region.sinkB md ops n=true) (hc:Region.chainB md ops n=true) (z:n<ops.size) (y:i<n) (J:∀ done a,L done a->∀ j∈Region.ready md ops done,n<=j) :
 ∀ (f:Nat) (done:Array Bool) (a:Act),HeadInv md ops n done->
  (∀ j g,ops[j]?=some g->j≠i->done.getD j true=false->(∀ e∈g.after,Region.binds md e=true->e.on≠i)->p.apart ops g=true)->
  i∈Region.ready md ops done->YieldsIn P ops C p v a->zrj P md ops C n L f (done.setIfInBounds i true) (a.put p.dst v)->zrj P md ops C n L (f+1) done a:=by
 intro f
 induction f with
 | zero=>
  intro done a inv _ l q H;refine⟨List.ne_nil_of_mem l,fun j d=>?_⟩;have r:j<n:=Nat.lt_of_not_le fun h=>tail_waits x hc z inv _ i rfl y (mem_ready.1 l).1 j h d;refine⟨r,?_⟩;rcases Nat.decEq j i with c|c
  ·exact absurd (J _ _ H j (ready_mono d c)) (by omega)
  ·subst c;exact q.qOp t H
 | succ f ih=>
  intro done a inv u l q H;refine⟨List.ne_nil_of_mem l,fun j d=>?_⟩;have r:j<n:=Nat.lt_of_not_le fun h=>tail_waits x hc z inv _ i rfl y (mem_ready.1 l).1 j h d;refine⟨r,?_⟩;rcases Nat.decEq j i with c|c
  ·obtain⟨B,g,s,Q⟩:=mem_ready.1 d;have K:∀ e∈g.after,Region.binds md e=true->e.on≠i:=by
    intro e M R U;have A:=Q e M R;rw [U,getD_both (mem_ready.1 l).1] at A;cases A
   have T:=qOp_put s (u j g s c B K) (fun m b=>D i p m b t) (fun m b=>D j g m b s) q (H.2 j (ready_mono d c)).2;refine qOp_mono (fun O E=>ih (done.setIfInBounds j true) O (inv.set d r) ?_ (ready_mono l (Ne.symm c)) E.1 (by rw [Array.setIfInBounds_comm _ _ c];exact E.2)) T;intro k ok S N G I;refine u k ok S N ?_ I;by_cases F:j=k
   ·rw [<-F];exact B
   ·rwa [getD_set_ne true F] at G
  ·subst c;exact q.qOp t H
theorem ahead_lex{n g:Nat}{d:Act->Prop}(t:Region.noSelect ops=true)(u:Region.sinkB md ops n=true)(hc:Region.chainB md ops n=true)(y:n<ops.size) :
 ∀ (l:List Oper) (k:Nat) (done:Array Bool) (a:Act),(∀ j,j<l.length->l[j]?=ops[k+j]?)->k+l.length=n->HeadInv md ops n done->
 Region.lexHead md ops g l.length k done=true->wpQuiet P ops C d l a->zrj P md ops C n (fun s r=>Region.seqB md ops g n s=true/\d r) l.length done a:=by
 intro l
 induction l with
 | nil=>
  intro k done a _ i _ b h;obtain rfl:k=n:=by simpa using i
  exact⟨by simpa [Region.lexHead] using b,h⟩
 | cons o l ih=>
  intro k done a hl i inv b h;have c:ops[k]?=some o:=by simpa using (hl 0 (by simp)).symm
  simp only [List.length_cons] at i;simp only [List.length_cons,Region.lexHead,Bool.and_eq_true] at b;have m:k∈Region.ready md ops done:=by simpa using b.1.1
  obtain⟨v,p,q⟩:=yieldsIn_of_qOp (K:=wpQuiet P ops C d l) c (by unfold qOp;simp only [c];exact h);exact zl3 c (Region.noSelect_spec t) u hc y (by omega) (fun _ _ x=>seqB_ready x.1) l.length done a inv (Region.free_spec c b.1.2) m p
   (ih (k+1) _ _ (fun j z=>by have:=hl (j+1) (by simp;omega);simpa [Nat.add_assoc,Nat.add_comm 1 j] using this) (by omega) (inv.set m (by omega)) b.2 q)
end
end Tail
theorem za8{P:Program}{id:Nat}{Q:Exit->Act->World->Prop}{a:Act}{w:World}{l:List Oper}(n:Nat)(v:P.follows .mixedOrders=true)(d:Region.lexTailB .any l.toArray n=true)
 (h:wpQuiet P l.toArray (fun w'=>∃ p:Later w,w'=p.world) (fun c=>∀ w',(∃ p:Later w,w'=p.world)->wpList P l.toArray Q (l.drop n) c w') (l.take n) a):(Code.region id l.toArray true).wp P Q a w:=by
 simp only [Region.lexTailB,Bool.and_eq_true,decide_eq_true_eq] at d;obtain⟨⟨⟨⟨u,m⟩,q⟩,hc⟩,s⟩:=d;have y:n<l.length:=by simpa using m
 have b:(l.take n).length=n:=by rw [List.length_take];omega
 have k:(l.drop n).length=l.toArray.size - n:=by simp
 have r:HeadInv .any l.toArray n (Array.replicate l.toArray.size false):=
  ⟨by simp,fun j x _ hl=>(by rw [getD_replicate_false] at hl;cases hl),fun t _ ht=>getD_in (by simpa using ht) (getD_replicate_false _ _)⟩
 have H:=Tail.ahead_lex (C:=fun w'=>∃ p:Later w,w'=p.world) (md:=.any) (g:=l.toArray.size - n) u q hc m (l.take n) 0 _ a (fun j i=>by
  rw [b] at i;simp [i]) (by simpa using b) r (by rw [b];exact s) h
 have:=Tail.any_of_ahead (Q:=Q) (g:=l.toArray.size - n) (fun done c w' hw' o=>by
  have:=wpAny_of_seq (md:=.any) (Q':=Q) (l.drop n) n done c w' (fun j=>by simp [List.getElem?_drop]) (by rw [k];exact o.1) (o.2 w' hw')
  rwa [k] at this) _ _ _ w.drew ⟨⟨w.drew,(Below.refl _ _).drew⟩,rfl⟩ H
 rw [b,show n+(l.toArray.size - n)=l.toArray.size by omega] at this;exact wp_region_any v this
end
section
open Go.RowKit Mem Be Rg
theorem zes(l:List UInt8):(⟨l.toArray⟩:ByteArray).size=l.length:=zrd l
structure EvB (w:World) (x:EV):Prop where
 row:Row w w.heap.size x.2.1 (x.1.v.map zaa)
 len:x.1.v.length<=maxLen
 klen:x.1.k.length<=maxLen
 cap:x.1.v.length<=x.2.2
theorem EvB.leni{w:World}{x:EV}(h:EvB w x):(x.1.v.length:Int)<=9223372036854775807:=by have:=h.len;unfold maxLen at this;omega
theorem EvB.kleni{w:World}{x:EV}(h:EvB w x):(x.1.k.length:Int)<=9223372036854775807:=by have:=h.klen;unfold maxLen at this;omega
theorem EvB.below{w w':World}{x:EV}(h:EvB w x)(hb:Below w.heap.size w w'):EvB w' x:=⟨(h.row.below hb).more hb.size,h.len,h.klen,h.cap⟩
theorem EvB.ok{w:World}{x:EV}(h:EvB w x)(hl:x.1.v.length<=1073741824):ValOk w x.1.has x.2.1 x.1.v x.2.2:=⟨h.row,by omega,h.cap⟩
structure EntsB (w:World) (A:Option Addr) (us:List EV):Prop where
 row:Row w w.heap.size A (zaG us)
 val:∀ x∈us,EvB w x
theorem EntsB.below{w w':World}{A:Option Addr}{us:List EV}(h:EntsB w A us)(hb:Below w.heap.size w w'):EntsB w' A us:=⟨(h.row.below hb).more hb.size,fun x hx=>(h.val x hx).below hb⟩
structure MV where
 kind:Int
 fr:Int
 dst:Int
 ep:Int
 op:Int
 n:Int
 flag:Bool
 e:EV
 lA:Option Addr
 l:List EV
 lc:Nat
 rA:Option Addr
 ns:List Int
 rc:Nat
 each:Int
 keep:Int
def mP(x:MV):MsgP:=⟨x.kind,x.fr,x.dst,x.ep,x.op,x.n,x.flag,x.e.1,x.l.map Prod.fst,x.ns,x.each,x.keep⟩
structure MsgM (w:World) (x:MV):Prop where
 ev:EvB w x.e
 en:EntsB w x.lA x.l
 ln:x.l.length<=maxLen
 rn:Row w w.heap.size x.rA (x.ns.map iV)
 rl:x.ns.length<=maxLen
theorem MsgM.below{w w':World}{x:MV}(h:MsgM w x)(hb:Below w.heap.size w w'):MsgM w' x:=⟨h.ev.below hb,h.en.below hb,h.ln,(h.rn.below hb).more hb.size,h.rl⟩
theorem zl4(x:EntP)(r:Int)(h:zav x.k.length x.v.length x.s x.u x.o x.has=r):decide (okE x)=(r==0):=by
 by_cases a:r=0
 ·subst a;rw [decide_eq_true (show okE x from h)];rfl
 ·rw [decide_eq_false (show ¬ okE x from fun e=>a (h.symm.trans e))];simp [a]
theorem zg7(x:EV)(a:(x.1.v.length:Int)<=9223372036854775807)(b:(x.1.k.length:Int)<=9223372036854775807)(w:World) :
 Calls Tryz.prog 107 #[.agg #[.string ⟨x.1.k.toArray⟩,int i64 x.1.s,int i64 x.1.u,int i64 x.1.o,bool x.1.has,slice x.2.1 x.1.v.length x.2.2]] w (IsI (zav x.1.k.length x.1.v.length x.1.s x.1.u x.1.o x.1.has) w):=by
 have:=zkj ⟨x.1.k.toArray⟩ x.1.s x.1.u x.1.o x.1.has x.2.1 x.1.v.length x.2.2 a (by rw [zes];exact b) w;rw [zes] at this;exact this
theorem zoo(x:EV)(i:(x.1.v.length:Int)<=9223372036854775807)(j:(x.1.k.length:Int)<=9223372036854775807)(w:World) :
 Calls Tryz.prog 138 #[.agg #[.string ⟨x.1.k.toArray⟩,int i64 x.1.s,int i64 x.1.u,int i64 x.1.o,bool x.1.has,slice x.2.1 x.1.v.length x.2.2]] w (IsB (!decide (okE x.1)) w):=by
 have b:Hid (Below w.heap.size w (w.alloc (cells #[.string ⟨x.1.k.toArray⟩,int i64 x.1.s,int i64 x.1.u,int i64 x.1.o,bool x.1.has,slice x.2.1 x.1.v.length x.2.2] 46))):=zhd (zbl);have g:=zhd fun W=>zg7 x i j W;obtain⟨r,h⟩:∃ r,zav x.1.k.length x.1.v.length x.1.s x.1.u x.1.o x.1.has=r:=⟨_,rfl⟩;rw [zl4 x.1 r h];rw [h] at g;clear h i j;by_cases c:r=0
 ·subst c;go_enter Tryz.func138,Tryz.ntmps138
  go_wp2_with (go_at_call 107;refine(g.out _).mono ?_;rintro e m ⟨rfl,a⟩;have d:=zhd (b.out.trans (a.mono b.out.size));clear a)
  go_ret;exact⟨rfl,d.out⟩
 ·have p:(r != 0)=true:=by simpa using c
  have l:Hid ((r==0)=false):=zhd (by simpa using c);clear c;go_enter Tryz.func138,Tryz.ntmps138
  go_wp2_with (go_at_call 107;refine(g.out _).mono ?_;rintro e m ⟨rfl,a⟩;have d:=zhd (b.out.trans (a.mono b.out.size));clear a)
  go_ret;exact⟨by rw [l.out];rfl,d.out⟩
theorem zop(x:EV)(b:Bool)(a:decide (okE x.1)=b)(d:(x.1.v.length:Int)<=9223372036854775807)(c:(x.1.k.length:Int)<=9223372036854775807)(w:World) :
 Calls Tryz.prog 138 #[.agg #[.string ⟨x.1.k.toArray⟩,int i64 x.1.s,int i64 x.1.u,int i64 x.1.o,bool x.1.has,slice x.2.1 x.1.v.length x.2.2]] w (IsB (!b) w):=by
 rw [<-a];exact zoo x d c w
def IdxP(us:List EV)(w:World)(e:Ending)(w':World):Prop:=(∃ i:Int,e=.returned (int i64 i)/\decide (0<=i)=!zjp (us.map Prod.fst))/\Below w.heap.size w w'
theorem zrk{a:List EV}(h:∀ x∈a,okE x.1):zjp (a.map Prod.fst)=true:=zi7.2 fun x c=>by
 obtain⟨y,b,rfl⟩:=List.mem_map.1 c;exact h y b
theorem zu6{a:List EV}{x:EV}(b:x∈a)(h:¬ okE x.1):zjp (a.map Prod.fst)=false:=by
 cases ha:zjp (a.map Prod.fst)
 ·rfl
 ·exact absurd (zi7.1 ha x.1 (List.mem_map.2 ⟨x,b,rfl⟩)) h
theorem zu7(A:Option Addr)(n c:Nat)(a:List EV)(y:n=a.length)(hl:n<=maxLen)(w:World)(h:EntsB w A a) :
 Calls Tryz.prog 165 #[slice A n c,.func (.func 138) #[] #[]] w (IdxP a w):=by
 have B:=zhd y;have H:=zhd h;have J:(n:Int)<=9223372036854775807:=by unfold maxLen at hl;omega
 have M:(0:Int)<=(n:Int):=by omega
 clear y h hl;go_enter Tryz.func165,Tryz.ntmps165
 go_wp2;go_loopw [8] (fun i wr=>∃ k:Nat,k<=n/\i=int i64 k/\Hid (Below w.heap.size w wr)/\Hid (∀ x∈a.take k,okE x.1)) (fun i _=>n - (intOf i).toNat)
 case atStart=>exact⟨0,by omega,rfl,zhd (Below.refl _ _),zhd (by simp)⟩
 case round=>
  obtain⟨k,N,rfl,l,C⟩:=hrel;by_cases G:k<n
  ·have q:k<a.length:=by rw [<-B.out];exact G
   have v:=H.out.below l.out;obtain⟨b,o,rfl,d,hc⟩:=zbc v.row (by omega);obtain⟨a0,F,E,a3,a4,a5⟩:=hc k q;have r:=v.val a[k] (List.getElem_mem q);have z:Hid (¬ okE a[k].1->zjp (a.map Prod.fst)=false):=zhd fun h=>zu6 (List.getElem_mem q) h;have D:Hid (okE a[k].1->∀ x∈a.take (k+1),okE x.1):=zhd fun h x g=>by
    rw [List.take_succ_eq_append_getElem q] at g;rcases List.mem_append.1 g with g|g
    ·exact C.out x g
    ·rw [List.mem_singleton.1 g];exact h
   obtain⟨x,g⟩:∃ p,a[k]'q=p:=⟨_,rfl⟩;rw [g] at a0 F E a3 a4 a5 r z D;have K:(0:Int)<=(k:Int):=by omega
   have L:(k:Int)<(n:Int):=by omega
   have s:=zhd fun b d W=>zop x b d r.leni r.kleni W;clear hc g r v d;by_cases j:okE x.1
   ·have u:=zhd (s.out true (decide_eq_true j));have m:=zhd (D.out j);clear j s;go_wp2_with (go_at_call 138;refine(u.out _).mono ?_;rintro e I ⟨rfl,d⟩;have t:=zhd (l.out.trans (d.mono l.out.size));clear d)
    go_roundw
    case rel=>exact⟨k+1,by omega,by go_num,t,m⟩
    case measure=>simp [intOf];omega
   ·have u:=zhd (s.out false (decide_eq_false j));have m:=zhd (z.out j);clear j s;go_wp2_with (go_at_call 138;refine(u.out _).mono ?_;rintro e I ⟨rfl,d⟩;have t:=zhd (l.out.trans (d.mono l.out.size));clear d)
    go_ret;exact⟨⟨(k:Int),rfl,by rw [m.out];simp⟩,t.out⟩
  ·obtain rfl:k=n:=by omega
   have m:Hid (zjp (a.map Prod.fst)=true):=zhd (zrk (by have:=C.out;rw [B.out,List.take_length] at this;exact this));go_wp2;go_ret;exact⟨⟨-1,rfl,by rw [m.out];rfl⟩,l.out⟩
theorem zkD(A:Option Addr)(n c:Nat)(a:List EV)(d:n=a.length)(hl:n<=maxLen)(w:World)(h:EntsB w A a) :
 Calls Tryz.prog 137 #[slice A n c,.func (.func 138) #[] #[]] w (IsB (!zjp (a.map Prod.fst)) w):=by
 have k:=zhd (zu7 A n c a d hl w h);clear d hl h;go_enter Tryz.func137,Tryz.ntmps137
 go_wp2_with fail
 refine k.out.mono ?_;rintro e w1 ⟨⟨i,rfl,g⟩,b⟩;have l:=zhd g;have j:=zhd b;clear g b;go_wp2;go_ret;exact⟨by rw [<-l.out];rfl,j.out⟩
theorem zkE(A:Option Addr)(n c:Nat)(a:List EV)(d:n=a.length)(hl:n<=maxLen)(w:World)(h:EntsB w A a) :
 Calls Tryz.prog 108 #[slice A n c] w (IsB (zjp (a.map Prod.fst)) w):=by
 have i:=zhd (zkD A n c a d hl w h);clear d hl h;go_enter Tryz.func108,Tryz.ntmps108
 go_wp2_with fail
 refine i.out.mono ?_;rintro e w1 ⟨rfl,b⟩;have g:=zhd b;clear b;go_wp2;go_ret;exact⟨by simp,g.out⟩
theorem zl5(A:Option Addr)(n c:Nat)(ns:List Int)(e k:Int)(a:n=ns.length)(hl:n<=maxLen)(w:World)(h:Row w w.heap.size A (ns.map iV)) :
 Calls Tryz.prog 109 #[.agg #[slice A n c,int i64 e,int i64 k]] w (IsI (if OkR ns e k then 0 else 2) w):=by
 by_cases ok:OkR ns e k
 ·rw [if_pos ok];exact zs9 A n c ns e k a ok w h
 ·rw [if_neg ok];exact zqZ A n c ns e k a hl ok w h
def zrl(m:MsgP)(w:World)(e:Ending)(w':World):Prop:=e=.returned (b5 (rN m) true (rE m) (rL m) (rR m))/\Below w.heap.size w w'
theorem zoq(x:MV)(w:World)(h:MsgM w x):Calls Tryz.prog 78 #[.agg #[int i64 x.kind,int i64 x.fr,int i64 x.dst,int i64 x.ep,int i64 x.op,int i64 x.n,bool x.flag,.string ⟨x.e.1.k.toArray⟩,int i64 x.e.1.s,int i64 x.e.1.u,int i64 x.e.1.o,bool x.e.1.has,slice x.e.2.1 x.e.1.v.length x.e.2.2,slice x.lA x.l.length x.lc,slice x.rA x.ns.length x.rc,int i64 x.each,int i64 x.keep]] w (zrl (mP x) w):=by
 have g:Below w.heap.size w ((w.alloc (cells #[int i64 x.kind,int i64 x.fr,int i64 x.dst,int i64 x.ep,int i64 x.op,int i64 x.n,bool x.flag,.string ⟨x.e.1.k.toArray⟩,int i64 x.e.1.s,int i64 x.e.1.u,int i64 x.e.1.o,bool x.e.1.has,slice x.e.2.1 x.e.1.v.length x.e.2.2,slice x.lA x.l.length x.lc,slice x.rA x.ns.length x.rc,int i64 x.each,int i64 x.keep] 51)).alloc (cells #[bool false,bool false,bool false,bool false,bool false] 143)):=(zbl).alloc (by simp) _;obtain⟨d,C⟩:∃ d,(w.alloc (cells #[int i64 x.kind,int i64 x.fr,int i64 x.dst,int i64 x.ep,int i64 x.op,int i64 x.n,bool x.flag,.string ⟨x.e.1.k.toArray⟩,int i64 x.e.1.s,int i64 x.e.1.u,int i64 x.e.1.o,bool x.e.1.has,slice x.e.2.1 x.e.1.v.length x.e.2.2,slice x.lA x.l.length x.lc,slice x.rA x.ns.length x.rc,int i64 x.each,int i64 x.keep] 51)).alloc (cells #[bool false,bool false,bool false,bool false,bool false] 143)=d:=⟨_,rfl⟩;have c:Blk d w.heap.size 51 #[int i64 x.kind,int i64 x.fr,int i64 x.dst,int i64 x.ep,int i64 x.op,int i64 x.n,bool x.flag,.string ⟨x.e.1.k.toArray⟩,int i64 x.e.1.s,int i64 x.e.1.u,int i64 x.e.1.o,bool x.e.1.has,slice x.e.2.1 x.e.1.v.length x.e.2.2,slice x.lA x.l.length x.lc,slice x.rA x.ns.length x.rc,int i64 x.each,int i64 x.keep]:=by rw [<-C];exact(Blk.new w _ _).alloc _
 have S:Blk d (w.heap.size+1) 143 #[bool false,bool false,bool false,bool false,bool false]:=by rw [<-C];have:=Blk.new (w.alloc (cells #[int i64 x.kind,int i64 x.fr,int i64 x.dst,int i64 x.ep,int i64 x.op,int i64 x.n,bool x.flag,.string ⟨x.e.1.k.toArray⟩,int i64 x.e.1.s,int i64 x.e.1.u,int i64 x.e.1.o,bool x.e.1.has,slice x.e.2.1 x.e.1.v.length x.e.2.2,slice x.lA x.l.length x.lc,slice x.rA x.ns.length x.rc,int i64 x.each,int i64 x.keep] 51)) 143 #[bool false,bool false,bool false,bool false,bool false];rw [World.size_alloc] at this;exact this
 rw [C] at g;have H:=zhd (h.below g);have t:=zhd g;have q:=zhd S;have Q:=h.ev.leni;have T:=h.ev.kleni;have A:=zhd fun W=>zg7 x.e Q T W;have z:=zhd fun W (I:Below d.heap.size d W)=>zkE x.lA x.l.length x.lc x.l rfl h.ln W ((h.below g).en.below I);have J:=zhd fun W (I:Below d.heap.size d W)=>zl5 x.rA x.ns.length x.rc x.ns x.each x.keep rfl h.rl W (((h.below g).below I).rn);obtain⟨m,B⟩:∃ r,zav x.e.1.k.length x.e.1.v.length x.e.1.s x.e.1.u x.e.1.o x.e.1.has=r:=⟨_,rfl⟩;have R:=zl4 x.e.1 m B;rw [B] at A;obtain⟨rr,D⟩:∃ r:Int,(if OkR x.ns x.each x.keep then 0 else 2)=r:=⟨_,rfl⟩;have O:decide (OkR x.ns x.each x.keep)=(rr==0):=by
  rw [<-D];by_cases ok:OkR x.ns x.each x.keep
  ·rw [if_pos ok,decide_eq_true ok];rfl
  ·rw [if_neg ok,decide_eq_false ok];rfl
 rw [D] at J;obtain⟨N,F⟩:∃ b,zjp (x.l.map Prod.fst)=b:=⟨_,rfl⟩;rw [F] at z;have X:Hid (b5 (rN (mP x)) true (rE (mP x)) (rL (mP x)) (rR (mP x))=b5 (inR x.n 1099511627775) true (m==0) (decide (x.l.length<=1000)&&N) (rr==0)):=zhd (by
  show b5 (inR x.n 1099511627775) true (decide (okE x.e.1)) (decide ((x.l.map Prod.fst).length<=1000)&&zjp (x.l.map Prod.fst)) (decide (OkR x.ns x.each x.keep))=_
  rw [R,O,F,List.length_map])
 have l0:=zae c 0 (int i64 x.kind) rfl;have l1:=zae c 1 (int i64 x.fr) rfl;have l2:=zae c 2 (int i64 x.dst) rfl;have l3:=zae c 3 (int i64 x.ep) rfl;have l4:=zae c 4 (int i64 x.op) rfl;have l5:=zae c 5 (int i64 x.n) rfl;have l6:=zae c 6 (bool x.flag) rfl;have l7:=zae c 7 (.string ⟨x.e.1.k.toArray⟩) rfl;have l8:=zae c 8 (int i64 x.e.1.s) rfl;have l9:=zae c 9 (int i64 x.e.1.u) rfl;have af:=zae c 10 (int i64 x.e.1.o) rfl;have ag:=zae c 11 (bool x.e.1.has) rfl;have ai:=zae c 12 (slice x.e.2.1 x.e.1.v.length x.e.2.2) rfl;have ab:=zae c 13 (slice x.lA x.l.length x.lc) rfl;have Z:=zae c 14 (slice x.rA x.ns.length x.rc) rfl;have ae:=zae c 15 (int i64 x.each) rfl;have aa:=zae c 16 (int i64 x.keep) rfl;have aj:(x.l.length:Int)<=9223372036854775807:=by have:=h.ln;unfold maxLen at this;omega
 clear g c S h Q T B D R O F;have M:=zhd fun W=>zkB x.n W;unfold zrl;rw [X.out];by_cases hl:(x.l.length:Int)<=1000
 ·have i:decide (x.l.length<=1000)=true:=decide_eq_true (by omega);rw [i,Bool.true_and];clear i;go_enter Tryz.func78,Tryz.ntmps78
  go_wp2_with fail
  refine za8 20 (by kernel_rfl) (by kernel_rfl) ?_;simp only [List.take_succ_cons,List.take_zero,List.drop_succ_cons,List.drop_zero]
  repeat (go_big_quiet_step (first
   | (go_at_call 77;exact zef (M.out _))
   | (go_at_call 107;exact za7 (A.out _))
   | (go_at_call 108;exact za7 (z.out _ (Later.bel _)))
   | (go_at_call 109;exact za7 (J.out _ (Later.bel _)))))
  refine wpQuiet_nil ?_;intro w' hw';obtain⟨p,rfl⟩:=hw';have a:=q.out.below p.bel q.out.lt;have j:=zhd (t.out.trans (p.bel.mono t.out.size))
  generalize p.world=V at a j ⊢
  have G:=a.cell 0;have K:=a.cell 1;have L:=a.cell 2;have y:=a.cell 3;have E:=a.cell 4;have z0:=a.frozen 0;have Y:=a.frozen 1;have U:=a.frozen 2;have z3:=a.frozen 3;have z4:=a.frozen 4;clear a;go_wp2;exact bodyPost_ret (v:=b5 (inR x.n 1099511627775) true (m==0) N (rr==0)) (by simp [results,Tryz.results78,go_sem,G,K,L,y,E]) rfl ⟨rfl,by repeat (first|exact j.out|refine zad ?_ (by omega) _ _)⟩
 ·have i:decide (x.l.length<=1000)=false:=decide_eq_false (by omega);have ah:decide ((x.l.length:Int)<=1000)=false:=decide_eq_false hl;rw [i,Bool.false_and];clear i hl;go_enter Tryz.func78,Tryz.ntmps78
  go_wp2_with fail
  refine za8 20 (by kernel_rfl) (by kernel_rfl) ?_;simp only [List.take_succ_cons,List.take_zero,List.drop_succ_cons,List.drop_zero]
  repeat (go_big_quiet_step (first
   | (go_at_call 77;exact zef (M.out _))
   | (go_at_call 107;exact za7 (A.out _))
   | (go_at_call 108;exact za7 (z.out _ (Later.bel _)))
   | (go_at_call 109;exact za7 (J.out _ (Later.bel _)))))
  refine wpQuiet_nil ?_;intro w' hw';obtain⟨p,rfl⟩:=hw';have a:=q.out.below p.bel q.out.lt;have j:=zhd (t.out.trans (p.bel.mono t.out.size))
  generalize p.world=V at a j ⊢
  have G:=a.cell 0;have K:=a.cell 1;have L:=a.cell 2;have y:=a.cell 3;have E:=a.cell 4;have z0:=a.frozen 0;have Y:=a.frozen 1;have U:=a.frozen 2;have z3:=a.frozen 3;have z4:=a.frozen 4;clear a;go_wp2;exact bodyPost_ret (v:=b5 (inR x.n 1099511627775) true (m==0) false (rr==0)) (by simp [results,Tryz.results78,go_sem,G,K,L,y,E]) rfl ⟨rfl,by repeat (first|exact j.out|refine zad ?_ (by omega) _ _)⟩
def zrm(m:MsgP)(w:World)(e:Ending)(w':World):Prop:=e=.returned (b5 (bN m) (bF m) (bE m) (bL m) (bR m))/\Below w.heap.size w w'
theorem zu8(k:List UInt8):decide ((⟨k.toArray⟩:ByteArray)=⟨#[]⟩)=decide (k=[]):=by
 by_cases h:k=[]
 ·subst h;rfl
 ·rw [decide_eq_false h,decide_eq_false (fun e=>h (by injection e with e;simpa using e))]
theorem zws(m:MsgP):bE m=(decide (m.e.k=[])&&(eqT m.e.s m.e.u m.e.o 0 0 0&&!m.e.has)&&(((m.e.k.length:Int)+(m.e.v.length:Int))==0)):=by
 unfold bE;rw [Bool.eq_iff_iff,decide_eq_true_iff];unfold noE eqT;simp only [decide_eq_true_eq,Bool.and_eq_true,beq_iff_eq,Bool.not_eq_true'];constructor
 ·rintro⟨a,c,d,b,g,h⟩;refine⟨⟨a,⟨⟨c,d⟩,b⟩,g⟩,?_⟩;rw [a,h];rfl
 ·rintro⟨⟨a,⟨⟨c,d⟩,b⟩,g⟩,h⟩;exact⟨a,c,d,b,g,List.length_eq_zero_iff.1 (by omega)⟩
theorem zor(x:MV)(w:World)(h:MsgM w x):Calls Tryz.prog 79 #[.agg #[int i64 x.kind,int i64 x.fr,int i64 x.dst,int i64 x.ep,int i64 x.op,int i64 x.n,bool x.flag,.string ⟨x.e.1.k.toArray⟩,int i64 x.e.1.s,int i64 x.e.1.u,int i64 x.e.1.o,bool x.e.1.has,slice x.e.2.1 x.e.1.v.length x.e.2.2,slice x.lA x.l.length x.lc,slice x.rA x.ns.length x.rc,int i64 x.each,int i64 x.keep]] w (zrm (mP x) w):=by
 have j:Below w.heap.size w ((w.alloc (cells #[int i64 x.kind,int i64 x.fr,int i64 x.dst,int i64 x.ep,int i64 x.op,int i64 x.n,bool x.flag,.string ⟨x.e.1.k.toArray⟩,int i64 x.e.1.s,int i64 x.e.1.u,int i64 x.e.1.o,bool x.e.1.has,slice x.e.2.1 x.e.1.v.length x.e.2.2,slice x.lA x.l.length x.lc,slice x.rA x.ns.length x.rc,int i64 x.each,int i64 x.keep] 51)).alloc (cells #[bool false,bool false,bool false,bool false,bool false] 143)):=(zbl).alloc (by simp) _;obtain⟨d,A⟩:∃ d,(w.alloc (cells #[int i64 x.kind,int i64 x.fr,int i64 x.dst,int i64 x.ep,int i64 x.op,int i64 x.n,bool x.flag,.string ⟨x.e.1.k.toArray⟩,int i64 x.e.1.s,int i64 x.e.1.u,int i64 x.e.1.o,bool x.e.1.has,slice x.e.2.1 x.e.1.v.length x.e.2.2,slice x.lA x.l.length x.lc,slice x.rA x.ns.length x.rc,int i64 x.each,int i64 x.keep] 51)).alloc (cells #[bool false,bool false,bool false,bool false,bool false] 143)=d:=⟨_,rfl⟩;have c:Blk d w.heap.size 51 #[int i64 x.kind,int i64 x.fr,int i64 x.dst,int i64 x.ep,int i64 x.op,int i64 x.n,bool x.flag,.string ⟨x.e.1.k.toArray⟩,int i64 x.e.1.s,int i64 x.e.1.u,int i64 x.e.1.o,bool x.e.1.has,slice x.e.2.1 x.e.1.v.length x.e.2.2,slice x.lA x.l.length x.lc,slice x.rA x.ns.length x.rc,int i64 x.each,int i64 x.keep]:=by rw [<-A];exact(Blk.new w _ _).alloc _
 have L:Blk d (w.heap.size+1) 143 #[bool false,bool false,bool false,bool false,bool false]:=by rw [<-A];have:=Blk.new (w.alloc (cells #[int i64 x.kind,int i64 x.fr,int i64 x.dst,int i64 x.ep,int i64 x.op,int i64 x.n,bool x.flag,.string ⟨x.e.1.k.toArray⟩,int i64 x.e.1.s,int i64 x.e.1.u,int i64 x.e.1.o,bool x.e.1.has,slice x.e.2.1 x.e.1.v.length x.e.2.2,slice x.lA x.l.length x.lc,slice x.rA x.ns.length x.rc,int i64 x.each,int i64 x.keep] 51)) 143 #[bool false,bool false,bool false,bool false,bool false];rw [World.size_alloc] at this;exact this
 rw [A] at j;have r:=zhd j;have q:=zhd L;have m:=zhd fun W=>zq1 ⟨x.e.1.k.toArray⟩ x.e.1.s x.e.1.u x.e.1.o x.e.1.has x.e.2.1 x.e.1.v.length x.e.2.2 W;rw [zu8] at m;have g:=zhd fun(I:(decide (x.e.1.k=[])&&(eqT x.e.1.s x.e.1.u x.e.1.o 0 0 0&&!x.e.1.has))=true) W=>zl2 ⟨x.e.1.k.toArray⟩ x.e.1.s x.e.1.u x.e.1.o x.e.1.has x.e.2.1 x.e.1.v.length x.e.2.2 (by
  rw [Bool.and_eq_true,decide_eq_true_eq] at I;have:=h.ev.len;rw [zes,I.1];unfold maxLen at this;simp only [List.length_nil];omega) W
 rw [zes] at g;have E:=zhd fun W (T:Below d.heap.size d W)=>zkz x.rA none x.ns.length 0 x.rc 0 x.ns [] x.each x.keep 0 0 rfl rfl h.rl (Nat.zero_le _) W (((h.below j).below T).rn) (Row.nil _ _ _);obtain⟨J,y⟩:∃ b,(decide (x.e.1.k=[])&&(eqT x.e.1.s x.e.1.u x.e.1.o 0 0 0&&!x.e.1.has))=b:=⟨_,rfl⟩;rw [y] at m g;obtain⟨K,z⟩:∃ n:Int,(x.e.1.k.length:Int)+(x.e.1.v.length:Int)=n:=⟨_,rfl⟩;rw [z] at g;obtain⟨rr,B⟩:∃ b,decide (x.ns=[]/\x.each=0/\x.keep=0)=b:=⟨_,rfl⟩;rw [B] at E;have R:Hid (b5 (bN (mP x)) (bF (mP x)) (bE (mP x)) (bL (mP x)) (bR (mP x))=b5 (x.n==0) (!x.flag) (J&&K==0) (x.l.length==0) rr):=zhd (by
  rw [zws];show b5 (x.n==0) (!x.flag) (decide (x.e.1.k=[])&&(eqT x.e.1.s x.e.1.u x.e.1.o 0 0 0&&!x.e.1.has)&&(((x.e.1.k.length:Int)+(x.e.1.v.length:Int))==0)) ((x.l.map Prod.fst).length==0) (decide (x.ns=[]/\x.each=0/\x.keep=0))=_
  rw [y,z,B,List.length_map])
 have l0:=zae c 0 (int i64 x.kind) rfl;have l1:=zae c 1 (int i64 x.fr) rfl;have l2:=zae c 2 (int i64 x.dst) rfl;have l3:=zae c 3 (int i64 x.ep) rfl;have l4:=zae c 4 (int i64 x.op) rfl;have l5:=zae c 5 (int i64 x.n) rfl;have l6:=zae c 6 (bool x.flag) rfl;have l7:=zae c 7 (.string ⟨x.e.1.k.toArray⟩) rfl;have l8:=zae c 8 (int i64 x.e.1.s) rfl;have l9:=zae c 9 (int i64 x.e.1.u) rfl;have aa:=zae c 10 (int i64 x.e.1.o) rfl;have ab:=zae c 11 (bool x.e.1.has) rfl;have ae:=zae c 12 (slice x.e.2.1 x.e.1.v.length x.e.2.2) rfl;have Y:=zae c 13 (slice x.lA x.l.length x.lc) rfl;have U:=zae c 14 (slice x.rA x.ns.length x.rc) rfl;have Z:=zae c 15 (int i64 x.each) rfl;have X:=zae c 16 (int i64 x.keep) rfl;have af:(x.l.length:Int)<=9223372036854775807:=by have:=h.ln;unfold maxLen at this;omega
 have Q:((x.l.length:Int)==0)=(x.l.length==0):=by
  rw [Bool.eq_iff_iff,beq_iff_eq,beq_iff_eq];omega
 clear j c L h y z B;unfold zrm;rw [R.out];obtain⟨M,N⟩:∃ b,(x.l.length==0)=b:=⟨_,rfl⟩;rw [N] at Q ⊢;cases J
 ·rw [Bool.false_and];go_enter Tryz.func79,Tryz.ntmps79
  go_wp2_with fail
  refine za8 24 (by kernel_rfl) (by kernel_rfl) ?_;simp only [List.take_succ_cons,List.take_zero,List.drop_succ_cons,List.drop_zero]
  repeat (go_big_quiet_step (first
   | (go_at_call 110;exact za7 (m.out _))
   | (go_at_call 111;exact za7 (g.out (by trivial) _))
   | (go_at_call 112;exact za7 (E.out _ (Later.bel _)))))
  refine wpQuiet_nil ?_;intro w' hw';obtain⟨p,rfl⟩:=hw';have a:=q.out.below p.bel q.out.lt;have i:=zhd (r.out.trans (p.bel.mono r.out.size))
  generalize p.world=V at a i ⊢
  have D:=a.cell 0;have F:=a.cell 1;have G:=a.cell 2;have t:=a.cell 3;have C:=a.cell 4;have z0:=a.frozen 0;have S:=a.frozen 1;have O:=a.frozen 2;have z3:=a.frozen 3;have z4:=a.frozen 4;clear a;go_wp2;exact bodyPost_ret (v:=b5 (x.n==0) (!x.flag) false M rr) (by simp [results,Tryz.results79,go_sem,D,F,G,t,C]) rfl ⟨rfl,by repeat (first|exact i.out|refine zad ?_ (by omega) _ _)⟩
 ·rw [Bool.true_and];go_enter Tryz.func79,Tryz.ntmps79
  go_wp2_with fail
  refine za8 24 (by kernel_rfl) (by kernel_rfl) ?_;simp only [List.take_succ_cons,List.take_zero,List.drop_succ_cons,List.drop_zero]
  repeat (go_big_quiet_step (first
   | (go_at_call 110;exact za7 (m.out _))
   | (go_at_call 111;exact za7 (g.out (by trivial) _))
   | (go_at_call 112;exact za7 (E.out _ (Later.bel _)))))
  refine wpQuiet_nil ?_;intro w' hw';obtain⟨p,rfl⟩:=hw';have a:=q.out.below p.bel q.out.lt;have i:=zhd (r.out.trans (p.bel.mono r.out.size))
  generalize p.world=V at a i ⊢
  have D:=a.cell 0;have F:=a.cell 1;have G:=a.cell 2;have t:=a.cell 3;have C:=a.cell 4;have z0:=a.frozen 0;have S:=a.frozen 1;have O:=a.frozen 2;have z3:=a.frozen 3;have z4:=a.frozen 4;clear a;go_wp2;exact bodyPost_ret (v:=b5 (x.n==0) (!x.flag) (K==0) M rr) (by simp [results,Tryz.results79,go_sem,D,F,G,t,C]) rfl ⟨rfl,by repeat (first|exact i.out|refine zad ?_ (by omega) _ _)⟩
end
section
open Go.RowKit Mem
namespace RelyJ
open Rely
def up{α:Type}(f:Nat->α)(i:Nat)(v:α):Nat->α:=fun k=>if k=i then v else f k
@[simp] theorem up_same {α:Type} (f:Nat->α) (i:Nat) (v:α):up f i v i=v:=if_pos rfl
theorem zbh{α:Type}(f:Nat->α){i k:Nat}(v:α)(h:k≠i):up f i v k=f k:=if_neg h
def zrq(o:Oper)(v:Value):Value:=match o.dst with|some _=>v|none=>undef
def Step1(P:Program)(ops:Array Oper)(a:Act)(J:(Nat->Bool)->(Nat->Value)->World->Prop)(o:Oper)(r:List (Nat×Tmp))(i:Nat):Prop:=
 ∀ (S:Nat->Bool) (vs:Nat->Value) (w':World),S i=false->(∀ e∈o.after,Region.binds .any e=true->S e.on=true)->J S vs w'->
  if Region.wanted o (yielded ops (sel a vs r).tmps)=true then gives P o (sel a vs r) w' (fun v w''=>J (up S i true) (up vs i (zrq o v)) w'') else J (up S i true) (up vs i (zrq o undef)) w'
def StepsZ(P:Program)(ops:Array Oper)(a:Act)(J:(Nat->Bool)->(Nat->Value)->World->Prop):List Oper->List (List (Nat×Tmp))->Nat->Prop
 | o :: os,r :: R,i=>Step1 P ops a J o r i/\StepsZ P ops a J os R (i+1)
 | _,_,_=>True
theorem stepsZ_cons{P:Program}{b:Array Oper}{a:Act}{J:(Nat->Bool)->(Nat->Value)->World->Prop}{o:Oper}{os:List Oper}{r:List (Nat×Tmp)}{R:List (List (Nat×Tmp))}{i:Nat}
 (c:Step1 P b a J o r i) (d:StepsZ P b a J os R (i+1)):StepsZ P b a J (o :: os) (r :: R) i:=⟨c,d⟩
theorem stepsZ_nil{P:Program}{b:Array Oper}{a:Act}{J:(Nat->Bool)->(Nat->Value)->World->Prop}{i:Nat}:StepsZ P b a J [] [] i:=trivial
theorem StepsZ.at_{P:Program}{ops:Array Oper}{a:Act}{J:(Nat->Bool)->(Nat->Value)->World->Prop}:∀ {os:List Oper} {R:List (List (Nat×Tmp))} {i:Nat},StepsZ P ops a J os R i->∀ (j:Nat) (o:Oper) (r:List (Nat×Tmp)),os[j]?=some o->R[j]?=some r->Step1 P ops a J o r (i+j)
 | [],_,_,_,j,_,_,h,_=>by simp at h
 | _ :: _,[],_,_,j,_,_,_,h=>by simp at h
 | q :: os,s :: R,i,hs,0,o,r,h,h'=>by
  simp only [List.getElem?_cons_zero,Option.some.injEq] at h h';subst h;subst h';exact hs.1
 | q :: os,s :: R,i,hs,j+1,o,r,h,h'=>by
  simp only [List.getElem?_cons_succ] at h h';have:=StepsZ.at_ hs.2 j o r h h';rw [show i+1+j=i+(j+1) by omega] at this;exact this
def sOf(listed:Array Bool):Nat->Bool:=fun k=>listed.getD k false
structure InvJ (ops:Array Oper) (a:Act) (J:(Nat->Bool)->(Nat->Value)->World->Prop) (listed:Array Bool) (a':Act) (w':World):Prop where
 inv:J (sOf listed) (zcc ops a') w'
 size:a'.tmps.size=a.tmps.size
 defers:a'.defers=a.defers
 rest:∀ t,(∀ k o,listed.getD k false=true->ops[k]?=some o->o.dst≠some t)->a'.tmps[t]?=a.tmps[t]?
 closed:∀ k o,listed.getD k false=true->ops[k]?=some o->∀ e∈o.after,Region.binds .any e=true->listed.getD e.on false=true
theorem zvb{b:Array Bool}{i:Nat}(h:i<b.size):sOf (b.setIfInBounds i true)=up (sOf b) i true:=by
 funext k
 unfold sOf up;by_cases a:k=i
 ·subst a;rw [if_pos rfl,Array.getD_eq_getD_getElem?,Array.getElem?_setIfInBounds,if_pos rfl,if_pos h];rfl
 ·rw [if_neg a,getD_set_ne false (fun e=>a e.symm)]
section
variable {P : Program} {ops : Array Oper} {a : Act} {J : (Nat → Bool) → (Nat → Value) → World → Prop}
theorem zvc(g:Ok ops){i:Nat}{o:Oper}(c:ops[i]?=some o){b:Act}{v:Value}(h:∀ d,o.dst=some d->d<b.tmps.size):zcc ops (b.put o.dst v)=up (zcc ops b) i (zrq o v):=by
 funext k
 unfold up;by_cases a:k=i
 ·subst a;rw [if_pos rfl];unfold zcc zrq;rw [c];simp only [Option.bind_some];cases hdd:o.dst with
  | none=>rfl
  | some d=>
   simp only [Act.put];rw [Array.getD_eq_getD_getElem?,Array.getElem?_setIfInBounds,if_pos rfl,if_pos (h d hdd)];rfl
 ·rw [if_neg a];unfold zcc;cases hb:(ops[k]?).bind (·.dst) with
  | none=>rfl
  | some d'=>
   simp only;obtain⟨ok,j,l⟩:=Option.bind_eq_some_iff.1 hb;cases hdd:o.dst with
   | none=>rfl
   | some d=>
    simp only [Act.put];have hne:d≠d':=fun e=>by
     subst e;exact g.apart i k o ok d c j l (fun e=>a e.symm) hdd
    rw [Array.getD_eq_getD_getElem?,Array.getD_eq_getD_getElem?,Array.getElem?_setIfInBounds,if_neg hne]
theorem zkG{a:Act}{k:Nat}{o:Oper}{d:Tmp}(h:ops[k]?=some o)(g:o.dst=some d)(c:d<a.tmps.size):a.tmps[d]?=some (zcc ops a k):=by
 have b:=Array.getElem?_eq_getElem c;rw [b];exact congrArg some (ziQ h g b).symm
theorem zrr(B:Ok ops)(D:∀ k d,(k,d)∈zaC ops->d<a.tmps.size)
 (U:∀ i o,ops[i]?=some o->Step1 P ops a J o (zbH ops i) i)
 {Q:Exit->Act->World->Prop} {m:Array Bool} {g:Act} {w':World} (l:InvJ ops a J m g w') {i:Nat} (hi:i∈Region.ready .any ops m)
 {K:Act->World->Prop} (I:∀ M r,InvJ ops a J (m.setIfInBounds i true) M r->K M r) (af:m.size=ops.size):wpOp P ops Q i K g w':=by
 obtain⟨N,o,c,R⟩:=mem_ready.1 hi;have E:i<m.size:=by rw [af];exact zbd c
 have O:m.getD i false=false:=by
  rw [Array.getD_eq_getD_getElem?,Array.getElem?_eq_getElem E] at N ⊢;simpa using N
 have Y:=fun cs b=>Region.noSelect_spec B.noSel i o cs b c;have aa:∀ p∈zbH ops i,g.tmps[p.2]?=some (zcc ops g p.1):=by
  rintro⟨k,d⟩ G;obtain⟨ok,C,A,_⟩:=(zbK c).1 G;exact zkG C A (by rw [l.size];exact D k d (zaY.2 ⟨ok,C,A⟩))
 have V:∀ t∈o.looksAt ops,(sel a (zcc ops g) (zbH ops i)).tmps[t]?=g.tmps[t]?:=by
  intro t ht;by_cases z:∃ k,(k,t)∈zbH ops i
  ·obtain⟨k,q⟩:=z;obtain⟨ok,C,A,_⟩:=(zbK c).1 q;rw [aa _ q];refine zmY a _ _ k t q ?_ (D k t (zaY.2 ⟨ok,C,A⟩));rintro⟨k1,d1⟩ ae ⟨L,d2⟩ W e;obtain⟨o1,g1,g2,_⟩:=(zbK c).1 ae;obtain⟨X,T,g4,_⟩:=(zbK c).1 W;simp only at e ⊢;subst e;by_cases hne:k1=L
   ·exact hne
   ·exact absurd g2 (B.apart k1 L o1 X d1 g1 T g4 hne)
  ·rw [zgO a _ _ t (fun p G e=>z ⟨p.1,by rw [<-e];exact G⟩)];refine(l.rest t fun k ok Z j s=>?_).symm;rcases B.read i k o ok t c j s ht with h|⟨e,x,u,rfl⟩
   ·exact z ⟨k,(zbK c).2 ⟨ok,j,s,ht,h⟩⟩
   ·have:=l.closed k ok Z j e x u;rw [O] at this;cases this
 obtain⟨z,ab⟩:=zpY o Y V;have y:=U i o c (sOf m) (zcc ops g) w' O (fun e x u=>R e x u) l.inv;rw [ab] at y;have next:∀ v r,J (up (sOf m) i true) (up (zcc ops g) i (zrq o v)) r->InvJ ops a J (m.setIfInBounds i true) (g.put o.dst v) r:=by
  intro v r hv;have S:∀ t,o.dst≠some t->(g.put o.dst v).tmps[t]?=g.tmps[t]?:=by
   intro t ht;cases s:o.dst with
   | none=>rfl
   | some d=>
    simp only [Act.put];rw [Array.getElem?_setIfInBounds,if_neg (fun e=>ht (by rw [s,e]))]
  refine⟨?_,?_,?_,?_,?_⟩
  ·rw [zvb E,zvc B c (fun d s=>by rw [l.size];exact D i d (zaY.2 ⟨o,c,s⟩))];exact hv
  ·cases s:o.dst with
   | none=>exact l.size
   | some d=>simp only [Act.put];rw [Array.size_setIfInBounds];exact l.size
  ·cases o.dst<;>exact l.defers
  ·intro t ht;rw [S t (ht i o (by
    rw [Array.getD_eq_getD_getElem?,Array.getElem?_setIfInBounds,if_pos rfl,if_pos E];rfl) c)]
   exact l.rest t fun k ok q j=>ht k ok (zbC q) j
  ·intro k ok q j e x u;rcases ziO q with rfl|q
   ·rw [c] at j;injection j with j;subst j;exact zbC (R e x u)
   ·exact zbC (l.closed k ok q j e x u)
 unfold wpOp;rw [c];simp only;split
 ·rename_i F;simp only [F,if_true] at y;exact Or.inl (zgM (zgN z y) fun v r h=>I _ _ (next v r h))
 ·rename_i F;simp only [F] at y;exact I _ _ (next undef w' y)
theorem zl8(v:Ok ops)(s:∀ k d,(k,d)∈zaC ops->d<a.tmps.size)
 (M:∀ i o,ops[i]?=some o->Step1 P ops a J o (zbH ops i) i) {Q:Exit->Act->World->Prop}
 (I:∀ (S:Nat->Bool) (A:Nat->Value) (w':World),(∀ k,k<ops.size->S k=true)->J S A w'->Q .normal (sel a A (zaC ops)) w') :
 ∀ (fuel:Nat) (c:Array Bool) (b:Act) (w':World),c.size=ops.size->left ops c<=fuel->InvJ ops a J c b w'->wpAny P .any ops Q fuel c b w':=by
 have z:∀ (c:Array Bool) (b:Act) (w':World),c.size=ops.size->InvJ ops a J c b w'->Region.ready .any ops c=[]->Q .normal b w':=by
  intro c b w' g j l;have V:=fun k h=>zfK v g l (k+1) k (by omega) h;have N:∀ p∈zaC ops,b.tmps[p.2]?=some (zcc ops b p.1):=by
   rintro⟨k,d⟩ q;obtain⟨o,T,u⟩:=zaY.1 q;exact zkG T u (by rw [j.size];exact s k d q)
  have e:b=sel a (zcc ops b) (zaC ops):=by
   obtain⟨Z,G⟩:=zmX a (zcc ops b) (zaC ops);have ht:b.tmps=(sel a (zcc ops b) (zaC ops)).tmps:=by
    apply Array.ext_getElem?;intro t;by_cases y:∃ k,(k,t)∈zaC ops
    ·obtain⟨k,m⟩:=y;rw [N _ m];refine(zmY a _ _ k t m ?_ (s k t m)).symm;rintro⟨k1,d1⟩ O ⟨B,d2⟩ W e;obtain⟨E,g1,g2⟩:=zaY.1 O;obtain⟨X,L,D⟩:=zaY.1 W;simp only at e ⊢;subst e;by_cases hne:k1=B
     ·exact hne
     ·exact absurd g2 (v.apart k1 B E X d1 g1 L D hne)
    ·rw [zgO a _ _ t (fun p q e=>y ⟨p.1,by rw [<-e];exact q⟩)];exact j.rest t fun k o _ R K=>y ⟨k,zaY.2 ⟨o,R,K⟩⟩
   have x:b.defers=(sel a (zcc ops b) (zaC ops)).defers:=j.defers.trans G.symm;cases b
   cases hse:sel a (zcc ops _) (zaC ops)
   rw [hse] at ht x;simp only at ht x;rw [ht,x]
  rw [e];exact I (sOf c) _ _ (fun k m=>V k m) j.inv
 intro fuel
 induction fuel with
 | zero=>
  intro c b w' g Y j;have l:Region.ready .any ops c=[]:=by
   cases hq:Region.ready .any ops c with
   | nil=>rfl
   | cons i r=>
    have:=ziR g (i:=i) (by rw [hq];simp);omega
  exact⟨l,z c b w' g j l⟩
 | succ fuel ih=>
  intro c b w' g Y j;refine⟨fun l=>z c b w' g j l,fun i C=>?_⟩;refine zrr v s M j C (fun F U u=>ih _ F U (by rw [Array.size_setIfInBounds];exact g) ?_ u) g;have:=ziR g C;omega
end
theorem wp_region_byJ{P:Program}{id:Nat}{Q:Exit->Act->World->Prop}{a:Act}{w:World}{os:List Oper}(R:List (List (Nat×Tmp)))(D:List (Nat×Tmp))(J:(Nat->Bool)->(Nat->Value)->World->Prop)
 (y:P.follows .mixedOrders=true) (u:okB os.toArray=true) (hl:(List.range os.length).map (zbH os.toArray)=R) (q:zaC os.toArray=D) (j:D.all (fun p=>decide (p.2<a.tmps.size))=true)
 (x:∀ b,J (fun _=>false) b w.drew) (r:StepsZ P os.toArray a J os R 0)
 (m:∀ (S:Nat->Bool) (b:Nat->Value) (w':World),(∀ k,k<os.length->S k=true)->J S b w'->Q .normal (sel a b D) w'):(Code.region id os.toArray true).wp P Q a w:=by
 subst q;refine wp_region_any y (zl8 (zvR u) ?_ ?_ (fun S b w' h=>m S b w' (fun k c=>h k (by simpa using c))) _ _ _ _ (by simp) (zp1 _ _) ⟨?_,rfl,rfl,?_,?_⟩)
 ·intro k d l;have:=List.all_eq_true.1 j _ l;simpa using this
 ·intro i o g;have z:i<os.length:=by simpa using zbd g
  have v:os[i]?=some o:=by simpa using g
  have s:R[i]?=some (zbH os.toArray i):=by rw [<-hl,List.getElem?_map,List.getElem?_range z];rfl
  have:=r.at_ i o _ v s
  rwa [Nat.zero_add] at this
 ·have e:sOf (Array.replicate os.toArray.size false)=fun _=>false:=by
   funext k
   have:=zdM os.toArray.size k;unfold sOf;cases h:(Array.replicate os.toArray.size false).getD k false
   ·rfl
   ·exact absurd h this
  rw [e];exact x _
 ·exact fun t _=>rfl
 ·exact fun k o c=>absurd c (zdM _ k)
theorem gives_mono{P:Program}{o:Oper}{a:Act}{w:World}{R R':Value->World->Prop}(h:gives P o a w R')(b:∀ v w',R' v w'->R v w'):gives P o a w R:=by
 unfold gives at *
 generalize (execOp a.eval o).run P w=r at *
 cases r with
 | ok n w'=>
  cases n<;>simp only [GivesR] at h ⊢
  case value v=>exact b _ _ h
  case skip=>exact b _ _ h
  case enter f args=>exact h.mono fun e w'' ⟨v,he,hr⟩=>⟨v,he,b _ _ hr⟩
 | halt x w'=>simp only [GivesR] at h
end RelyJ
end
section
open Go.RowKit Mem Be Rg
theorem znj{m:MsgP}(h:exK m.kind=false):okM m=false:=by unfold okM zg2;rw [h];rfl
theorem znk{m:MsgP}(h:inR m.fr 1048575=false):okM m=false:=by unfold okM zg2;rw [h,Bool.and_false];rfl
theorem znl{m:MsgP}(h:inR m.dst 1048575=false):okM m=false:=by unfold okM zg2;rw [h,Bool.and_false];rfl
theorem znm{m:MsgP}(h:inR m.ep 1099511627775=false):okM m=false:=by unfold okM zg2;rw [h,Bool.and_false];rfl
theorem znn{m:MsgP}(h:inR m.op 1099511627775=false):okM m=false:=by unfold okM zg2;rw [h,Bool.and_false];rfl
theorem zbv{m:MsgP}(h:okM m=false):zbr m=2:=by unfold zbr;rw [h];rfl
theorem zrs{w:World}{g:Nat}{t:TypeId}{c0 c1 c2 c3 c4:Value}(h:Blk w g t #[c0,c1,c2,c3,c4])(v0 v1 v2 v3 v4:Value) :
 Blk (((((w.setCell ⟨g,0,none⟩ v0).setCell ⟨g,1,none⟩ v1).setCell ⟨g,2,none⟩ v2).setCell ⟨g,3,none⟩ v3).setCell ⟨g,4,none⟩ v4) g t #[v0,v1,v2,v3,v4]:=((((h.set_ 0 v0).set_ 1 v1).set_ 2 v2).set_ 3 v3).set_ 4 v4
theorem zjb{w:World}{g a:Nat}{t:TypeId}{b:Array Value}(h:Blk w g t b)(hne:g≠a)(v0 v1 v2 v3 v4:Value) :
 Blk (((((w.setCell ⟨a,0,none⟩ v0).setCell ⟨a,1,none⟩ v1).setCell ⟨a,2,none⟩ v2).setCell ⟨a,3,none⟩ v3).setCell ⟨a,4,none⟩ v4) g t b:=
 ((((h.far (p:=⟨a,0,none⟩) hne v0).far (p:=⟨a,1,none⟩) hne v1).far (p:=⟨a,2,none⟩) hne v2).far (p:=⟨a,3,none⟩) hne v3).far (p:=⟨a,4,none⟩) hne v4
theorem zrt{b w:World}{B g:Nat}(h:Below B b w)(a:B<=g)(v0 v1 v2 v3 v4:Value) :
 Below B b (((((w.setCell ⟨g,0,none⟩ v0).setCell ⟨g,1,none⟩ v1).setCell ⟨g,2,none⟩ v2).setCell ⟨g,3,none⟩ v3).setCell ⟨g,4,none⟩ v4):=
 zad (zad (zad (zad (zad h a 0 v0) a 1 v1) a 2 v2) a 3 v3) a 4 v4
structure JF (W0:World) (x:Value) (m:MsgP) (S:Nat->Bool) (vs:Nat->Value) (w:World):Prop where
 bel:Below W0.heap.size W0 w
 v0:S 0=true->vs 0=x
 v1:S 1=true->vs 1=.agg #[bool (rN m),bool true,bool (rE m),bool (rL m),bool (rR m)]
 v2:S 2=true->vs 2=x
 v3:S 3=true->vs 3=.agg #[bool (bN m),bool (bF m),bool (bE m),bool (bL m),bool (bR m)]
 v4:S 4=true->∃ p,vs 4=.pointer (some ⟨p,0,none⟩)/\W0.heap.size<=p/\(S 6=false->Blk w p 143 #[bool false,bool false,bool false,bool false,bool false])/\(S 6=true->Blk w p 143 #[bool (rN m),bool true,bool (rE m),bool (rL m),bool (rR m)])
 v5:S 5=true->∃ p,vs 5=.pointer (some ⟨p,0,none⟩)/\W0.heap.size<=p/\(S 7=false->Blk w p 143 #[bool false,bool false,bool false,bool false,bool false])/\(S 7=true->Blk w p 143 #[bool (bN m),bool (bF m),bool (bE m),bool (bL m),bool (bR m)])/\(S 4=true->vs 4≠vs 5)
 c6:S 6=true->S 4=true
 c7:S 7=true->S 5=true
theorem zno{p q:Nat}(h:p≠q):Value.pointer (some (⟨p,0,none⟩:Addr))≠Value.pointer (some ⟨q,0,none⟩):=fun e=>h (by injection e with e;injection e with e;injection e)
open RelyJ in
theorem JF.read{W0 w w':World}{x:Value}{m:MsgP}{S:Nat->Bool}{vs:Nat->Value}(h:JF W0 x m S vs w)(hb:Below w.heap.size w w')(i:Nat)(hi:i<4)(v:Value)(hv:(i=0->v=x)/\(i=1->v=.agg #[bool (rN m),bool true,bool (rE m),bool (rL m),bool (rR m)])/\(i=2->v=x)/\(i=3->v=.agg #[bool (bN m),bool (bF m),bool (bE m),bool (bL m),bool (bR m)])) :
 JF W0 x m (up S i true) (up vs i v) w':=by
 have e:∀ k,k≠i->up S i true k=S k/\up vs i v k=vs k:=fun k hk=>⟨zbh _ _ hk,zbh _ _ hk⟩
 refine⟨h.bel.trans (hb.mono h.bel.size),?_,?_,?_,?_,?_,?_,?_,?_⟩
 ·intro hs
  by_cases h0:(0:Nat)=i
  ·subst h0;rw [up_same];exact hv.1 rfl
  ·rw [(e _ h0).1] at hs;rw [(e _ h0).2];exact h.v0 hs
 ·intro hs
  by_cases h0:(1:Nat)=i
  ·subst h0;rw [up_same];exact hv.2.1 rfl
  ·rw [(e _ h0).1] at hs;rw [(e _ h0).2];exact h.v1 hs
 ·intro hs
  by_cases h0:(2:Nat)=i
  ·subst h0;rw [up_same];exact hv.2.2.1 rfl
  ·rw [(e _ h0).1] at hs;rw [(e _ h0).2];exact h.v2 hs
 ·intro hs
  by_cases h0:(3:Nat)=i
  ·subst h0;rw [up_same];exact hv.2.2.2 rfl
  ·rw [(e _ h0).1] at hs;rw [(e _ h0).2];exact h.v3 hs
 ·intro hs
  rw [(e 4 (by omega)).1] at hs
  rw [(e 4 (by omega)).2,(e 6 (by omega)).1]
  obtain⟨p,h1,h2,h3,h4⟩:=h.v4 hs
  exact⟨p,h1,h2,fun q=>(h3 q).below hb (h3 q).lt,fun q=>(h4 q).below hb (h4 q).lt⟩
 ·intro hs
  rw [(e 5 (by omega)).1] at hs
  rw [(e 5 (by omega)).2,(e 7 (by omega)).1,(e 4 (by omega)).1,(e 4 (by omega)).2]
  obtain⟨p,h1,h2,h3,h4,h5⟩:=h.v5 hs
  exact⟨p,h1,h2,fun q=>(h3 q).below hb (h3 q).lt,fun q=>(h4 q).below hb (h4 q).lt,h5⟩
 ·rw [(e 6 (by omega)).1,(e 4 (by omega)).1];exact h.c6
 ·rw [(e 7 (by omega)).1,(e 5 (by omega)).1];exact h.c7
open RelyJ in
theorem JF.alloc4{W0 w:World}{x:Value}{m:MsgP}{S:Nat->Bool}{vs:Nat->Value}(h:JF W0 x m S vs w)(h6:S 6=false):JF W0 x m (up S 4 true) (up vs 4 (.pointer (some ⟨w.heap.size,0,none⟩))) (w.alloc (cells #[bool false,bool false,bool false,bool false,bool false] 143)):=by
 have hb:Below w.heap.size w (w.alloc (cells #[bool false,bool false,bool false,bool false,bool false] 143)):=zbl
 have e:∀ k,k≠4->up S 4 true k=S k/\up vs 4 (.pointer (some ⟨w.heap.size,0,none⟩)) k=vs k:=fun k hk=>⟨zbh _ _ hk,zbh _ _ hk⟩
 refine⟨h.bel.trans (hb.mono h.bel.size),fun hs=>?_,fun hs=>?_,fun hs=>?_,fun hs=>?_,fun hs=>?_,fun hs=>?_,fun hs=>?_,fun hs=>?_⟩
 ·rw [(e 0 (by omega)).1] at hs;rw [(e 0 (by omega)).2];exact h.v0 hs
 ·rw [(e 1 (by omega)).1] at hs;rw [(e 1 (by omega)).2];exact h.v1 hs
 ·rw [(e 2 (by omega)).1] at hs;rw [(e 2 (by omega)).2];exact h.v2 hs
 ·rw [(e 3 (by omega)).1] at hs;rw [(e 3 (by omega)).2];exact h.v3 hs
 ·rw [up_same,(e 6 (by omega)).1]
  exact⟨_,rfl,h.bel.size,fun _=>Blk.new _ _ _,fun h7=>(by rw [h6] at h7;cases h7)⟩
 ·rw [(e 5 (by omega)).1] at hs
  rw [(e 5 (by omega)).2,(e 7 (by omega)).1,up_same,up_same]
  obtain⟨p,h1,h2,h3,h4,h5⟩:=h.v5 hs
  refine⟨p,h1,h2,fun q=>(h3 q).below hb (h3 q).lt,fun q=>(h4 q).below hb (h4 q).lt,fun _=>?_⟩
  rw [h1]
  refine zno ?_
  cases h7:S 7
  ·have:=(h3 h7).lt;omega
  ·have:=(h4 h7).lt;omega
 ·exact up_same _ _ _
 ·rw [(e 7 (by omega)).1] at hs
  rw [(e 5 (by omega)).1]
  exact h.c7 hs
open RelyJ in
theorem JF.alloc5{W0 w:World}{x:Value}{m:MsgP}{S:Nat->Bool}{vs:Nat->Value}(h:JF W0 x m S vs w)(h7:S 7=false):JF W0 x m (up S 5 true) (up vs 5 (.pointer (some ⟨w.heap.size,0,none⟩))) (w.alloc (cells #[bool false,bool false,bool false,bool false,bool false] 143)):=by
 have hb:Below w.heap.size w (w.alloc (cells #[bool false,bool false,bool false,bool false,bool false] 143)):=zbl
 have e:∀ k,k≠5->up S 5 true k=S k/\up vs 5 (.pointer (some ⟨w.heap.size,0,none⟩)) k=vs k:=fun k hk=>⟨zbh _ _ hk,zbh _ _ hk⟩
 refine⟨h.bel.trans (hb.mono h.bel.size),fun hs=>?_,fun hs=>?_,fun hs=>?_,fun hs=>?_,fun hs=>?_,fun hs=>?_,fun hs=>?_,fun hs=>?_⟩
 ·rw [(e 0 (by omega)).1] at hs;rw [(e 0 (by omega)).2];exact h.v0 hs
 ·rw [(e 1 (by omega)).1] at hs;rw [(e 1 (by omega)).2];exact h.v1 hs
 ·rw [(e 2 (by omega)).1] at hs;rw [(e 2 (by omega)).2];exact h.v2 hs
 ·rw [(e 3 (by omega)).1] at hs;rw [(e 3 (by omega)).2];exact h.v3 hs
 ·rw [(e 4 (by omega)).1] at hs
  rw [(e 4 (by omega)).2,(e 6 (by omega)).1]
  obtain⟨p,h1,h2,h3,h4⟩:=h.v4 hs
  exact⟨p,h1,h2,fun q=>(h3 q).below hb (h3 q).lt,fun q=>(h4 q).below hb (h4 q).lt⟩
 ·rw [up_same,(e 7 (by omega)).1,(e 4 (by omega)).1,(e 4 (by omega)).2]
  refine⟨_,rfl,h.bel.size,fun _=>Blk.new _ _ _,fun h8=>(by rw [h7] at h8;cases h8),fun h4=>?_⟩
  obtain⟨p,h1,h2,h3,h5⟩:=h.v4 h4
  rw [h1]
  refine zno ?_
  cases h6:S 6
  ·have:=(h3 h6).lt;omega
  ·have:=(h5 h6).lt;omega
 ·rw [(e 6 (by omega)).1] at hs
  rw [(e 4 (by omega)).1]
  exact h.c6 hs
 ·exact up_same _ _ _
open RelyJ in
theorem JF.store6{W0 w:World}{x:Value}{m:MsgP}{S:Nat->Bool}{vs:Nat->Value}{p:Nat}(h:JF W0 x m S vs w)(h4:S 4=true)(hp:vs 4=.pointer (some ⟨p,0,none⟩))(h0:W0.heap.size<=p)(hz:Blk w p 143 #[bool false,bool false,bool false,bool false,bool false]) :
 JF W0 x m (up S 6 true) (up vs 6 undef) (((((w.setCell ⟨p,0,none⟩ (bool (rN m))).setCell ⟨p,1,none⟩ (bool true)).setCell ⟨p,2,none⟩ (bool (rE m))).setCell ⟨p,3,none⟩ (bool (rL m))).setCell ⟨p,4,none⟩ (bool (rR m))):=by
 have e:∀ k,k≠6->up S 6 true k=S k/\up vs 6 (undef) k=vs k:=fun k hk=>⟨zbh _ _ hk,zbh _ _ hk⟩
 refine⟨zrt h.bel h0 _ _ _ _ _,fun hs=>?_,fun hs=>?_,fun hs=>?_,fun hs=>?_,fun hs=>?_,fun hs=>?_,fun hs=>?_,fun hs=>?_⟩
 ·rw [(e 0 (by omega)).1] at hs;rw [(e 0 (by omega)).2];exact h.v0 hs
 ·rw [(e 1 (by omega)).1] at hs;rw [(e 1 (by omega)).2];exact h.v1 hs
 ·rw [(e 2 (by omega)).1] at hs;rw [(e 2 (by omega)).2];exact h.v2 hs
 ·rw [(e 3 (by omega)).1] at hs;rw [(e 3 (by omega)).2];exact h.v3 hs
 ·rw [(e 4 (by omega)).2,up_same]
  exact⟨p,hp,h0,fun h=>(by cases h),fun _=>zrs hz _ _ _ _ _⟩
 ·rw [(e 5 (by omega)).1] at hs
  rw [(e 5 (by omega)).2,(e 7 (by omega)).1,(e 4 (by omega)).1,(e 4 (by omega)).2]
  obtain⟨q,h1,h2,h3,h5,h6⟩:=h.v5 hs
  have hne:q≠p:=fun hq=>h6 h4 (by rw [h1,hp,hq])
  exact⟨q,h1,h2,fun g=>zjb (h3 g) hne _ _ _ _ _,fun g=>zjb (h5 g) hne _ _ _ _ _,h6⟩
 ·rw [(e 4 (by omega)).1];exact h4
 ·rw [(e 7 (by omega)).1] at hs
  rw [(e 5 (by omega)).1]
  exact h.c7 hs
open RelyJ in
theorem JF.store7{W0 w:World}{x:Value}{m:MsgP}{S:Nat->Bool}{vs:Nat->Value}{p:Nat}(h:JF W0 x m S vs w)(h5:S 5=true)(hp:vs 5=.pointer (some ⟨p,0,none⟩))(h0:W0.heap.size<=p)(hz:Blk w p 143 #[bool false,bool false,bool false,bool false,bool false]) :
 JF W0 x m (up S 7 true) (up vs 7 undef) (((((w.setCell ⟨p,0,none⟩ (bool (bN m))).setCell ⟨p,1,none⟩ (bool (bF m))).setCell ⟨p,2,none⟩ (bool (bE m))).setCell ⟨p,3,none⟩ (bool (bL m))).setCell ⟨p,4,none⟩ (bool (bR m))):=by
 have e:∀ k,k≠7->up S 7 true k=S k/\up vs 7 (undef) k=vs k:=fun k hk=>⟨zbh _ _ hk,zbh _ _ hk⟩
 refine⟨zrt h.bel h0 _ _ _ _ _,fun hs=>?_,fun hs=>?_,fun hs=>?_,fun hs=>?_,fun hs=>?_,fun hs=>?_,fun hs=>?_,fun hs=>?_⟩
 ·rw [(e 0 (by omega)).1] at hs;rw [(e 0 (by omega)).2];exact h.v0 hs
 ·rw [(e 1 (by omega)).1] at hs;rw [(e 1 (by omega)).2];exact h.v1 hs
 ·rw [(e 2 (by omega)).1] at hs;rw [(e 2 (by omega)).2];exact h.v2 hs
 ·rw [(e 3 (by omega)).1] at hs;rw [(e 3 (by omega)).2];exact h.v3 hs
 ·rw [(e 4 (by omega)).1] at hs
  rw [(e 4 (by omega)).2,(e 6 (by omega)).1]
  obtain⟨q,h1,h2,h3,h4⟩:=h.v4 hs
  obtain⟨p',q1,_,_,_,q6⟩:=h.v5 h5
  have hne:q≠p:=fun hq=>q6 hs (by rw [h1,hp,hq])
  exact⟨q,h1,h2,fun g=>zjb (h3 g) hne _ _ _ _ _,fun g=>zjb (h4 g) hne _ _ _ _ _⟩
 ·rw [(e 5 (by omega)).2,up_same,(e 4 (by omega)).1,(e 4 (by omega)).2]
  obtain⟨p',q1,_,_,_,q6⟩:=h.v5 h5
  exact⟨p,hp,h0,fun h=>(by cases h),fun _=>zrs hz _ _ _ _ _,q6⟩
 ·rw [(e 6 (by omega)).1] at hs
  rw [(e 4 (by omega)).1]
  exact h.c6 hs
 ·rw [(e 5 (by omega)).1];exact h5
set_option maxHeartbeats 8000000 in
theorem zet(x:MV)(w:World)(ht:KT w)(h:MsgM w x):Calls Tryz.prog 50 #[.agg #[int i64 x.kind,int i64 x.fr,int i64 x.dst,int i64 x.ep,int i64 x.op,int i64 x.n,bool x.flag,.string ⟨x.e.1.k.toArray⟩,int i64 x.e.1.s,int i64 x.e.1.u,int i64 x.e.1.o,bool x.e.1.has,slice x.e.2.1 x.e.1.v.length x.e.2.2,slice x.lA x.l.length x.lc,slice x.rA x.ns.length x.rc,int i64 x.each,int i64 x.keep]] w (IsI (zbr (mP x)) w):=by
 have hb:Below w.heap.size w (w.alloc (cells #[int i64 x.kind,int i64 x.fr,int i64 x.dst,int i64 x.ep,int i64 x.op,int i64 x.n,bool x.flag,.string ⟨x.e.1.k.toArray⟩,int i64 x.e.1.s,int i64 x.e.1.u,int i64 x.e.1.o,bool x.e.1.has,slice x.e.2.1 x.e.1.v.length x.e.2.2,slice x.lA x.l.length x.lc,slice x.rA x.ns.length x.rc,int i64 x.each,int i64 x.keep] 51)):=zbl
 have HB:=zhd hb
 cases g0:exK x.kind
 ·as_aux_lemma=>
  have HV:=zhd (zbv (m:=mP x) (znj g0))
  have G0:=zhd g0
  clear g0 ht h hb
  go_enter Tryz.func50,Tryz.ntmps50
  go_wp2_with (first|(go_at_call 75;refine(zau _ _ (by assumption) _).mono ?_;rintro e w' ⟨rfl,rfl⟩)|(go_at_call 76;refine(zer _ _ (by assumption) _).mono ?_;rintro e w' ⟨rfl,rfl⟩)|(go_at_call 77;refine(zdz _ _ (by assumption) _).mono ?_;rintro e w' ⟨rfl,rfl⟩))
  go_ret
  exact zal HV.out.symm HB.out
 cases g1:inR x.fr 1048575
 ·as_aux_lemma=>
  have HV:=zhd (zbv (m:=mP x) (znk g1))
  have G0:=zhd g0
  have G1:=zhd g1
  clear g0 g1 ht h hb
  go_enter Tryz.func50,Tryz.ntmps50
  go_wp2_with (first|(go_at_call 75;refine(zau _ _ (by assumption) _).mono ?_;rintro e w' ⟨rfl,rfl⟩)|(go_at_call 76;refine(zer _ _ (by assumption) _).mono ?_;rintro e w' ⟨rfl,rfl⟩)|(go_at_call 77;refine(zdz _ _ (by assumption) _).mono ?_;rintro e w' ⟨rfl,rfl⟩))
  go_ret
  exact zal HV.out.symm HB.out
 cases g2:inR x.dst 1048575
 ·as_aux_lemma=>
  have HV:=zhd (zbv (m:=mP x) (znl g2))
  have G0:=zhd g0
  have G1:=zhd g1
  have G2:=zhd g2
  clear g0 g1 g2 ht h hb
  go_enter Tryz.func50,Tryz.ntmps50
  go_wp2_with (first|(go_at_call 75;refine(zau _ _ (by assumption) _).mono ?_;rintro e w' ⟨rfl,rfl⟩)|(go_at_call 76;refine(zer _ _ (by assumption) _).mono ?_;rintro e w' ⟨rfl,rfl⟩)|(go_at_call 77;refine(zdz _ _ (by assumption) _).mono ?_;rintro e w' ⟨rfl,rfl⟩))
  go_ret
  exact zal HV.out.symm HB.out
 cases g3:inR x.ep 1099511627775
 ·as_aux_lemma=>
  have HV:=zhd (zbv (m:=mP x) (znm g3))
  have G0:=zhd g0
  have G1:=zhd g1
  have G2:=zhd g2
  have G3:=zhd g3
  clear g0 g1 g2 g3 ht h hb
  go_enter Tryz.func50,Tryz.ntmps50
  go_wp2_with (first|(go_at_call 75;refine(zau _ _ (by assumption) _).mono ?_;rintro e w' ⟨rfl,rfl⟩)|(go_at_call 76;refine(zer _ _ (by assumption) _).mono ?_;rintro e w' ⟨rfl,rfl⟩)|(go_at_call 77;refine(zdz _ _ (by assumption) _).mono ?_;rintro e w' ⟨rfl,rfl⟩))
  go_ret
  exact zal HV.out.symm HB.out
 cases g4:inR x.op 1099511627775
 ·as_aux_lemma=>
  have HV:=zhd (zbv (m:=mP x) (znn g4))
  have G0:=zhd g0
  have G1:=zhd g1
  have G2:=zhd g2
  have G3:=zhd g3
  have G4:=zhd g4
  clear g0 g1 g2 g3 g4 ht h hb
  go_enter Tryz.func50,Tryz.ntmps50
  go_wp2_with (first|(go_at_call 75;refine(zau _ _ (by assumption) _).mono ?_;rintro e w' ⟨rfl,rfl⟩)|(go_at_call 76;refine(zer _ _ (by assumption) _).mono ?_;rintro e w' ⟨rfl,rfl⟩)|(go_at_call 77;refine(zdz _ _ (by assumption) _).mono ?_;rintro e w' ⟨rfl,rfl⟩))
  go_ret
  exact zal HV.out.symm HB.out
 have G0:=zhd g0
 have G1:=zhd g1
 have G2:=zhd g2
 have G3:=zhd g3
 have G4:=zhd g4
 have HM:Hid (zg2 (mP x)=true):=zhd (by show(exK x.kind&&inR x.fr 1048575&&inR x.dst 1048575&&inR x.ep 1099511627775&&inR x.op 1099511627775)=true;rw [g0,g1,g2,g3,g4];rfl)
 have H:=zhd (h.below hb)
 have HT:=zhd (ht.below hb)
 clear g0 g1 g2 g3 g4 ht h hb
 go_enter Tryz.func50,Tryz.ntmps50
 obtain⟨W0,hW0⟩:∃ W0,w.alloc (cells #[int i64 x.kind,int i64 x.fr,int i64 x.dst,int i64 x.ep,int i64 x.op,int i64 x.n,bool x.flag,.string ⟨x.e.1.k.toArray⟩,int i64 x.e.1.s,int i64 x.e.1.u,int i64 x.e.1.o,bool x.e.1.has,slice x.e.2.1 x.e.1.v.length x.e.2.2,slice x.lA x.l.length x.lc,slice x.rA x.ns.length x.rc,int i64 x.each,int i64 x.keep] 51)=W0:=⟨_,rfl⟩
 have hk0:Blk W0 w.heap.size 51 #[int i64 x.kind,int i64 x.fr,int i64 x.dst,int i64 x.ep,int i64 x.op,int i64 x.n,bool x.flag,.string ⟨x.e.1.k.toArray⟩,int i64 x.e.1.s,int i64 x.e.1.u,int i64 x.e.1.o,bool x.e.1.has,slice x.e.2.1 x.e.1.v.length x.e.2.2,slice x.lA x.l.length x.lc,slice x.rA x.ns.length x.rc,int i64 x.each,int i64 x.keep]:=by rw [<-hW0];exact Blk.new w _ _
 rw [hW0] at H HT HB
 have HK:=zhd hk0
 have HW:=zhd hW0
 have d0:=hk0.cell 0
 have d1:=hk0.cell 1
 have d2:=hk0.cell 2
 have d3:=hk0.cell 3
 have d4:=hk0.cell 4
 have d5:=hk0.cell 5
 have d6:=hk0.cell 6
 have d7:=hk0.cell 7
 have d8:=hk0.cell 8
 have d9:=hk0.cell 9
 have d10:=hk0.cell 10
 have d11:=hk0.cell 11
 have d12:=hk0.cell 12
 have d13:=hk0.cell 13
 have d14:=hk0.cell 14
 have d15:=hk0.cell 15
 have d16:=hk0.cell 16
 clear hk0
 obtain⟨m,hm⟩:∃ m,mP x=m:=⟨_,rfl⟩
 have HRT:=zhd fun W h=>zoq x W h
 have HBL:=zhd fun W h=>zor x W h
 have HF:=zhd fun W h=>zfP x.kind W h
 have HKD:Hid (x.kind=m.kind):=zhd (by rw [<-hm];rfl)
 rw [hm] at HRT HBL HM ⊢
 clear hm
 unfold zrl at HRT
 unfold zrm at HBL
 obtain⟨R,hR⟩:∃ R,zbr m=R:=⟨_,rfl⟩
 rw [hR]
 have HRR:=zhd hR
 clear hR
 go_upto_region 3 with(first|(go_at_call 75;refine(zau _ _ (by assumption) _).mono ?_;rintro e w' ⟨rfl,rfl⟩)|(go_at_call 76;refine(zer _ _ (by assumption) _).mono ?_;rintro e w' ⟨rfl,rfl⟩)|(go_at_call 77;refine(zdz _ _ (by assumption) _).mono ?_;rintro e w' ⟨rfl,rfl⟩))
 clear hW0 d0 d1 d2 d3 d4 d5 d6 d7 d8 d9 d10 d11 d12 d13 d14 d15 d16
 refine RelyJ.wp_region_byJ [[],[(0,35)],[],[(2,37)],[],[],[(1,36),(4,3)],[(3,38),(5,4)]] [(0,35),(1,36),(2,37),(3,38),(4,3),(5,4)] (JF W0 (.agg #[int i64 x.kind,int i64 x.fr,int i64 x.dst,int i64 x.ep,int i64 x.op,int i64 x.n,bool x.flag,.string ⟨x.e.1.k.toArray⟩,int i64 x.e.1.s,int i64 x.e.1.u,int i64 x.e.1.o,bool x.e.1.has,slice x.e.2.1 x.e.1.v.length x.e.2.2,slice x.lA x.l.length x.lc,slice x.rA x.ns.length x.rc,int i64 x.each,int i64 x.keep]) m) (by kernel_rfl) (by kernel_rfl) (by kernel_rfl) (by kernel_rfl) (by kernel_rfl) ?_ ?_ ?_
 ·exact fun vs=>⟨(Below.refl _ _).drew,fun h=>(by cases h),fun h=>(by cases h),fun h=>(by cases h),fun h=>(by cases h),fun h=>(by cases h),fun h=>(by cases h),fun h=>(by cases h),fun h=>(by cases h)⟩
 refine RelyJ.stepsZ_cons (by
  as_aux_lemma=>
  intro S vs w' hS hA hJ
  rw [if_pos (show Region.wanted _ _=true from rfl)]
  refine RelyJ.gives_mono (R':=fun v w''=>v=.agg #[int i64 x.kind,int i64 x.fr,int i64 x.dst,int i64 x.ep,int i64 x.op,int i64 x.n,bool x.flag,.string ⟨x.e.1.k.toArray⟩,int i64 x.e.1.s,int i64 x.e.1.u,int i64 x.e.1.o,bool x.e.1.has,slice x.e.2.1 x.e.1.v.length x.e.2.2,slice x.lA x.l.length x.lc,slice x.rA x.ns.length x.rc,int i64 x.each,int i64 x.keep]/\w''=w') ?_ (by rintro v w2 ⟨rfl,rfl⟩;exact hJ.read (Below.refl _ _) 0 (by omega) _ ⟨fun h=>by first|rfl|omega,fun h=>by omega,fun h=>by first|rfl|omega,fun h=>by omega⟩)
  have hk:=HK.out.below hJ.bel HK.out.lt
  have c0:=hk.cell 0
  have c1:=hk.cell 1
  have c2:=hk.cell 2
  have c3:=hk.cell 3
  have c4:=hk.cell 4
  have c5:=hk.cell 5
  have c6:=hk.cell 6
  have c7:=hk.cell 7
  have c8:=hk.cell 8
  have c9:=hk.cell 9
  have c10:=hk.cell 10
  have c11:=hk.cell 11
  have c12:=hk.cell 12
  have c13:=hk.cell 13
  have c14:=hk.cell 14
  have c15:=hk.cell 15
  have c16:=hk.cell 16
  clear hk hJ hA hS
  unfold Rely.gives
  simp only [Rely.sel,List.foldl_nil]
  go_simp
  simp [Rely.GivesR]) ?_
 refine RelyJ.stepsZ_cons (by
  as_aux_lemma=>
  intro S vs w' hS hA hJ
  rw [if_pos (show Region.wanted _ _=true from rfl)]
  have hx:=hJ.v0 (hA ⟨0,Ground.data⟩ (by simp) rfl)
  refine RelyJ.gives_mono (R':=fun v w''=>v=.agg #[bool (rN m),bool true,bool (rE m),bool (rL m),bool (rR m)]/\Below w'.heap.size w' w'') ?_ (by rintro v w2 ⟨rfl,hb⟩;exact hJ.read hb 1 (by omega) _ ⟨fun h=>by omega,fun h=>by first|rfl|omega,fun h=>by omega,fun h=>by first|rfl|omega⟩)
  have HJB:=zhd hJ.bel
  clear hJ hA hS
  unfold Rely.gives
  simp only [Rely.sel,List.foldl_cons,List.foldl_nil,hx]
  go_simp
  simp only [Rely.GivesR]
  refine(HRT.out _ (H.out.below HJB.out)).mono ?_
  rintro e w3 ⟨rfl,hb⟩
  exact⟨_,rfl,rfl,hb⟩) ?_
 refine RelyJ.stepsZ_cons (by
  as_aux_lemma=>
  intro S vs w' hS hA hJ
  rw [if_pos (show Region.wanted _ _=true from rfl)]
  refine RelyJ.gives_mono (R':=fun v w''=>v=.agg #[int i64 x.kind,int i64 x.fr,int i64 x.dst,int i64 x.ep,int i64 x.op,int i64 x.n,bool x.flag,.string ⟨x.e.1.k.toArray⟩,int i64 x.e.1.s,int i64 x.e.1.u,int i64 x.e.1.o,bool x.e.1.has,slice x.e.2.1 x.e.1.v.length x.e.2.2,slice x.lA x.l.length x.lc,slice x.rA x.ns.length x.rc,int i64 x.each,int i64 x.keep]/\w''=w') ?_ (by rintro v w2 ⟨rfl,rfl⟩;exact hJ.read (Below.refl _ _) 2 (by omega) _ ⟨fun h=>by first|rfl|omega,fun h=>by omega,fun h=>by first|rfl|omega,fun h=>by omega⟩)
  have hk:=HK.out.below hJ.bel HK.out.lt
  have c0:=hk.cell 0
  have c1:=hk.cell 1
  have c2:=hk.cell 2
  have c3:=hk.cell 3
  have c4:=hk.cell 4
  have c5:=hk.cell 5
  have c6:=hk.cell 6
  have c7:=hk.cell 7
  have c8:=hk.cell 8
  have c9:=hk.cell 9
  have c10:=hk.cell 10
  have c11:=hk.cell 11
  have c12:=hk.cell 12
  have c13:=hk.cell 13
  have c14:=hk.cell 14
  have c15:=hk.cell 15
  have c16:=hk.cell 16
  clear hk hJ hA hS
  unfold Rely.gives
  simp only [Rely.sel,List.foldl_nil]
  go_simp
  simp [Rely.GivesR]) ?_
 refine RelyJ.stepsZ_cons (by
  as_aux_lemma=>
  intro S vs w' hS hA hJ
  rw [if_pos (show Region.wanted _ _=true from rfl)]
  have hx:=hJ.v2 (hA ⟨2,Ground.data⟩ (by simp) rfl)
  refine RelyJ.gives_mono (R':=fun v w''=>v=.agg #[bool (bN m),bool (bF m),bool (bE m),bool (bL m),bool (bR m)]/\Below w'.heap.size w' w'') ?_ (by rintro v w2 ⟨rfl,hb⟩;exact hJ.read hb 3 (by omega) _ ⟨fun h=>by omega,fun h=>by first|rfl|omega,fun h=>by omega,fun h=>by first|rfl|omega⟩)
  have HJB:=zhd hJ.bel
  clear hJ hA hS
  unfold Rely.gives
  simp only [Rely.sel,List.foldl_cons,List.foldl_nil,hx]
  go_simp
  simp only [Rely.GivesR]
  refine(HBL.out _ (H.out.below HJB.out)).mono ?_
  rintro e w3 ⟨rfl,hb⟩
  exact⟨_,rfl,rfl,hb⟩) ?_
 refine RelyJ.stepsZ_cons (by
  as_aux_lemma=>
  intro S vs w' hS hA hJ
  rw [if_pos (show Region.wanted _ _=true from rfl)]
  have hS6:S 6=false:=by
   cases h6:S 6
   ·rfl
   ·exact absurd (hJ.c6 h6) (by rw [hS];decide)
  refine RelyJ.gives_mono (R':=fun v w''=>v=.pointer (some ⟨w'.heap.size,0,none⟩)/\w''=w'.alloc (cells #[bool false,bool false,bool false,bool false,bool false] 143)) ?_ (by rintro v w2 ⟨rfl,rfl⟩;exact hJ.alloc4 hS6)
  clear hJ hA hS hS6
  unfold Rely.gives
  simp only [Rely.sel,List.foldl_nil]
  go_simp
  simp [Rely.GivesR]) ?_
 refine RelyJ.stepsZ_cons (by
  as_aux_lemma=>
  intro S vs w' hS hA hJ
  rw [if_pos (show Region.wanted _ _=true from rfl)]
  have hS7:S 7=false:=by
   cases h7:S 7
   ·rfl
   ·exact absurd (hJ.c7 h7) (by rw [hS];decide)
  refine RelyJ.gives_mono (R':=fun v w''=>v=.pointer (some ⟨w'.heap.size,0,none⟩)/\w''=w'.alloc (cells #[bool false,bool false,bool false,bool false,bool false] 143)) ?_ (by rintro v w2 ⟨rfl,rfl⟩;exact hJ.alloc5 hS7)
  clear hJ hA hS hS7
  unfold Rely.gives
  simp only [Rely.sel,List.foldl_nil]
  go_simp
  simp [Rely.GivesR]) ?_
 refine RelyJ.stepsZ_cons (by
  as_aux_lemma=>
  intro S vs w' hS hA hJ
  rw [if_pos (show Region.wanted _ _=true from rfl)]
  have hx:=hJ.v1 (hA ⟨1,Ground.data⟩ (by simp) rfl)
  have hd:=hA ⟨4,Ground.data⟩ (by simp) rfl
  obtain⟨p,hp,hp0,hp1,hp2'⟩:=hJ.v4 hd
  have hz:=hp1 hS
  refine RelyJ.gives_mono (R':=fun v w''=>w''=(((((w'.setCell ⟨p,0,none⟩ (bool (rN m))).setCell ⟨p,1,none⟩ (bool true)).setCell ⟨p,2,none⟩ (bool (rE m))).setCell ⟨p,3,none⟩ (bool (rL m))).setCell ⟨p,4,none⟩ (bool (rR m)))) ?_ (by rintro v w2 rfl;exact hJ.store6 hd hp hp0 hz)
  have r0:=hz.cell 0
  have r1:=hz.cell 1
  have r2:=hz.cell 2
  have r3:=hz.cell 3
  have r4:=hz.cell 4
  have z0:=hz.frozen 0
  have z1:=hz.frozen 1
  have z2:=hz.frozen 2
  have z3:=hz.frozen 3
  have z4:=hz.frozen 4
  clear hJ hA hS hp0 hp1 hp2' hz hd
  unfold Rely.gives
  simp only [Rely.sel,List.foldl_cons,List.foldl_nil,hx,hp]
  go_simp
  simp [Rely.GivesR]) ?_
 refine RelyJ.stepsZ_cons (by
  as_aux_lemma=>
  intro S vs w' hS hA hJ
  rw [if_pos (show Region.wanted _ _=true from rfl)]
  have hx:=hJ.v3 (hA ⟨3,Ground.data⟩ (by simp) rfl)
  have hd:=hA ⟨5,Ground.data⟩ (by simp) rfl
  obtain⟨p,hp,hp0,hp1,hp2'⟩:=hJ.v5 hd
  have hz:=hp1 hS
  refine RelyJ.gives_mono (R':=fun v w''=>w''=(((((w'.setCell ⟨p,0,none⟩ (bool (bN m))).setCell ⟨p,1,none⟩ (bool (bF m))).setCell ⟨p,2,none⟩ (bool (bE m))).setCell ⟨p,3,none⟩ (bool (bL m))).setCell ⟨p,4,none⟩ (bool (bR m)))) ?_ (by rintro v w2 rfl;exact hJ.store7 hd hp hp0 hz)
  have r0:=hz.cell 0
  have r1:=hz.cell 1
  have r2:=hz.cell 2
  have r3:=hz.cell 3
  have r4:=hz.cell 4
  have z0:=hz.frozen 0
  have z1:=hz.frozen 1
  have z2:=hz.frozen 2
  have z3:=hz.frozen 3
  have z4:=hz.frozen 4
  clear hJ hA hS hp0 hp1 hp2' hz hd
  unfold Rely.gives
  simp only [Rely.sel,List.foldl_cons,List.foldl_nil,hx,hp]
  go_simp
  simp [Rely.GivesR]) ?_
 exact RelyJ.stepsZ_nil
 intro S vs w' hS hJ
 have x0:=hJ.v0 (hS 0 (by decide))
 have x1:=hJ.v1 (hS 1 (by decide))
 have x2:=hJ.v2 (hS 2 (by decide))
 have x3:=hJ.v3 (hS 3 (by decide))
 obtain⟨p3,hp3,_,_,hb3⟩:=hJ.v4 (hS 4 (by decide))
 obtain⟨p4,hp4,_,_,hb4,_⟩:=hJ.v5 (hS 5 (by decide))
 have HP3:=zhd (hb3 (hS 6 (by decide)))
 have HP4:=zhd (hb4 (hS 7 (by decide)))
 have HB1:=zhd (HB.out.trans (hJ.bel.mono HB.out.size))
 have HT1:=zhd (HT.out.below hJ.bel)
 have c0:=(HK.out.below hJ.bel HK.out.lt).cell 0
 simp only [Rely.sel,List.foldl_cons,List.foldl_nil,x0,x1,x2,x3,hp3,hp4]
 simp only [Act.put,List.setIfInBounds_toArray,List.set_cons_succ,List.set_cons_zero]
 have HFK:=zhd (HF.out w' HT1.out)
 unfold zhv zvn b5 at HFK
 have HV:Hid (R=if(zcI (zfO x.kind) (rN m) (bN m)&&(zcI (zf2 x.kind) true (bF m)&&(zcI (zh5 x.kind) (rE m) (bE m)&&(zcI (zf3 x.kind) (rL m) (bL m)&&zcI (zkT x.kind) (rR m) (bR m)))))=true then 0 else 2):=zhd (by
  rw [<-HRR.out]
  unfold zbr okM
  rw [HM.out,HKD.out,Bool.true_and])
 clear hS hJ x0 x1 x2 x3 hp3 hp4 hb3 hb4 HKD HM HRT HBL HF H HK HRR
 generalize zfO x.kind=h0 at HFK HV
 generalize zf2 x.kind=h1 at HFK HV
 generalize zh5 x.kind=h2 at HFK HV
 generalize zf3 x.kind=h3 at HFK HV
 generalize zkT x.kind=h4 at HFK HV
 generalize rN m=r0 at HP3 HV
 generalize rE m=r2 at HP3 HV
 generalize rL m=r3 at HP3 HV
 generalize rR m=r4 at HP3 HV
 generalize bN m=b0 at HP4 HV
 generalize bF m=b1 at HP4 HV
 generalize bE m=b2 at HP4 HV
 generalize bL m=b3 at HP4 HV
 generalize bR m=b4 at HP4 HV
 go_wp2_with fail
 refine HFK.out.mono ?_
 rintro e w5 ⟨rfl,hb⟩
 have HB5:=zhd (HB1.out.trans (hb.mono HB1.out.size))
 have HQ3:=zhd (HP3.out.below hb HP3.out.lt)
 have HQ4:=zhd (HP4.out.below hb HP4.out.lt)
 clear hb c0 HP3 HP4 HFK
 have u0:=HQ3.out.cell 0
 have y0:=HQ4.out.cell 0
 have ix0:=fun W=>zwj h0 h1 h2 h3 h4 W
 have u1:=HQ3.out.cell 1
 have y1:=HQ4.out.cell 1
 have ix1:=fun W=>zwk h0 h1 h2 h3 h4 W
 have u2:=HQ3.out.cell 2
 have y2:=HQ4.out.cell 2
 have ix2:=fun W=>zrb h0 h1 h2 h3 h4 W
 have u3:=HQ3.out.cell 3
 have y3:=HQ4.out.cell 3
 have ix3:=fun W=>zwl h0 h1 h2 h3 h4 W
 have u4:=HQ3.out.cell 4
 have y4:=HQ4.out.cell 4
 have ix4:=fun W=>zwm h0 h1 h2 h3 h4 W
 clear HQ3 HQ4
 go_wp2
 go_loop [42] (fun i=>∃ k:Nat,k<=5/\i=int i64 k/\Hid ((0<k->zcI h0 r0 b0=true)/\(1<k->zcI h1 true b1=true)/\(2<k->zcI h2 r2 b2=true)/\(3<k->zcI h3 r3 b3=true)/\(4<k->zcI h4 r4 b4=true))) (fun i=>5 - (intOf i).toNat)
 case atStart=>exact⟨0,by omega,rfl,zhd ⟨by omega,by omega,by omega,by omega,by omega⟩⟩
 case round=>
  obtain⟨k,hk,rfl,HZ⟩:=hrel
  match k,hk,HZ with
  | 0,_,HZ=>
   rcases Bool.eq_false_or_eq_true h0 with g|g
   ·as_aux_lemma=>
    subst g
    rcases Bool.eq_false_or_eq_true r0 with g|g
    ·subst g
     have HY:Hid (zcI true true b0=true):=zhd rfl
     go_wp2
     go_round
     case rel=>exact⟨1,by omega,rfl,zhd ⟨fun _=>HY.out,(by omega),(by omega),(by omega),(by omega)⟩⟩
     case measure=>simp [intOf]
    ·subst g
     have HY:Hid (R=2):=zhd (by
      have f0:zcI true false b0=false:=rfl
      rw [HV.out,f0]
      simp)
     go_wp2
     go_ret
     exact zal HY.out.symm HB5.out
   ·as_aux_lemma=>
    subst g
    rcases Bool.eq_false_or_eq_true b0 with g|g
    ·subst g
     have HY:Hid (zcI false r0 true=true):=zhd rfl
     go_wp2
     go_round
     case rel=>exact⟨1,by omega,rfl,zhd ⟨fun _=>HY.out,(by omega),(by omega),(by omega),(by omega)⟩⟩
     case measure=>simp [intOf]
    ·subst g
     have HY:Hid (R=2):=zhd (by
      have f0:zcI false r0 false=false:=rfl
      rw [HV.out,f0]
      simp)
     go_wp2
     go_ret
     exact zal HY.out.symm HB5.out
  | 1,_,HZ=>
   rcases Bool.eq_false_or_eq_true h1 with g|g
   ·as_aux_lemma=>
    subst g
    have HY:Hid (zcI true true b1=true):=zhd rfl
    go_wp2
    go_round
    case rel=>exact⟨2,by omega,rfl,zhd ⟨fun _=>HZ.out.1 (by omega),fun _=>HY.out,(by omega),(by omega),(by omega)⟩⟩
    case measure=>simp [intOf]
   ·as_aux_lemma=>
    subst g
    rcases Bool.eq_false_or_eq_true b1 with g|g
    ·subst g
     have HY:Hid (zcI false true true=true):=zhd rfl
     go_wp2
     go_round
     case rel=>exact⟨2,by omega,rfl,zhd ⟨fun _=>HZ.out.1 (by omega),fun _=>HY.out,(by omega),(by omega),(by omega)⟩⟩
     case measure=>simp [intOf]
    ·subst g
     have HY:Hid (R=2):=zhd (by
      have f1:zcI false true false=false:=rfl
      rw [HV.out,f1]
      simp)
     go_wp2
     go_ret
     exact zal HY.out.symm HB5.out
  | 2,_,HZ=>
   rcases Bool.eq_false_or_eq_true h2 with g|g
   ·as_aux_lemma=>
    subst g
    rcases Bool.eq_false_or_eq_true r2 with g|g
    ·subst g
     have HY:Hid (zcI true true b2=true):=zhd rfl
     go_wp2
     go_round
     case rel=>exact⟨3,by omega,rfl,zhd ⟨fun _=>HZ.out.1 (by omega),fun _=>HZ.out.2.1 (by omega),fun _=>HY.out,(by omega),(by omega)⟩⟩
     case measure=>simp [intOf]
    ·subst g
     have HY:Hid (R=2):=zhd (by
      have f2:zcI true false b2=false:=rfl
      rw [HV.out,f2]
      simp)
     go_wp2
     go_ret
     exact zal HY.out.symm HB5.out
   ·as_aux_lemma=>
    subst g
    rcases Bool.eq_false_or_eq_true b2 with g|g
    ·subst g
     have HY:Hid (zcI false r2 true=true):=zhd rfl
     go_wp2
     go_round
     case rel=>exact⟨3,by omega,rfl,zhd ⟨fun _=>HZ.out.1 (by omega),fun _=>HZ.out.2.1 (by omega),fun _=>HY.out,(by omega),(by omega)⟩⟩
     case measure=>simp [intOf]
    ·subst g
     have HY:Hid (R=2):=zhd (by
      have f2:zcI false r2 false=false:=rfl
      rw [HV.out,f2]
      simp)
     go_wp2
     go_ret
     exact zal HY.out.symm HB5.out
  | 3,_,HZ=>
   rcases Bool.eq_false_or_eq_true h3 with g|g
   ·as_aux_lemma=>
    subst g
    rcases Bool.eq_false_or_eq_true r3 with g|g
    ·subst g
     have HY:Hid (zcI true true b3=true):=zhd rfl
     go_wp2
     go_round
     case rel=>exact⟨4,by omega,rfl,zhd ⟨fun _=>HZ.out.1 (by omega),fun _=>HZ.out.2.1 (by omega),fun _=>HZ.out.2.2.1 (by omega),fun _=>HY.out,(by omega)⟩⟩
     case measure=>simp [intOf]
    ·subst g
     have HY:Hid (R=2):=zhd (by
      have f3:zcI true false b3=false:=rfl
      rw [HV.out,f3]
      simp)
     go_wp2
     go_ret
     exact zal HY.out.symm HB5.out
   ·as_aux_lemma=>
    subst g
    rcases Bool.eq_false_or_eq_true b3 with g|g
    ·subst g
     have HY:Hid (zcI false r3 true=true):=zhd rfl
     go_wp2
     go_round
     case rel=>exact⟨4,by omega,rfl,zhd ⟨fun _=>HZ.out.1 (by omega),fun _=>HZ.out.2.1 (by omega),fun _=>HZ.out.2.2.1 (by omega),fun _=>HY.out,(by omega)⟩⟩
     case measure=>simp [intOf]
    ·subst g
     have HY:Hid (R=2):=zhd (by
      have f3:zcI false r3 false=false:=rfl
      rw [HV.out,f3]
      simp)
     go_wp2
     go_ret
     exact zal HY.out.symm HB5.out
  | 4,_,HZ=>
   rcases Bool.eq_false_or_eq_true h4 with g|g
   ·as_aux_lemma=>
    subst g
    rcases Bool.eq_false_or_eq_true r4 with g|g
    ·subst g
     have HY:Hid (zcI true true b4=true):=zhd rfl
     go_wp2
     go_round
     case rel=>exact⟨5,by omega,rfl,zhd ⟨fun _=>HZ.out.1 (by omega),fun _=>HZ.out.2.1 (by omega),fun _=>HZ.out.2.2.1 (by omega),fun _=>HZ.out.2.2.2.1 (by omega),fun _=>HY.out⟩⟩
     case measure=>simp [intOf]
    ·subst g
     have HY:Hid (R=2):=zhd (by
      have f4:zcI true false b4=false:=rfl
      rw [HV.out,f4]
      simp)
     go_wp2
     go_ret
     exact zal HY.out.symm HB5.out
   ·as_aux_lemma=>
    subst g
    rcases Bool.eq_false_or_eq_true b4 with g|g
    ·subst g
     have HY:Hid (zcI false r4 true=true):=zhd rfl
     go_wp2
     go_round
     case rel=>exact⟨5,by omega,rfl,zhd ⟨fun _=>HZ.out.1 (by omega),fun _=>HZ.out.2.1 (by omega),fun _=>HZ.out.2.2.1 (by omega),fun _=>HZ.out.2.2.2.1 (by omega),fun _=>HY.out⟩⟩
     case measure=>simp [intOf]
    ·subst g
     have HY:Hid (R=2):=zhd (by
      have f4:zcI false r4 false=false:=rfl
      rw [HV.out,f4]
      simp)
     go_wp2
     go_ret
     exact zal HY.out.symm HB5.out
  | 5,_,HZ=>
   have HY:Hid (R=0):=zhd (by
    rw [HV.out,HZ.out.1 (by omega),HZ.out.2.1 (by omega),HZ.out.2.2.1 (by omega),HZ.out.2.2.2.1 (by omega),HZ.out.2.2.2.2 (by omega)]
    rfl)
   go_wp2
   go_ret
   exact zal HY.out.symm HB5.out
end
end Go.Proofs.YtahnjkkgojfdmaaGreatDoor
