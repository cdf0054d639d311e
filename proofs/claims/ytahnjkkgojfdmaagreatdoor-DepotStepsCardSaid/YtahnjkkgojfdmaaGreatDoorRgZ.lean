import Derived.Test.YtahnjkkgojfdmaaGreatDoorSames
import Derived.Test.YtahnjkkgojfdmaaGreatDoorFrZ
set_option maxRecDepth 100000
set_option maxHeartbeats 2000000
set_option linter.unusedVariables false
namespace Go.Proofs.YtahnjkkgojfdmaaGreatDoor
section
namespace Rg
abbrev Pt:=Nat×Int
def ltP(p q:Pt):Prop:=p.1<q.1\/(p.1=q.1/\p.2<q.2)
instance(p q:Pt):Decidable (ltP p q):=inferInstanceAs (Decidable (_\/_))
end Rg
end
section
open Go.RowKit Mem Rg
theorem zqX:∀ (l:List Int),(∀ i (h:i+1<l.length),l[i]<l[i+1])->l.Pairwise (·< ·)
 | [],_=>List.Pairwise.nil
 | [a],_=>by simp
 | a :: b :: l,h=>by
  have ih:=zqX (b :: l) (fun i g=>h (i+1) (by simpa using g));have d:a<b:=h 0 (by simp);refine List.pairwise_cons.2 ⟨fun x c=>?_,ih⟩;rcases List.mem_cons.1 c with rfl|c
  ·exact d
  ·have:=(List.pairwise_cons.1 ih).1 x c;omega
theorem znf{l:List Int}(h:l.Pairwise (·< ·))(i j:Nat)(c:i<l.length)(a:j<l.length)(b:i<j):l[i]<l[j]:=
 List.pairwise_iff_getElem.1 h i j c a b
def OkR(ns:List Int)(e k:Int):Prop:=1<=ns.length/\ns.length<=64/\1<=e/\e<=64/\1<=k/\k<=ns.length/\(∀ x∈ns,0<=x/\x<=1048575)/\ns.Pairwise (·< ·)
instance(ns:List Int)(e k:Int):Decidable (OkR ns e k):=inferInstanceAs (Decidable (_/\_))
theorem zcP{w:World}{B:Nat}{A:Option Addr}{ns:List Int}(h:Row w B A (ns.map iV))(g:0<ns.length) :
 ∃ b o,A=some ⟨b,o,none⟩/\b<B/\∀ i (a:i<ns.length),w.cell? ⟨b,o+i,none⟩=some (.int .i64 ns[i]):=by
 obtain⟨b,o,d,c,hc⟩:=h.open_ (by rw [List.length_map];exact g);exact⟨b,o,d,c,fun i a=>(hc i (by rw [List.length_map];exact a)).trans (congrArg some (List.getElem_map (f:=iV) (h:=by simpa using a)))⟩
theorem zs8(B c n:Nat)(A:Option Addr)(ns:List Int)(j:n=ns.length)(m:ns.Pairwise (·< ·))(w:World)(h:Row w B A (ns.map iV))(hl:n<=1000000) :
 Calls Tryz.prog 139 #[.slice A n c] w (zss (.bool true) w):=by
 have r:=zhd h;have s:=zhd m;have a:=zhd j;have z:(n:Int)<=1000000:=by omega
 clear h m j;go_enter Tryz.func139,Tryz.ntmps139
 go_wp2;go_loopw [7] (fun i wr=>∃ k:Nat,k<=n/\i=.int .i64 k/\Hid (∃ q,wr=w.drewN q)) (fun i _=>n - (intOf i).toNat)
 case atStart=>exact⟨0,by omega,rfl,zhd ⟨0,rfl⟩⟩
 case round=>
  obtain⟨k,J,rfl,g⟩:=hrel;by_cases D:k+1<n
  ·obtain⟨b,o,rfl,_,hc⟩:=zcP (zcW r.out g.out) (by rw [<-a.out];omega);have u:=hc k (by rw [<-a.out];omega);have t:=hc (k+1) (by rw [<-a.out];omega);have d:=znf s.out k (k+1) (by rw [<-a.out];omega) (by rw [<-a.out];omega) (by omega);obtain⟨x,p⟩:∃ x,ns[k]'(by rw [<-a.out];omega)=x:=⟨_,rfl⟩;obtain⟨y,l⟩:∃ y,ns[k+1]'(by rw [<-a.out];omega)=y:=⟨_,rfl⟩;rw [p] at u d;rw [l] at t d;have C:(0:Int)<=(k:Int):=by omega
   have G:(k:Int)+1<(n:Int):=by omega
   have v:(k:Int)<(n:Int) - 1:=by omega
   have I:(k:Int)<(n:Int):=by omega
   have F:(0:Int)<=(k:Int)+1:=by omega
   have E:decide (y<=x)=false:=by simpa using d
   have K:IntKind.i64.wrap ((k:Int)+1)=(k:Int)+1:=IntWalk.i64_in _ (by omega);have L:((k:Int)+1).toNat=k+1:=by omega
   clear hc p l;go_wp2;go_quiet (fail)
   go_wp2;go_roundw
   case rel=>exact⟨k+1,by omega,by go_num,zhd (by obtain⟨q,rfl⟩:=g.out;exact⟨_,World.drewN_drewN _ _ _⟩)⟩
   case measure=>simp [intOf];omega
  ·have v:¬ (k:Int)<(n:Int) - 1:=by omega
   go_wp2;go_ret;exact⟨rfl,g.out⟩
theorem zqY(B c n:Nat)(A:Option Addr)(ns:List Int)(s:n=ns.length)(t:¬ ns.Pairwise (·< ·))(w:World)(h:Row w B A (ns.map iV))(hl:n<=1000000) :
 Calls Tryz.prog 139 #[.slice A n c] w (zss (.bool false) w):=by
 have z:=zhd h;have C:=zhd t;have a:=zhd s;have G:(n:Int)<=1000000:=by omega
 clear h t s;go_enter Tryz.func139,Tryz.ntmps139
 go_wp2;go_loopw [7] (fun i wr=>∃ k:Nat,k<=n/\i=.int .i64 k/\Hid (∃ q,wr=w.drewN q)/\Hid (∀ i (g:i+1<ns.length),i<k->ns[i]<ns[i+1])) (fun i _=>n - (intOf i).toNat)
 case atStart=>exact⟨0,by omega,rfl,zhd ⟨0,rfl⟩,zhd fun i _ h=>absurd h (Nat.not_lt_zero _)⟩
 case round=>
  obtain⟨k,N,rfl,p,u⟩:=hrel;by_cases J:k+1<n
  ·obtain⟨b,o,rfl,_,hc⟩:=zcP (zcW z.out p.out) (by rw [<-a.out];omega);have F:=hc k (by rw [<-a.out];omega);have E:=hc (k+1) (by rw [<-a.out];omega);have j:=fun(h:ns[k]'(by rw [<-a.out];omega)<ns[k+1]'(by rw [<-a.out];omega))=>zhd (show ∀ i (g:i+1<ns.length),i<k+1->ns[i]<ns[i+1] from fun i g O=>by
    rcases Nat.lt_or_ge i k with r|r
    ·exact u.out i g r
    ·obtain rfl:i=k:=by omega
     exact h)
   obtain⟨x,m⟩:∃ x,ns[k]'(by rw [<-a.out];omega)=x:=⟨_,rfl⟩;obtain⟨y,l⟩:∃ y,ns[k+1]'(by rw [<-a.out];omega)=y:=⟨_,rfl⟩;rw [m] at F;rw [l] at E;rw [m,l] at j;have I:(0:Int)<=(k:Int):=by omega
   have L:(k:Int)+1<(n:Int):=by omega
   have Q:(k:Int)<(n:Int) - 1:=by omega
   have M:(k:Int)<(n:Int):=by omega
   have K:(0:Int)<=(k:Int)+1:=by omega
   have R:IntKind.i64.wrap ((k:Int)+1)=(k:Int)+1:=IntWalk.i64_in _ (by omega);have S:((k:Int)+1).toNat=k+1:=by omega
   clear hc m l;by_cases d:x<y
   ·have D:decide (y<=x)=false:=by simpa using d
    have v:=j d;clear j d;go_wp2;go_quiet (fail)
    go_wp2;go_roundw
    case rel=>exact⟨k+1,by omega,by go_num,zhd (by obtain⟨q,rfl⟩:=p.out;exact⟨_,World.drewN_drewN _ _ _⟩),v⟩
    case measure=>simp [intOf];omega
   ·have D:decide (y<=x)=true:=by simpa using d
    clear j d;go_wp2;go_quiet (fail)
    go_wp2;go_ret;exact⟨rfl,by obtain⟨q,rfl⟩:=p.out;exact⟨_,World.drewN_drewN _ _ _⟩⟩
  ·exact absurd (zqX ns fun i g=>u.out i g (by have:=a.out;omega)) C.out
theorem zs9(A:Option Addr)(n c:Nat)(ns:List Int)(e k:Int)(i:n=ns.length)(ok:OkR ns e k)(w:World)(h:Row w w.heap.size A (ns.map iV)) :
 Calls Tryz.prog 109 #[.agg #[.slice A n c,.int .i64 e,.int .i64 k]] w fun x w'=>x=.returned (.int .i64 0)/\Below w.heap.size w w':=by
 obtain⟨t,v,D,E,C,u,a,d⟩:=ok;have g:=fun W (l:Below w.heap.size w W)=>zs8 w.heap.size c n A ns i d W (h.below l) (by omega);obtain⟨b,o,rfl,l,hc⟩:=zcP h (by omega);have r:=hc 0 (by omega);have s:=hc (n - 1) (by omega);have p0:=(a _ (List.getElem_mem (by omega:0<ns.length))).1;have B:=(a _ (List.getElem_mem (by omega:n - 1<ns.length))).2;obtain⟨x,p⟩:∃ x,ns[0]'(by omega)=x:=⟨_,rfl⟩;obtain⟨y,j⟩:∃ y,ns[n - 1]'(by omega)=y:=⟨_,rfl⟩;rw [p] at r p0;rw [j] at s B;rw [Nat.add_zero] at r;have z:=zhd g;obtain⟨m,rfl⟩:∃ m,n=m+1:=⟨n - 1,by omega⟩;rw [Nat.add_sub_cancel] at s;have q1:(k:Int)<=((m:Int)+1):=by omega
 have F:(m:Int)+1<=64:=by omega
 have q3:(0:Int)<=(m:Int):=by omega
 clear g hc p j a d i h t v u;go_enter Tryz.func109,Tryz.ntmps109
 go_wp2_with fail
 refine(z.out _ ?_).mono ?_
 ·exact zbl
 rintro G w1 ⟨rfl,q,rfl⟩;go_wp2;go_ret;exact⟨rfl,(zbl).trans (zaU _ _ _)⟩
theorem zqZ(A:Option Addr)(n c:Nat)(ns:List Int)(e k:Int)(j:n=ns.length)(hl:n<=maxLen)(bad:¬ OkR ns e k)(w:World)(h:Row w w.heap.size A (ns.map iV)) :
 Calls Tryz.prog 109 #[.agg #[.slice A n c,.int .i64 e,.int .i64 k]] w fun x w'=>x=.returned (.int .i64 2)/\Below w.heap.size w w':=by
 have g:Below w.heap.size w (w.alloc (.cells #[.slice A n c,.int .i64 e,.int .i64 k] 49)):=zbl;have a:=zhd g;unfold maxLen at hl;by_cases z:(n:Int)<1
 ·clear bad h j g;go_enter Tryz.func109,Tryz.ntmps109
  go_wp2;go_ret;exact⟨rfl,a.out⟩
 by_cases D:(64:Int)<(n:Int)
 ·clear bad h j g;go_enter Tryz.func109,Tryz.ntmps109
  go_wp2;go_ret;exact⟨rfl,a.out⟩
 by_cases M:e<1
 ·clear bad h j g;go_enter Tryz.func109,Tryz.ntmps109
  go_wp2;go_ret;exact⟨rfl,a.out⟩
 by_cases N:64<e
 ·clear bad h j g;go_enter Tryz.func109,Tryz.ntmps109
  go_wp2;go_ret;exact⟨rfl,a.out⟩
 by_cases L:k<1
 ·clear bad h j g;go_enter Tryz.func109,Tryz.ntmps109
  go_wp2;go_ret;exact⟨rfl,a.out⟩
 by_cases C:(n:Int)<k
 ·clear bad h j g;go_enter Tryz.func109,Tryz.ntmps109
  go_wp2;go_ret;exact⟨rfl,a.out⟩
 obtain⟨b,o,rfl,t,hc⟩:=zcP h (by omega);have d:=hc 0 (by omega);have u:=hc (n - 1) (by omega);have O:=zhd bad;have B:=zhd h;have F:=zhd j;have s:Hid (0<=ns[0]'(by omega)->ns[n - 1]'(by omega)<=1048575->¬ ns.Pairwise (·< ·)):=zhd (fun p0 I r=>bad ⟨by omega,by omega,by omega,by omega,by omega,by omega,fun x l=>by
  obtain⟨i,v,rfl⟩:=List.getElem_of_mem l;have K:ns[0]'(by omega)<=ns[i]:=by
   rcases Nat.eq_zero_or_pos i with d|d
   ·subst d;omega
   ·have:=znf r 0 i (by omega) v d;omega
  have J:ns[i]<=ns[n - 1]'(by omega):=by
   rcases Nat.lt_or_ge i (n - 1) with d|d
   ·have:=znf r i (n - 1) v (by omega) d;omega
   ·obtain rfl:i=n - 1:=by omega
    omega
  omega,r⟩)
 obtain⟨x,l⟩:∃ x,ns[0]'(by omega)=x:=⟨_,rfl⟩;obtain⟨y,p⟩:∃ y,ns[n - 1]'(by omega)=y:=⟨_,rfl⟩;rw [l] at d;rw [p] at u;rw [l,p] at s;rw [Nat.add_zero] at d;obtain⟨m,rfl⟩:∃ m,n=m+1:=⟨n - 1,by omega⟩;rw [Nat.add_sub_cancel] at u;have q1:(k:Int)<=((m:Int)+1):=by omega
 have Q:(m:Int)+1<=64:=by omega
 have q3:(0:Int)<=(m:Int):=by omega
 clear hc l p j h bad g z D C;have E:m+1<=1000000:=by omega
 by_cases p0:x<0
 ·go_enter Tryz.func109,Tryz.ntmps109
  go_wp2;go_ret;exact⟨rfl,a.out⟩
 by_cases I:1048575<y
 ·go_enter Tryz.func109,Tryz.ntmps109
  go_wp2;go_ret;exact⟨rfl,a.out⟩
 have G:=zhd fun W (t:Below w.heap.size w W)=>zqY w.heap.size c (m+1) (some ⟨b,o,none⟩) ns F.out (s.out (by omega) (by omega)) W (B.out.below t) E;go_enter Tryz.func109,Tryz.ntmps109
 go_wp2_with fail
 refine(G.out _ a.out).mono ?_;rintro R w1 ⟨rfl,q,rfl⟩;go_wp2;go_ret;exact⟨rfl,a.out.trans (zaU _ _ _)⟩
end
section
open Go.RowKit Mem Rg
end
end Go.Proofs.YtahnjkkgojfdmaaGreatDoor
