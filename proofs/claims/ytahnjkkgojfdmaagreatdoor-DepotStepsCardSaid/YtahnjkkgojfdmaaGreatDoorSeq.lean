import Derived.Test.YtahnjkkgojfdmaaGreatDoorCore
namespace Go.Proofs.YtahnjkkgojfdmaaGreatDoor
section
namespace Be
section
variable {α : Type} (get : List UInt8 → α × Nat × Int)
def znG(x:α)(r:List α×Int):List α×Int:=if r.2=0 then(x :: r.1,0) else([],r.2)
def zkP:Nat->List UInt8->List α×Int
 | 0,_=>([],0)
 | f+1,bs=>if bs.length=0 then([],0) else if(get bs).2.2=0 then znG (get bs).1 (zkP f (bs.drop (get bs).2.1)) else([],(get bs).2.2)
def zcG(bs:List UInt8):List α×Int:=zkP get bs.length bs
def Good:Prop:=∀ bs,(get bs).2.2=0->1<=(get bs).2.1/\(get bs).2.1<=bs.length
def zkQ(acc:List α)(r:List α×Int):List α×Int:=if r.2=0 then(acc++r.1,0) else([],r.2)
variable {get}
theorem zr9(c:Good get):∀ (f g:Nat) (bs:List UInt8),bs.length<=f->bs.length<=g->zkP get f bs=zkP get g bs:=by
 intro f
 induction f with
 | zero=>
  intro g bs h _;have:bs.length=0:=by omega
  cases g with
  | zero=>rfl
  | succ g=>simp [zkP,this]
 | succ f ih=>
  intro g bs h d;cases g with
  | zero=>
   have:bs.length=0:=by omega
   simp [zkP,this]
  | succ g=>
   unfold zkP;by_cases b:bs.length=0
   ·rw [if_pos b,if_pos b]
   ·rw [if_neg b,if_neg b];by_cases a:(get bs).2.2=0
    ·rw [if_pos a,if_pos a];have:=c bs a;rw [ih g _ (by rw [List.length_drop];omega) (by rw [List.length_drop];omega)]
    ·rw [if_neg a,if_neg a]
theorem zuj:zcG get []=([],0):=rfl
theorem ziv(b:Good get)(bs:List UInt8)(h:bs.length≠0)(a:(get bs).2.2=0):zcG get bs=znG (get bs).1 (zcG get (bs.drop (get bs).2.1)):=by
 have:=b bs a;unfold zcG;obtain⟨n,c⟩:∃ n,bs.length=n+1:=⟨bs.length - 1,by omega⟩;rw [c,zkP,if_neg h,if_pos a];rw [zr9 b n (bs.drop (get bs).2.1).length _ (by rw [List.length_drop];omega) (Nat.le_refl _)]
theorem zpl(bs:List UInt8)(h:bs.length≠0)(b:(get bs).2.2≠0):zcG get bs=([],(get bs).2.2):=by
 unfold zcG;obtain⟨n,a⟩:∃ n,bs.length=n+1:=⟨bs.length - 1,by omega⟩;rw [a,zkP,if_neg h,if_neg b]
theorem zsa(r:List α×Int)(h:r.2≠0->r.1=[]):zkQ [] r=r:=by
 unfold zkQ;by_cases a:r.2=0
 ·rw [if_pos a,List.nil_append];exact Prod.ext rfl a.symm
 ·rw [if_neg a];exact Prod.ext (h a).symm rfl
theorem zsb(d:Good get)(bs:List UInt8):(zcG get bs).2≠0->(zcG get bs).1=[]:=by
 intro h;by_cases a:bs.length=0
 ·rw [List.length_eq_zero_iff.1 a] at h;exact absurd rfl h
 ·by_cases c:(get bs).2.2=0
  ·rw [ziv d bs a c] at h ⊢;unfold znG at h ⊢;by_cases b:(zcG get (bs.drop (get bs).2.1)).2=0
   ·rw [if_pos b] at h;exact absurd rfl h
   ·rw [if_neg b]
  ·rw [zpl bs a c]
theorem zhK(a:Good get)(bs:List UInt8):zcG get bs=zkQ [] (zcG get bs):=(zsa _ (zsb a bs)).symm
theorem zjI(d:Good get)(b:List α)(bs:List UInt8)(h:bs.length≠0)(c:(get bs).2.2=0):zkQ b (zcG get bs)=zkQ (b++[(get bs).1]) (zcG get (bs.drop (get bs).2.1)):=by
 rw [ziv d bs h c];unfold zkQ znG;by_cases a:(zcG get (bs.drop (get bs).2.1)).2=0
 ·rw [if_pos a,if_pos rfl,if_pos a];simp
 ·rw [if_neg a,if_neg a,if_neg a]
theorem zmF(b:List α)(bs:List UInt8)(h:bs.length≠0)(a:(get bs).2.2≠0):zkQ b (zcG get bs)=([],(get bs).2.2):=by
 rw [zpl bs h a];unfold zkQ;rw [if_neg a]
theorem zmG(a:List α)(bs:List UInt8)(h:bs.length=0):zkQ a (zcG get bs)=(a,0):=by
 rw [List.length_eq_zero_iff.1 h,zuj];unfold zkQ;simp
theorem zmH(a:Good get)(put:α->List UInt8)(ok:α->Prop)(c:∀ x more,ok x->get (put x++more)=(x,(put x).length,0))(b:∀ x,put x≠[]) :
 ∀ l:List α,(∀ x∈l,ok x)->zcG get (l.flatMap put)=(l,0)
 | [],_=>rfl
 | x :: l,h=>by
  have hx:=c x (l.flatMap put) (h x (by simp));have ih:=zmH a put ok c b l (fun y d=>h y (by simp [d]));have g:(put x++l.flatMap put).length≠0:=by
   have:=List.length_pos_iff.2 (b x);rw [List.length_append];omega
  rw [List.flatMap_cons,ziv a _ g (by rw [hx]),hx];simp only;rw [List.drop_left,ih];rfl
end
end Be
end
end Go.Proofs.YtahnjkkgojfdmaaGreatDoor
