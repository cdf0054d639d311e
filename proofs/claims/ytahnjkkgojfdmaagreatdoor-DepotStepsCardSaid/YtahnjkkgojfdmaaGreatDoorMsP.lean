import Derived.Test.YtahnjkkgojfdmaaGreatDoorTgB
import Derived.Test.YtahnjkkgojfdmaaGreatDoorRgZ
set_option maxRecDepth 10000
set_option maxHeartbeats 4000000
set_option linter.unusedVariables false
namespace Go.Proofs.YtahnjkkgojfdmaaGreatDoor
section
open Go.RowKit Mem Be Rg
section
variable {α β : Type}
abbrev Pr(α:Type):=List UInt8->α×Nat×Int
structure GoodP (get:Pr α) (put:α->List UInt8) (ok:α->Prop):Prop where
 lay:∀ x more,ok x->get (put x++more)=(x,(put x).length,0)
 back:∀ bs x k,get bs=(x,k,0)->ok x/\k<=bs.length/\bs.take k=put x
 cut:∀ x c,ok x->c<(put x).length->(get ((put x).take c)).2.2=12
def zga[Inhabited β](g1:Pr α)(g2:α->Pr β):Pr (α×β):=fun bs=>
 if(g1 bs).2.2≠0 then(((g1 bs).1,default),0,(g1 bs).2.2)
 else(((g1 bs).1,(g2 (g1 bs).1 (bs.drop (g1 bs).2.1)).1),(g1 bs).2.1+(g2 (g1 bs).1 (bs.drop (g1 bs).2.1)).2.1,(g2 (g1 bs).1 (bs.drop (g1 bs).2.1)).2.2)
theorem zgt[Inhabited β]{g1:Pr α}{g2:α->Pr β}{bs:List UInt8}{a:α}{k:Nat}(h:g1 bs=(a,k,0)) :
 zga g1 g2 bs=((a,(g2 a (bs.drop k)).1),k+(g2 a (bs.drop k)).2.1,(g2 a (bs.drop k)).2.2):=by
 unfold zga;rw [h];exact if_neg (by simp)
theorem zlZ[Inhabited β]{g1:Pr α}{g2:α->Pr β}{bs:List UInt8}(h:(g1 bs).2.2≠0):(zga g1 g2 bs).2.2=(g1 bs).2.2:=by
 unfold zga;rw [if_pos h]
theorem GoodP.bind[Inhabited β]{g1:Pr α}{g2:α->Pr β}{p1:α->List UInt8}{p2:α->β->List UInt8}{o1:α->Prop}{o2:α->β->Prop}(h1:GoodP g1 p1 o1)(h2:∀ a,o1 a->GoodP (g2 a) (p2 a) (o2 a)) :
 GoodP (zga g1 g2) (fun x=>p1 x.1++p2 x.1 x.2) (fun x=>o1 x.1/\o2 x.1 x.2) where
 lay:=fun x more ⟨ha,hb⟩=>by
  obtain⟨a,b⟩:=x;have e1:=h1.lay a (p2 a b++more) ha;have e2:=(h2 a ha).lay b more hb;rw [List.append_assoc,zgt e1,List.drop_left,e2,List.length_append]
 back:=fun bs x k h=>by
  obtain⟨a,b⟩:=x;obtain⟨⟨a',k1,e1⟩,hg⟩:∃ y,g1 bs=y:=⟨_,rfl⟩;by_cases he:e1=0
  ·subst he;rw [zgt hg] at h;obtain⟨⟨b',k2,e2⟩,hg2⟩:∃ y,g2 a' (bs.drop k1)=y:=⟨_,rfl⟩;rw [hg2] at h;simp only [Prod.mk.injEq] at h;obtain⟨⟨rfl,rfl⟩,rfl,rfl⟩:=h;obtain⟨q1,q2,q3⟩:=h1.back _ _ _ hg;obtain⟨r1,r2,r3⟩:=(h2 _ q1).back _ _ _ hg2;rw [List.length_drop] at r2;refine⟨⟨q1,r1⟩,by omega,?_⟩;rw [List.take_add,q3,r3]
  ·have hn:(g1 bs).2.2≠0:=by rw [hg];exact he
   have:=zlZ (g2:=g2) hn;rw [h] at this;exact absurd this.symm hn
 cut:=fun x c ⟨ha,hb⟩ hc=>by
  obtain⟨a,b⟩:=x;simp only [List.length_append] at hc;rcases Nat.lt_or_ge c (p1 a).length with h|h
  ·have e1:=h1.cut a c ha h;have e:(p1 a++p2 a b).take c=(p1 a).take c:=List.take_append_of_le_length (by omega);show(zga g1 g2 ((p1 a++p2 a b).take c)).2.2=12
   rw [e,zlZ (by rw [e1];decide),e1]
  ·have e:(p1 a++p2 a b).take c=p1 a++(p2 a b).take (c - (p1 a).length):=by rw [List.take_append,List.take_of_length_le h]
   show(zga g1 g2 ((p1 a++p2 a b).take c)).2.2=12
   rw [e,zgt (h1.lay a _ ha),List.drop_left];exact(h2 a ha).cut b _ hb (by omega)
abbrev Sp(α:Type):=List UInt8->Int->α×List UInt8×Int
structure SimP (get:Pr α) (st:Sp α):Prop where
 err:∀ bs,(st bs 0).2.2=(get bs).2.2
 val:∀ bs,(get bs).2.2=0->(st bs 0).1=(get bs).1/\(st bs 0).2.1=bs.drop (get bs).2.1
 no:∀ bs e,e≠0->(st bs e).2.2=e
def zl0(s1:Sp α)(s2:α->Sp β):Sp (α×β):=fun bs e=>
 (((s1 bs e).1,(s2 (s1 bs e).1 (s1 bs e).2.1 (s1 bs e).2.2).1),(s2 (s1 bs e).1 (s1 bs e).2.1 (s1 bs e).2.2).2.1,(s2 (s1 bs e).1 (s1 bs e).2.1 (s1 bs e).2.2).2.2)
theorem SimP.bind[Inhabited β]{g1:Pr α}{g2:α->Pr β}{s1:Sp α}{s2:α->Sp β}(h1:SimP g1 s1)(h2:∀ a,SimP (g2 a) (s2 a)):SimP (zga g1 g2) (zl0 s1 s2):=by
 have key:∀ bs,(zl0 s1 s2 bs 0).2.2=(zga g1 g2 bs).2.2/\((zga g1 g2 bs).2.2=0->(zl0 s1 s2 bs 0).1=(zga g1 g2 bs).1/\(zl0 s1 s2 bs 0).2.1=bs.drop (zga g1 g2 bs).2.1):=fun bs=>by
  obtain⟨⟨a,k1,e1⟩,hg⟩:∃ y,g1 bs=y:=⟨_,rfl⟩;have q1:=h1.err bs;have q2:=h1.val bs;rw [hg] at q1 q2;simp only at q1 q2;by_cases he:e1=0
  ·subst he;obtain⟨p1,p2⟩:=q2 rfl;rw [zgt hg];unfold zl0;rw [p1,p2,q1];simp only;refine⟨(h2 a).err _,fun h=>?_⟩;obtain⟨r1,r2⟩:=(h2 a).val _ h;rw [r1,r2,List.drop_drop];exact⟨rfl,rfl⟩
  ·have hn:(g1 bs).2.2≠0:=by rw [hg];exact he
   have hb:=zlZ (g2:=g2) hn;rw [hg] at hb;simp only at hb;refine⟨?_,fun h=>absurd (hb.symm.trans h) he⟩;rw [hb];unfold zl0;simp only;rw [q1];exact(h2 _).no _ _ he
 exact⟨fun bs=>(key bs).1,fun bs=>(key bs).2,fun bs e he=>by
  unfold zl0;simp only;rw [h1.no bs e he];exact(h2 _).no _ _ he⟩
end
instance entInh12:Inhabited EntP:=⟨zaA⟩
def exK(k:Int):Bool:=decide (1<=k/\k<=17)
structure MsgP where
 kind:Int
 fr:Int
 dst:Int
 ep:Int
 op:Int
 n:Int
 flag:Bool
 e:EntP
 l:List EntP
 ns:List Int
 each:Int
 keep:Int
def zfO(k:Int):Bool:=k==2||k==6||k==9||k==12||k==13||k==14
def zf2(k:Int):Bool:=k==2||k==13||k==14
def zh5(k:Int):Bool:=k==1||k==2||k==3||k==4||k==5||k==7||k==8||k==9||k==10||k==11
def zf3(k:Int):Bool:=k==13||k==14
def zkT(k:Int):Bool:=k==16
instance okE_dec(x:EntP):Decidable (okE x):=inferInstanceAs (Decidable (_=_))
def noE(x:EntP):Prop:=x.k=[]/\x.s=0/\x.u=0/\x.o=0/\x.has=false/\x.v=[]
instance noE_dec(x:EntP):Decidable (noE x):=inferInstanceAs (Decidable (_/\_))
def rN(m:MsgP):Bool:=inR m.n 1099511627775
def bN(m:MsgP):Bool:=m.n==0
def bF(m:MsgP):Bool:=!m.flag
def rE(m:MsgP):Bool:=decide (okE m.e)
def bE(m:MsgP):Bool:=decide (noE m.e)
def zjp(l:List EntP):Bool:=l.all fun x=>decide (okE x)
def rL(m:MsgP):Bool:=decide (m.l.length<=1000)&&zjp m.l
def bL(m:MsgP):Bool:=m.l.length==0
def rR(m:MsgP):Bool:=decide (OkR m.ns m.each m.keep)
def bR(m:MsgP):Bool:=decide (m.ns=[]/\m.each=0/\m.keep=0)
def zg2(m:MsgP):Bool:=exK m.kind&&inR m.fr 1048575&&inR m.dst 1048575&&inR m.ep 1099511627775&&inR m.op 1099511627775
def zcI(h r b:Bool):Bool:=if h=true then r else b
def okM(m:MsgP):Bool:=zg2 m&&(zcI (zfO m.kind) (rN m) (bN m)&&(zcI (zf2 m.kind) true (bF m)&&(zcI (zh5 m.kind) (rE m) (bE m)&&(zcI (zf3 m.kind) (rL m) (bL m)&&zcI (zkT m.kind) (rR m) (bR m)))))
def zbr(m:MsgP):Int:=if okM m=true then 0 else 2
theorem zuY{n k:Int}:inR n k=true↔0<=n/\n<=k:=decide_eq_true_iff
theorem zq0{m:MsgP}(h:okM m=true):zg2 m=true/\zcI (zfO m.kind) (rN m) (bN m)=true/\zcI (zf2 m.kind) true (bF m)=true/\zcI (zh5 m.kind) (rE m) (bE m)=true/\zcI (zf3 m.kind) (rL m) (bL m)=true/\zcI (zkT m.kind) (rR m) (bR m)=true:=by
 unfold okM at h;simpa only [Bool.and_eq_true] using h
theorem zi7{l:List EntP}:zjp l=true↔∀ x∈l,okE x:=by unfold zjp;simp
end
end Go.Proofs.YtahnjkkgojfdmaaGreatDoor
