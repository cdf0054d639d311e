import Derived.Test.YtahnjkkgojfdmaaGreatDoorFrZ
import Derived.Test.YtahnjkkgojfdmaaGreatDoorTb8
import Derived.Test.YtahnjkkgojfdmaaGreatDoorRefAll
set_option linter.unusedVariables false
namespace Go.Proofs.YtahnjkkgojfdmaaGreatDoor
section
open Mem Be Word Frm
theorem zsr(rs:List Rc)(k:Nat)(b:k<=(zac rs).length):∃ p,p<=rs.length/\(zac (rs.take p)).length<=k/\∀ hl:p<rs.length,k<(zac (rs.take p)).length+(rs[p].2.length+10):=by
 have key:∀ j,j<=rs.length->(zac (rs.take j)).length<=k->∃ p,p<=rs.length/\(zac (rs.take p)).length<=k/\∀ hl:p<rs.length,k<(zac (rs.take p)).length+(rs[p].2.length+10):=by
  intro j
  induction hr:rs.length - j generalizing j with
  | zero=>intro a h;exact⟨j,a,h,fun hl=>by omega⟩
  | succ d ih=>
   intro a h;by_cases hc:k<(zac (rs.take j)).length+(rs[j].2.length+10)
   ·exact⟨j,a,h,fun _=>hc⟩
   ·refine ih (j+1) (by omega) (by omega) ?_;rw [ziH rs j (by omega),List.length_append,zcJ];omega
 exact key 0 (Nat.zero_le _) (by simp [zac])
theorem ziI(rs:List Rc){a b:Nat}(h:a<=b):(zac (rs.take a)).length<=(zac (rs.take b)).length:=by
 have:rs.take b=rs.take a++(rs.take b).drop a:=by
  have:=List.take_append_drop a (rs.take b);rw [List.take_take,Nat.min_eq_left h] at this;exact this.symm
 rw [this,zdh,List.length_append];omega
theorem znS(rs:List Rc)(m k:Nat)(h:zca rs)(u:m<=rs.length):∃ p,m<=p/\p<=rs.length/\(zar (zac (rs.take m)++(zac (rs.drop m)).take k)).1=rs.take p:=by
 have e:zac (rs.take m)++(zac (rs.drop m)).take k=(zac rs).take ((zac (rs.take m)).length+k):=by
  conv=>rhs;rw [zbp rs m]
  rw [List.take_length_add_append]
 rw [e];have o:∃ j,j<=(zac rs).length/\(zac (rs.take m)).length<=j/\(zac rs).take ((zac (rs.take m)).length+k)=(zac rs).take j:=by
  by_cases d:(zac (rs.take m)).length+k<=(zac rs).length
  ·exact⟨_,d,by omega,rfl⟩
  ·refine⟨(zac rs).length,Nat.le_refl _,by have:=congrArg List.length (zbp rs m);rw [List.length_append] at this;omega,?_⟩;rw [List.take_of_length_le (by omega),List.take_of_length_le (Nat.le_refl _)]
 obtain⟨j,a,t,l⟩:=o;obtain⟨p,b,q,c⟩:=zsr rs j a;rw [l,zsq rs h j p b q a c];refine⟨p,?_,b,rfl⟩;rcases Nat.lt_or_ge p m with r|g
 ·have s:=c (by omega);have i:=ziI rs (show p+1<=m by omega);rw [ziH rs p (by omega),List.length_append,zcJ] at i;omega
 ·exact g
end
section
open Go.RowKit Mem Be Word Frm
def zeu(a b:EntP):Int:=zdC a.s a.u a.o b.s b.u b.o
def zhk(T:List EntP)(e:EntP):List EntP:=if zeu e (ofT T e.k)<0 then T else zbZ kE T e
def zcb:List (List UInt8)->List EntP->Option (List EntP)
 | [],T=>some T
 | b :: r,T=>if(zbT b).2=0 then zcb r (zhk T (zbT b).1) else none
def okC(r:Rc):Prop:=r.1=1/\(zbT r.2).2=0/\(zbT r.2).1.s≠0
instance okCdec(r:Rc):Decidable (okC r):=by unfold okC;infer_instance
def zbu:List Rc->List EntP->Option (List EntP)
 | [],T=>some T
 | r :: l,T=>if okC r then zbu l (zhk T (zbT r.2).1) else none
def zlx(b:List UInt8):Option (List EntP):=if(zcG za2 b).2=0 then zcb (zcG za2 b).1 [] else none
def zbJ:List Rc->Nat
 | []=>0
 | r :: t=>if zbJ t≠0 then zbJ t+1 else if r.1=0 then 1 else 0
def zdL(rs:List Rc):Nat->List UInt8
 | 0=>[]
 | k+1=>((rs[k]?).getD (0,[])).2
def zd3(rs:List Rc):Option (List EntP):=(zlx (zdL rs (zbJ rs))).bind (zbu (rs.drop (zbJ rs)))
theorem zgo:∀ rs:List Rc,zbJ rs<=rs.length
 | []=>Nat.le_refl _
 | r :: t=>by
  have:=zgo t;unfold zbJ;split
  ·simp;omega
  ·split<;>simp
theorem zhO(r:Rc):∀ rs:List Rc,zbJ (rs++[r])=if r.1=0 then rs.length+1 else zbJ rs
 | []=>by by_cases h:r.1=0<;>simp [zbJ,h]
 | x :: t=>by
  have ih:=zhO r t;rw [List.cons_append];unfold zbJ;rw [ih];by_cases h:r.1=0
  ·simp [h]
  ·simp only [if_neg h]
theorem znT(r:Rc)(rs:List Rc){p:Nat}(h:p<=rs.length):zdL (rs++[r]) p=zdL rs p:=by
 cases p with
 | zero=>rfl
 | succ k=>simp only [zdL];rw [List.getElem?_append_left (by omega)]
theorem znU(a b:List Rc)(T:List EntP):zbu (a++b) T=(zbu a T).bind (zbu b):=by
 induction a generalizing T with
 | nil=>rfl
 | cons r a ih=>
  rw [List.cons_append];simp only [zbu];split
  ·exact ih _
  ·rfl
theorem zpR{rs:List Rc}{T:List EntP}{e:EntP}(h:zd3 rs=some T)(c:okE e)(d:e.s≠0):zd3 (rs++[(1,zbe e)])=some (zhk T e):=by
 have hl:zbJ (rs++[(1,zbe e)])=zbJ rs:=by rw [zhO];exact if_neg (show ¬ (1:UInt8)=0 by decide)
 have a:zbT (zbe e)=(e,0):=zjK e c;unfold zd3 at h ⊢;rw [hl,znT _ _ (zgo rs),List.drop_append_of_le_length (zgo rs)];cases h1:zlx (zdL rs (zbJ rs)) with
 | none=>rw [h1] at h;cases h
 | some T0=>
  rw [h1] at h;simp only [Option.bind_some] at h ⊢;rw [znU,h];have b:okC (1,zbe e):=⟨rfl,by rw [a],by rw [a];exact d⟩;simp only [Option.bind_some,zbu,if_pos b,a]
structure OkT (T:List EntP):Prop where
 srt:zaO kE T
 ok:∀ e∈T,okE e
theorem ziJ:OkT []:=⟨zem,fun e h=>by cases h⟩
theorem zut{T:List EntP}{e:EntP}(h:OkT T)(b:okE e):OkT (zbZ kE T e):=⟨zcx h.srt,fun x a=>by
 rcases zcr a with rfl|a
 ·exact b
 ·exact h.ok x a⟩
theorem zgJ{T:List EntP}{e:EntP}(h:OkT T)(a:okE e):OkT (zhk T e):=by
 unfold zhk;split
 ·exact h
 ·exact zut h a
theorem zeO(T:List EntP)(e:EntP):(zhk T e).length<=T.length+1:=by
 unfold zhk;split
 ·omega
 ·exact ziC e T
theorem zcy{b:List UInt8}(h:(zbT b).2=0):okE (zbT b).1/\zbe (zbT b).1=b:=by
 rcases znI (bs:=b) (x:=(zbT b).1) (e:=(zbT b).2) rfl with⟨d,_⟩|⟨_,a,c⟩
 ·exact absurd h d
 ·exact⟨a,c⟩
theorem zgK:∀ (l:List (List UInt8)) (T:List EntP),OkT T->∀ T',zcb l T=some T'->OkT T'/\T'.length<=T.length+l.length
 | [],T,h,T',he=>by injection he with he;subst he;exact⟨h,Nat.le_refl _⟩
 | b :: r,T,h,T',he=>by
  unfold zcb at he;split at he
  ·rename_i h0;obtain⟨h1,h2⟩:=zgK r _ (zgJ h (zcy h0).1) T' he;have:=zeO T (zbT b).1;exact⟨h1,by simp;omega⟩
  ·cases he
theorem zjV:∀ (l:List Rc) (T:List EntP),OkT T->∀ T',zbu l T=some T'->OkT T'/\T'.length<=T.length+l.length
 | [],T,h,T',he=>by injection he with he;subst he;exact⟨h,Nat.le_refl _⟩
 | b :: r,T,h,T',he=>by
  unfold zbu at he;split at he
  ·rename_i h0;obtain⟨h1,h2⟩:=zjV r _ (zgJ h (zcy h0.2.1).1) T' he;have:=zeO T (zbT b.2).1;exact⟨h1,by simp;omega⟩
  ·cases he
theorem zfh{α:Type}(get:List UInt8->α×Nat×Int):∀ (f:Nat) (bs:List UInt8),(zkP get f bs).1.length<=f
 | 0,_=>by simp [zkP]
 | f+1,bs=>by
  have:=zfh get f (bs.drop (get bs).2.1);unfold zkP;split
  ·simp
  ·split
   ·unfold znG;split<;>simp;exact this
   ·simp
theorem zpS(rs:List Rc)(p:Nat):(zdL rs p).length<=(zac rs).length:=by
 cases p with
 | zero=>simp [zdL]
 | succ k=>
  simp only [zdL];cases h:rs[k]? with
  | none=>simp
  | some r=>
   obtain⟨b,a⟩:=List.getElem?_eq_some_iff.1 h;have:=zjU (rs:=rs) (r:=r) (by rw [<-a];exact List.getElem_mem b);unfold zc3 at this;simp only [Option.getD_some];omega
theorem ziK{rs:List Rc}{T:List EntP}(h:zd3 rs=some T):OkT T/\T.length<=2*(zac rs).length:=by
 unfold zd3 at h;cases h1:zlx (zdL rs (zbJ rs)) with
 | none=>rw [h1] at h;cases h
 | some T0=>
  rw [h1] at h;simp only [Option.bind_some] at h;unfold zlx at h1;split at h1
  ·obtain⟨g,a⟩:=zgK _ _ ziJ T0 h1;obtain⟨b,c⟩:=zjV _ _ g T h;have i:=zfh za2 (zdL rs (zbJ rs)).length (zdL rs (zbJ rs));have j:=zpS rs (zbJ rs);have d:=zd2 rs;unfold zc3 at d;unfold zcG at a;simp only [List.length_nil,List.length_drop] at a c;exact⟨b,by omega⟩
  ·cases h1
def zb0(T:List EntP):List UInt8:=T.flatMap fun e=>zbx (zbe e)
theorem zuu(x:List UInt8):zbx x≠[]:=fun e=>by
 have b:=zrK (x.length:Int);have a:(zbx x).length=0:=by rw [e];rfl
 unfold zbx at a;rw [List.length_append] at a;omega
theorem zcN{e:EntP}(h:okE e):(zbe e).length<=65536:=by
 have b:=zah h;have a:=zle e.k e.s e.u e.o e.has e.v;unfold zbe;omega
theorem zpT{T:List EntP}(h:∀ e∈T,okE e):zcG za2 (zb0 T)=(T.map zbe,0):=by
 have:=zmH zfg zbx (fun x=>x.length<=65536) (fun x more a=>zil x more a) zuu (T.map zbe) (fun x a=>by
  obtain⟨e,b,rfl⟩:=List.mem_map.1 a;exact zcN (h e b))
 rw [List.flatMap_map] at this;exact this
theorem zjW{e:EntP}(h:okE e)(k:List UInt8):¬ zeu e (zoM k)<0:=by
 obtain⟨c,_,a,_,b,_⟩:=zmI h;unfold zeu zdC zf7 zoM;simp only;split
 ·split
  ·omega
  ·split<;>omega
 ·split
  ·split
   ·omega
   ·split<;>omega
  ·split
   ·omega
   ·split<;>omega
theorem zuv{T:List EntP}{e:EntP}(h:okE e)(a:zbF kE T e.k=none):zhk T e=zbZ kE T e:=by
 unfold zhk ofT;rw [a];exact if_neg (zjW h _)
theorem zhP:∀ (T Q:List EntP),zaO kE (Q++T)->(∀ e∈T,okE e)->zcb (T.map zbe) Q=some (Q++T)
 | [],Q,_,_=>by simp [zcb]
 | e :: r,Q,hs,ho=>by
  have hr:zbT (zbe e)=(e,0):=zjK e (ho e (by simp));have hq:∀ y∈Q,bytesBefore (kE y) (kE e)=true:=fun y a=>(List.pairwise_append.1 hs).2.2 y a e (by simp);have hl:zhk Q e=Q++[e]:=by
   rw [zuv (ho e (by simp)) (zfa.2 fun y a=>zfF (hq y a)),zmN hq]
  rw [List.map_cons];unfold zcb;rw [hr];simp only [if_true];rw [hl,zhP r (Q++[e]) (by simpa using hs) fun x b=>ho x (by simp [b])];simp
theorem zst{T:List EntP}(h:OkT T):zd3 [(0,zb0 T)]=some T:=by
 have hl:zbJ [((0:UInt8),zb0 T)]=1:=by simp [zbJ]
 unfold zd3;rw [hl];have:zdL [((0:UInt8),zb0 T)] 1=zb0 T:=rfl;rw [this];unfold zlx;rw [zpT h.ok];simp only [if_true];rw [zhP T [] (by simpa using h.srt) h.ok];rfl
def zwP(rs:List Rc)(m:Nat):Prop:=∀ j,m<=j->j<=rs.length->(zd3 (rs.take j)).isSome=true
end
end Go.Proofs.YtahnjkkgojfdmaaGreatDoor
