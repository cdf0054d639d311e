import Derived.Test.YtahnjkkgojfdmaaGreatDoorCore
namespace Go.Proofs.YtahnjkkgojfdmaaGreatDoor
section
open Go.RowKit Mem
namespace Rely
def GivesR(P:Program)(R:Value->World->Prop):Result Next->Prop
 | .ok (.value v) w'=>R v w'
 | .ok .skip w'=>R undef w'
 | .ok (.enter f args) w'=>Calls P f args w' fun e w''=>∃ v,e=.returned v/\R v w''
 | _=>False
def gives(P:Program)(o:Oper)(a:Act)(w:World)(R:Value->World->Prop):Prop:=GivesR P R ((execOp a.eval o).run P w)
theorem zgM{P:Program}{o:Oper}{a:Act}{w:World}{R:Value->World->Prop}{K:Act->World->Prop}{Q:Exit->Act->World->Prop}(h:gives P o a w R)(b:∀ v w',R v w'->K (a.put o.dst v) w'):o.wp P a w K Q:=by
 unfold gives at h;unfold Oper.wp
 generalize (execOp a.eval o).run P w=r at *
 cases r with
 | ok n w'=>
  cases n<;>simp only [GivesR] at h<;>simp only [Oper.upon]
  case value v=>exact b _ _ h
  case skip=>exact b _ _ h
  case enter f args=>exact h.mono fun e w'' ⟨v,he,hr⟩=>by subst he;exact b _ _ hr
 | halt x w'=>simp only [GivesR] at h
theorem zgN{P:Program}{o:Oper}{a b:Act}{w:World}{R:Value->World->Prop}(h:execOp a.eval o=execOp b.eval o)(c:gives P o a w R):gives P o b w R:=by
 unfold gives at *;rwa [<-h]
def sel(a:Act)(vs:Nat->Value)(L:List (Nat×Tmp)):Act:=L.foldl (fun b p=>b.put (some p.2) (vs p.1)) a
def zbH(ops:Array Oper)(i:Nat):List (Nat×Tmp):=
 match ops[i]? with
 | none=>[]
 | some o=>(List.range ops.size).filterMap fun k=>
  match (ops[k]?).bind (·.dst) with
  | some d=>if(o.looksAt ops).contains d&&o.after.toList.any (fun e=>Region.binds .any e&&e.on==k) then some (k,d) else none
  | none=>none
def okB(ops:Array Oper):Bool:=
 Region.noSelect ops&&(List.range ops.size).all fun i=>
  match ops[i]? with
  | none=>true
  | some o=>(List.range ops.size).all fun k=>
   match ops[k]? with
   | none=>true
   | some ok=>!(ok.after.toList.any fun e=>Region.binds .any e&&decide (k<=e.on))&&match ok.dst with
    | none=>true
    | some d=>(i==k||o.dst != some d)&&
     (!(o.looksAt ops).contains d||o.after.toList.any (fun e=>Region.binds .any e&&e.on==k)||ok.after.toList.any (fun e=>Region.binds .any e&&e.on==i))
def Pre(T:Nat->Value->World->Prop)(vs:Nat->Value)(w:World):List (Nat×Tmp)->Prop
 | []=>True
 | p :: L=>T p.1 (vs p.1) w/\Pre T vs w L
def zj2(P:Program)(ops:Array Oper)(a:Act)(w:World)(T:Nat->Value->World->Prop):List (Oper×List (Nat×Tmp))->Nat->Prop
 | [],_=>True
 | p :: rest,i=>
  (∀ (vs:Nat->Value) (w':World),Below w.heap.size w w'->Pre T vs w' p.2->
   if Region.wanted p.1 (yielded ops (sel a vs p.2).tmps)=true then gives P p.1 (sel a vs p.2) w' (fun v w''=>Below w'.heap.size w' w''/\T i v w'') else T i undef w')/\zj2 P ops a w T rest (i+1)
theorem zj2.at_{P:Program}{ops:Array Oper}{a:Act}{w:World}{T:Nat->Value->World->Prop}:∀ {l:List (Oper×List (Nat×Tmp))} {i:Nat},zj2 P ops a w T l i->∀ (j:Nat) (p:Oper×List (Nat×Tmp)),l[j]?=some p->
 ∀ (vs:Nat->Value) (w':World),Below w.heap.size w w'->Pre T vs w' p.2->
  if Region.wanted p.1 (yielded ops (sel a vs p.2).tmps)=true then gives P p.1 (sel a vs p.2) w' (fun v w''=>Below w'.heap.size w' w''/\T (i+j) v w'') else T (i+j) undef w'
 | [],_,_,j,_,h=>by simp at h
 | q :: l,i,hs,0,p,h=>by
  simp only [List.getElem?_cons_zero,Option.some.injEq] at h;subst h;exact hs.1
 | q :: l,i,hs,j+1,p,h=>by
  simp only [List.getElem?_cons_succ] at h;have:=zj2.at_ hs.2 j p h;rw [show i+1+j=i+(j+1) by omega] at this;exact this
theorem zmX(a:Act)(b:Nat->Value)(L:List (Nat×Tmp)):(sel a b L).tmps.size=a.tmps.size/\(sel a b L).defers=a.defers:=by
 unfold sel
 induction L generalizing a with
 | nil=>exact⟨rfl,rfl⟩
 | cons p L ih=>
  have:=ih (a.put (some p.2) (b p.1));simp only [List.foldl_cons];exact⟨this.1.trans (by simp [Act.put]),this.2.trans rfl⟩
theorem zgO(a:Act)(b:Nat->Value)(L:List (Nat×Tmp))(t:Tmp)(h:∀ p∈L,p.2≠t):(sel a b L).tmps[t]?=a.tmps[t]?:=by
 unfold sel
 induction L generalizing a with
 | nil=>rfl
 | cons p L ih=>
  simp only [List.foldl_cons];rw [ih (a.put (some p.2) (b p.1)) (fun q hq=>h q (by simp [hq]))];simp only [Act.put];rw [Array.getElem?_setIfInBounds,if_neg (h p (by simp))]
theorem zmY(a:Act)(b:Nat->Value)(L:List (Nat×Tmp))(k:Nat)(t:Tmp)(h:(k,t)∈L)(g:∀ p∈L,∀ q∈L,p.2=q.2->p.1=q.1)(ht:t<a.tmps.size):(sel a b L).tmps[t]?=some (b k):=by
 unfold sel
 induction L generalizing a with
 | nil=>cases h
 | cons p L ih=>
  simp only [List.foldl_cons];by_cases d:(k,t)∈L
  ·exact ih (a.put (some p.2) (b p.1)) d (fun p c q hq=>g p (by simp [c]) q (by simp [hq])) (by simpa [Act.put] using ht)
  ·have c:p=(k,t):=by
    rcases List.mem_cons.1 h with h|h
    ·exact h.symm
    ·exact absurd h d
   subst c;have i:∀ q∈L,q.2≠t:=fun q hq e=>d (by
    have:=g q (by simp [hq]) (k,t) (by simp) e;have:q=(k,t):=Prod.ext this e;rw [<-this];exact hq)
   have:=zgO (a.put (some t) (b k)) b L t i;unfold sel at this;rw [this];simp only [Act.put];rw [Array.getElem?_setIfInBounds,if_pos rfl,if_pos ht]
structure Ok (ops:Array Oper):Prop where
 noSel:Region.noSelect ops=true
 back:∀ (k:Nat) (ok:Oper),ops[k]?=some ok->∀ e∈ok.after,Region.binds .any e=true->e.on<k
 apart:∀ (i k:Nat) (o ok:Oper) (d:Tmp),ops[i]?=some o->ops[k]?=some ok->ok.dst=some d->i≠k->o.dst≠some d
 read:∀ (i k:Nat) (o ok:Oper) (d:Tmp),ops[i]?=some o->ops[k]?=some ok->ok.dst=some d->d∈o.looksAt ops->(∃ e∈o.after,Region.binds .any e=true/\e.on=k)\/(∃ e∈ok.after,Region.binds .any e=true/\e.on=i)
theorem zbd{a:Array Oper}{i:Nat}{o:Oper}(h:a[i]?=some o):i<a.size:=(Array.getElem?_eq_some_iff.1 h).1
theorem zfj{o:Oper}{k:Nat}:o.after.toList.any (fun e=>Region.binds .any e&&e.on==k)=true↔∃ e∈o.after,Region.binds .any e=true/\e.on=k:=by
 simp only [List.any_eq_true,Bool.and_eq_true,beq_iff_eq,Array.mem_toList_iff]
theorem zvR{c:Array Oper}(h:okB c=true):Ok c:=by
 unfold okB at h;simp only [Bool.and_eq_true,List.all_eq_true,List.mem_range] at h;obtain⟨m,r⟩:=h;have key:∀ (i k:Nat) (o ok:Oper),c[i]?=some o->c[k]?=some ok->(!(ok.after.toList.any fun e=>Region.binds .any e&&decide (k<=e.on))&&match ok.dst with
  | none=>true
  | some d=>(i==k||o.dst != some d)&&(!(o.looksAt c).contains d||o.after.toList.any (fun e=>Region.binds .any e&&e.on==k)||ok.after.toList.any (fun e=>Region.binds .any e&&e.on==i)))=true:=by
  intro i k o ok g b;have:=r i (zbd g);rw [g] at this;simp only [List.all_eq_true,List.mem_range] at this;have:=this k (zbd b);rw [b] at this;exact this
 refine⟨m,?_,?_,?_⟩
 ·intro k ok b e q p;have:=key k k ok ok b b;rw [Bool.and_eq_true] at this;have a:=this.1;rw [Bool.not_eq_true',List.any_eq_false] at a;have:=a e (Array.mem_toList_iff.2 q);rw [p] at this;simp at this;omega
 ·intro i k o ok d g b j hne l;have:=key i k o ok g b;rw [j] at this;simp only [Bool.and_eq_true] at this;have a:=this.2.1;rw [Bool.or_eq_true] at a;rcases a with a|a
  ·exact hne (by simpa using a)
  ·rw [l] at a;simp at a
 ·intro i k o ok d g b j hl;have:=key i k o ok g b;rw [j] at this;simp only [Bool.and_eq_true] at this;have a:=this.2.2;rw [Bool.or_eq_true,Bool.or_eq_true] at a;rcases a with(a|a)|a
  ·rw [Bool.not_eq_true'] at a;have:(o.looksAt c).contains d=true:=by simpa using hl
   rw [this] at a;cases a
  ·exact Or.inl (zfj.1 a)
  ·exact Or.inr (zfj.1 a)
theorem zpY{a:Array Oper}(o:Oper)(k:∀ l b,o.op≠.select l b){d c:Act}(h:∀ t∈o.looksAt a,d.tmps[t]?=c.tmps[t]?) :
 execOp d.eval o=execOp c.eval o/\Region.wanted o (yielded a d.tmps)=Region.wanted o (yielded a c.tmps):=by
 constructor
 ·refine execOp_congr o k fun x j=>?_;cases x with
  | tmp t=>
   have:=h t (List.mem_append_left _ (List.mem_filterMap.2 ⟨.tmp t,by simpa using j,rfl⟩));show d.tmps.getD t undef=c.tmps.getD t undef
   rw [Array.getD_eq_getD_getElem?,Array.getD_eq_getD_getElem?,this]
  | const v=>rfl
  | global g=>rfl
  | func f=>rfl
 ·unfold Region.wanted;cases hg:o.guard with
  | none=>rfl
  | some gw=>
   obtain⟨g,m⟩:=gw;have i:yielded a d.tmps g=yielded a c.tmps g:=by
    unfold yielded;cases ht:(a[g]?).bind (·.dst) with
    | none=>rfl
    | some t=>
     have:=h t (by
      unfold Oper.looksAt;refine List.mem_append_right _ ?_;rw [hg];simp only;rw [ht];simp)
     simp only [Option.bind_some];rw [this]
   simp only;rw [i]
structure Inv (ops:Array Oper) (a:Act) (w:World) (T:Nat->Value->World->Prop) (listed:Array Bool) (a':Act) (w':World):Prop where
 bel:Below w.heap.size w w'
 size:a'.tmps.size=a.tmps.size
 defers:a'.defers=a.defers
 done:∀ k o,listed.getD k false=true->ops[k]?=some o->∃ v,T k v w'/\∀ d,o.dst=some d->a'.tmps[d]?=some v
 rest:∀ t,(∀ k o,listed.getD k false=true->ops[k]?=some o->o.dst≠some t)->a'.tmps[t]?=a.tmps[t]?
 closed:∀ k o,listed.getD k false=true->ops[k]?=some o->∀ e∈o.after,Region.binds .any e=true->listed.getD e.on false=true
theorem ziO{l:Array Bool}{i k:Nat}(h:(l.setIfInBounds i true).getD k false=true):k=i\/l.getD k false=true:=by
 by_cases a:i=k
 ·exact Or.inl a.symm
 ·rw [getD_set_ne false a] at h;exact Or.inr h
theorem zbC{l:Array Bool}{i k:Nat}(h:l.getD k false=true):(l.setIfInBounds i true).getD k false=true:=by
 by_cases a:i=k
 ·subst a;rw [Array.getD_eq_getD_getElem?] at h ⊢;rw [Array.getElem?_setIfInBounds,if_pos rfl];split
  ·rfl
  ·rename_i b;rw [Array.getElem?_eq_none (by omega)] at h;simp at h
 ·rw [getD_set_ne false a];exact h
theorem zj3{α:Type}{p q:α->Bool}:∀ {l:List α},(∀ x∈l,q x=true->p x=true)->(∃ x∈l,p x=true/\q x=false)->l.countP q<l.countP p
 | [],_,⟨_,h,_⟩=>by cases h
 | x :: l,hle,⟨y,a,hp,hq⟩=>by
  have hmono:l.countP q<=l.countP p:=List.countP_mono_left fun z b=>hle z (by simp [b]);rw [List.countP_cons,List.countP_cons];rcases List.mem_cons.1 a with rfl|a
  ·rw [hp,hq];simp;omega
  ·have:=zj3 (fun z b=>hle z (by simp [b])) ⟨y,a,hp,hq⟩;have c:=hle x (by simp);cases hqx:q x
   ·cases p x<;>simp<;>omega
   ·rw [c hqx];simp;omega
def left(ops:Array Oper)(listed:Array Bool):Nat:=(List.range ops.size).countP fun k=>!listed.getD k true
theorem zfK{b:Array Oper}{a:Array Bool}(c:Ok b)(m:a.size=b.size)(h:Region.ready .any b a=[]):∀ n k,k<n->k<b.size->a.getD k false=true
 | 0,k,hk,_=>by omega
 | n+1,k,hk,hks=>by
  have ih:=zfK c m h n;by_cases i:k<n
  ·exact ih k i hks
  ·obtain rfl:k=n:=by omega
   have hl:a[k]?=some (a[k]'(by omega)):=Array.getElem?_eq_getElem (by omega);cases hv:a[k]'(by omega) with
   | true=>rw [Array.getD_eq_getD_getElem?,hl,hv];rfl
   | false=>
    exfalso
    obtain⟨o,d⟩:∃ o,b[k]?=some o:=⟨_,Array.getElem?_eq_getElem hks⟩;have:k∈Region.ready .any b a:=mem_ready.2 ⟨by rw [Array.getD_eq_getD_getElem?,hl,hv];rfl,o,d,fun e l j=>by
     have g:=c.back k o d e l j;exact ih e.on g (by omega)⟩
    rw [h] at this;cases this
theorem zbK{a:Array Oper}{i k:Nat}{d:Tmp}{o:Oper}(m:a[i]?=some o):(k,d)∈zbH a i↔∃ ok,a[k]?=some ok/\ok.dst=some d/\d∈o.looksAt a/\∃ e∈o.after,Region.binds .any e=true/\e.on=k:=by
 unfold zbH;rw [m];simp only [List.mem_filterMap,List.mem_range];constructor
 ·rintro⟨j,p,h⟩;cases hd:(a[j]?).bind (·.dst) with
  | none=>rw [hd] at h;simp at h
  | some d'=>
   rw [hd] at h;simp only at h;split at h
   ·rename_i hc;simp only [Option.some.injEq,Prod.mk.injEq] at h;obtain⟨rfl,rfl⟩:=h;rw [Bool.and_eq_true] at hc;obtain⟨ok,b,c⟩:=Option.bind_eq_some_iff.1 hd;exact⟨ok,b,c,by simpa using hc.1,zfj.1 hc.2⟩
   ·simp at h
 ·rintro⟨ok,b,c,l,g⟩;refine⟨k,zbd b,?_⟩;rw [b];simp only [Option.bind_some,c];rw [if_pos (by rw [Bool.and_eq_true];exact⟨by simpa using l,zfj.2 g⟩)]
theorem zpZ{T:Nat->Value->World->Prop}{a:Nat->Value}{w:World}:∀ {L:List (Nat×Tmp)},(∀ p∈L,T p.1 (a p.1) w)->Pre T a w L
 | [],_=>trivial
 | p :: L,h=>⟨h p (by simp),zpZ fun q hq=>h q (by simp [hq])⟩
def zaC(ops:Array Oper):List (Nat×Tmp):=(List.range ops.size).filterMap fun k=>((ops[k]?).bind (·.dst)).map fun d=>(k,d)
def ziP(ops:Array Oper):List Nat:=(List.range ops.size).filter fun k=>((ops[k]?).bind (·.dst)).isNone
def zvS(T:Nat->Value->World->Prop)(w:World):List Nat->Prop
 | []=>True
 | k :: L=>(∃ v,T k v w)/\zvS T w L
theorem zp0{T:Nat->Value->World->Prop}{w:World}:∀ {L:List Nat},(∀ k∈L,∃ v,T k v w)->zvS T w L
 | [],_=>trivial
 | k :: L,h=>⟨h k (by simp),zp0 fun q hq=>h q (by simp [hq])⟩
theorem zaY{c:Array Oper}{k:Nat}{d:Tmp}:(k,d)∈zaC c↔∃ o,c[k]?=some o/\o.dst=some d:=by
 unfold zaC;simp only [List.mem_filterMap,List.mem_range,Option.map_eq_some_iff,Prod.mk.injEq];constructor
 ·rintro⟨g,_,i,h,rfl,rfl⟩;obtain⟨o,a,b⟩:=Option.bind_eq_some_iff.1 h;exact⟨o,a,b⟩
 ·rintro⟨o,a,b⟩;exact⟨k,zbd a,d,by rw [a];exact b,rfl,rfl⟩
def zcc(ops:Array Oper)(a':Act)(k:Nat):Value:=match (ops[k]?).bind (·.dst) with|some d=>a'.tmps.getD d undef|none=>undef
theorem ziQ{b:Array Oper}{a:Act}{k:Nat}{o:Oper}{d:Tmp}{v:Value}(g:b[k]?=some o)(c:o.dst=some d)(h:a.tmps[d]?=some v):zcc b a k=v:=by
 unfold zcc;rw [g];simp only [Option.bind_some,c];rw [Array.getD_eq_getD_getElem?,h];rfl
section
variable {P : Program} {ops : Array Oper} {a : Act} {w : World} {T : Nat → Value → World → Prop}
theorem zsB(E:Ok ops)(hT:∀ i v w1 q,T i v w1->Below w1.heap.size w1 q->T i v q)(L:∀ k d,(k,d)∈zaC ops->d<a.tmps.size)
 {l:List (Oper×List (Nat×Tmp))} (hl:∀ i o,ops[i]?=some o->l[i]?=some (o,zbH ops i)) (Z:zj2 P ops a w T l 0)
 {Q:Exit->Act->World->Prop} {y:Array Bool} {s:Act} {w':World} (r:Inv ops a w T y s w') {i:Nat} (hi:i∈Region.ready .any ops y)
 {K:Act->World->Prop} (N:∀ R q,Inv ops a w T (y.setIfInBounds i true) R q->K R q) (V:y.size=ops.size):wpOp P ops Q i K s w':=by
 obtain⟨I,o,g,W⟩:=mem_ready.1 hi;have U:¬ y.getD i false=true:=by
  have X:i<y.size:=by rw [V];exact zbd g
  rw [Array.getD_eq_getD_getElem?,Array.getElem?_eq_getElem X] at I ⊢;simp only [Option.getD_some] at I ⊢;rw [I];simp
 have ae:=fun cs b=>Region.noSelect_spec E.noSel i o cs b g
 -- what it reads is there
 have S:∀ p∈zbH ops i,s.tmps[p.2]?=some (zcc ops s p.1)/\T p.1 (zcc ops s p.1) w':=by
  rintro⟨k,d⟩ C;obtain⟨ok,F,D,_,e,A,x,rfl⟩:=(zbK g).1 C;obtain⟨v,J,m⟩:=r.done e.on ok (W e A x) F;have:=m d D;rw [ziQ F D this];exact⟨this,J⟩
 have aa:∀ t∈o.looksAt ops,(sel a (zcc ops s) (zbH ops i)).tmps[t]?=s.tmps[t]?:=by
  intro t ht;by_cases B:∃ k,(k,t)∈zbH ops i
  ·obtain⟨k,j⟩:=B;obtain⟨ok,F,D,_⟩:=(zbK g).1 j;rw [(S _ j).1];refine zmY a _ _ k t j ?_ (L k t (zaY.2 ⟨ok,F,D⟩));rintro⟨k1,d1⟩ ai ⟨O,d2⟩ ab e;obtain⟨o1,g1,g2,_⟩:=(zbK g).1 ai;obtain⟨o2,Y,g4,_⟩:=(zbK g).1 ab;simp only at e ⊢;subst e;by_cases hne:k1=O
   ·exact hne
   ·exact absurd g2 (E.apart k1 O o1 o2 d1 g1 Y g4 hne)
  ·rw [zgO a _ _ t (fun p C e=>B ⟨p.1,by rw [<-e];exact C⟩)];refine(r.rest t fun k ok af c m=>?_).symm;rcases E.read i k o ok t g c m ht with h|⟨e,A,x,rfl⟩
   ·exact B ⟨k,(zbK g).2 ⟨ok,c,m,ht,h⟩⟩
   ·exact U (r.closed k ok af c e A x)
 obtain⟨B,ag⟩:=zpY o ae aa;have z:=Z.at_ i _ (hl i o g) (zcc ops s) w' r.bel (zpZ fun p C=>(S p C).2);simp only [Nat.zero_add] at z;rw [ag] at z
 -- what it leaves
 have next:∀ v q,Below w'.heap.size w' q->T i v q->Inv ops a w T (y.setIfInBounds i true) (s.put o.dst v) q:=by
  intro v q x J;have M:∀ t,o.dst≠some t->(s.put o.dst v).tmps[t]?=s.tmps[t]?:=by
   intro t ht;cases m:o.dst with
   | none=>rfl
   | some d=>
    simp only [Act.put];rw [Array.getElem?_setIfInBounds,if_neg (fun e=>ht (by rw [m,e]))]
  refine⟨r.bel.trans (x.mono r.bel.size),?_,?_,?_,?_,?_⟩
  ·cases m:o.dst with
   | none=>exact r.size
   | some d=>simp only [Act.put];rw [Array.size_setIfInBounds];exact r.size
  ·cases o.dst<;>exact r.defers
  ·intro k ok j c;rcases ziO j with rfl|j
   ·rw [g] at c;injection c with c;subst c;refine⟨v,J,fun d m=>?_⟩;rw [m];simp only [Act.put];rw [Array.getElem?_setIfInBounds,if_pos rfl,if_pos (by rw [r.size];exact L k d (zaY.2 ⟨o,g,m⟩))]
   ·obtain⟨u,hu,ah⟩:=r.done k ok j c;refine⟨u,hT k u w' q hu x,fun d m=>?_⟩;rw [M d (E.apart i k o ok d g c m (fun e=>U (by rw [e];exact j)))];exact ah d m
  ·intro t ht;rw [M t (ht i o (by
    rw [Array.getD_eq_getD_getElem?,Array.getElem?_setIfInBounds,if_pos rfl,if_pos (by rw [V];exact zbd g)];rfl) g)]
   exact r.rest t fun k ok j c=>ht k ok (zbC j) c
  ·intro k ok j c e A x;rcases ziO j with rfl|j
   ·rw [g] at c;injection c with c;subst c;exact zbC (W e A x)
   ·exact zbC (r.closed k ok j c e A x)
 unfold wpOp;rw [g];simp only;split
 ·rename_i G;simp only [G,if_true] at z;exact Or.inl (zgM (zgN B z) fun v q h=>N _ _ (next v q h.1 h.2))
 ·rename_i G;simp only [G] at z;exact N _ _ (next undef w' (Below.refl _ _) z)
theorem ziR{a:Array Bool}{i:Nat}(l:a.size=ops.size)(j:i∈Region.ready .any ops a):left ops (a.setIfInBounds i true)<left ops a:=by
 obtain⟨b,o,g,_⟩:=mem_ready.1 j;have d:=zbd g;refine zj3 (fun k _ h=>?_) ⟨i,List.mem_range.2 d,by rw [b];rfl,?_⟩
 ·by_cases c:i=k
  ·subst c;rw [b];rfl
  ·rw [getD_set_ne true c] at h;exact h
 ·rw [Array.getD_eq_getD_getElem?,Array.getElem?_setIfInBounds,if_pos rfl,if_pos (by rw [l];exact d)];rfl
theorem znX(A:Ok ops)(hT:∀ i v w1 y,T i v w1->Below w1.heap.size w1 y->T i v y)(E:∀ k d,(k,d)∈zaC ops->d<a.tmps.size)
 {l:List (Oper×List (Nat×Tmp))} (hl:∀ i o,ops[i]?=some o->l[i]?=some (o,zbH ops i)) (W:zj2 P ops a w T l 0) {Q:Exit->Act->World->Prop}
 (U:∀ (K:Nat->Value) (w':World),Below w.heap.size w w'->Pre T K w' (zaC ops)->zvS T w' (ziP ops)->Q .normal (sel a K (zaC ops)) w') :
 ∀ (fuel:Nat) (c:Array Bool) (b:Act) (w':World),c.size=ops.size->left ops c<=fuel->Inv ops a w T c b w'->wpAny P .any ops Q fuel c b w':=by
 have F:∀ (c:Array Bool) (b:Act) (w':World),c.size=ops.size->Inv ops a w T c b w'->Region.ready .any ops c=[]->Q .normal b w':=by
  intro c b w' j g m;have J:=fun k h=>zfK A j m (k+1) k (by omega) h;have G:∀ p∈zaC ops,b.tmps[p.2]?=some (zcc ops b p.1)/\T p.1 (zcc ops b p.1) w':=by
   rintro⟨k,d⟩ s;obtain⟨o,B,q⟩:=zaY.1 s;obtain⟨v,z,x⟩:=g.done k o (J k (zbd B)) B;rw [ziQ B q (x d q)];exact⟨x d q,z⟩
  have e:b=sel a (zcc ops b) (zaC ops):=by
   obtain⟨z1,S⟩:=zmX a (zcc ops b) (zaC ops);have ht:b.tmps=(sel a (zcc ops b) (zaC ops)).tmps:=by
    apply Array.ext_getElem?;intro t;by_cases D:∃ k,(k,t)∈zaC ops
    ·obtain⟨k,u⟩:=D;rw [(G _ u).1];refine(zmY a _ _ k t u ?_ (E k t u)).symm;rintro⟨k1,d1⟩ X ⟨L,d2⟩ Z e;obtain⟨O,g1,g2⟩:=zaY.1 X;obtain⟨o2,V,N⟩:=zaY.1 Z;simp only at e ⊢;subst e;by_cases hne:k1=L
     ·exact hne
     ·exact absurd g2 (A.apart k1 L O o2 d1 g1 V N hne)
    ·rw [zgO a _ _ t (fun p s e=>D ⟨p.1,by rw [<-e];exact s⟩)];exact g.rest t fun k o _ Y x=>D ⟨k,zaY.2 ⟨o,Y,x⟩⟩
   have C:b.defers=(sel a (zcc ops b) (zaC ops)).defers:=g.defers.trans S.symm;cases b
   cases hse:sel a (zcc ops _) (zaC ops)
   rw [hse] at ht C;simp only at ht C;rw [ht,C]
  rw [e];refine U _ _ g.bel (zpZ fun p s=>(G p s).2) (zp0 fun k u=>?_);have I:k<ops.size:=List.mem_range.1 (List.mem_filter.1 u).1;obtain⟨v,z,_⟩:=g.done k ops[k] (J k I) (Array.getElem?_eq_getElem I);exact⟨v,z⟩
 intro fuel
 induction fuel with
 | zero=>
  intro c b w' j hf g;have m:Region.ready .any ops c=[]:=by
   cases hq:Region.ready .any ops c with
   | nil=>rfl
   | cons i r=>
    have:=ziR j (i:=i) (by rw [hq];simp);omega
  exact⟨m,F c b w' j g m⟩
 | succ fuel ih=>
  intro c b w' j hf g;refine⟨fun m=>F c b w' j g m,fun i M=>?_⟩;refine zsB A hT E hl W g M (fun R y q=>ih _ R y (by rw [Array.size_setIfInBounds];exact j) ?_ q) j;have:=ziR j M;omega
end
theorem zp1(a:Array Oper)(b:Array Bool):left a b<=a.size:=by
 have:=List.countP_le_length (p:=fun k=>!b.getD k true) (l:=List.range a.size);rw [List.length_range] at this;exact this
theorem zdM(n k:Nat):¬ (Array.replicate n false).getD k false=true:=by
 rw [Array.getD_eq_getD_getElem?];by_cases h:k<n
 ·rw [Array.getElem?_eq_getElem (by simpa using h)];simp
 ·rw [Array.getElem?_eq_none (by simpa using h)];simp
theorem zhp{P:Program}{id:Nat}{Q:Exit->Act->World->Prop}{a:Act}{w:World}{os:List Oper}(E:P.follows .mixedOrders=true)(l:List (Oper×List (Nat×Tmp)))(D:List (Nat×Tmp))(N:List Nat)
 (A:okB os.toArray=true) (hl:(List.range os.length).map (zbH os.toArray)=l.map (·.2)) (C:os=l.map (·.1)) (y:zaC os.toArray=D) (s:ziP os.toArray=N) (q:D.all (fun p=>decide (p.2<a.tmps.size))=true)
 (T:Nat->Value->World->Prop) (F:∀ i v w1 j,T i v w1->Below w1.heap.size w1 j->T i v j) (z:zj2 P os.toArray a w T l 0)
 (u:∀ (m:Nat->Value) (w':World),Below w.heap.size w w'->Pre T m w' D->zvS T w' N->Q .normal (sel a m D) w'):(Code.region id os.toArray true).wp P Q a w:=by
 subst y;subst s;refine wp_region_any E (znX (zvR A) F ?_ ?_ z u _ _ _ _ (by simp) (zp1 _ _) ⟨(Below.refl _ _).drew,rfl,rfl,?_,?_,?_⟩)
 ·intro k d r;have:=List.all_eq_true.1 q _ r;simpa using this
 ·intro i o h;have G:i<os.length:=by simpa using zbd h
  have B:os[i]?=some o:=by simpa using h
  have c:=congrArg (fun x=>x[i]?) hl;have b:=congrArg (fun x=>x[i]?) C;simp only [List.getElem?_map] at c b;rw [List.getElem?_range G] at c;rw [B] at b;cases hli:l[i]? with
  | none=>rw [hli] at b;simp at b
  | some p=>
   rw [hli] at c b;simp only [Option.map_some,Option.some.injEq] at c b;rw [c,b]
 ·exact fun k o g _=>absurd g (zdM _ k)
 ·exact fun t _=>rfl
 ·exact fun k o g=>absurd g (zdM _ k)
def Step1(P:Program)(ops:Array Oper)(a:Act)(w:World)(T:Nat->Value->World->Prop)(o:Oper)(r:List (Nat×Tmp))(i:Nat):Prop:=
 ∀ (vs:Nat->Value) (w':World),Below w.heap.size w w'->Pre T vs w' r->
  if Region.wanted o (yielded ops (sel a vs r).tmps)=true then gives P o (sel a vs r) w' (fun v w''=>Below w'.heap.size w' w''/\T i v w'') else T i undef w'
def StepsZ(P:Program)(ops:Array Oper)(a:Act)(w:World)(T:Nat->Value->World->Prop):List Oper->List (List (Nat×Tmp))->Nat->Prop
 | o :: os,r :: R,i=>Step1 P ops a w T o r i/\StepsZ P ops a w T os R (i+1)
 | _,_,_=>True
theorem stepsZ_cons{P:Program}{b:Array Oper}{a:Act}{w:World}{T:Nat->Value->World->Prop}{o:Oper}{os:List Oper}{r:List (Nat×Tmp)}{R:List (List (Nat×Tmp))}{i:Nat}
 (c:Step1 P b a w T o r i) (d:StepsZ P b a w T os R (i+1)):StepsZ P b a w T (o :: os) (r :: R) i:=⟨c,d⟩
theorem stepsZ_nil{P:Program}{b:Array Oper}{a:Act}{w:World}{T:Nat->Value->World->Prop}{i:Nat}:StepsZ P b a w T [] [] i:=trivial
theorem zmZ{P:Program}{b:Array Oper}{a:Act}{w:World}{T:Nat->Value->World->Prop}:∀ {os:List Oper} {R:List (List (Nat×Tmp))} {i:Nat},StepsZ P b a w T os R i->zj2 P b a w T (os.zip R) i
 | [],[],_,_=>trivial
 | [],_ :: _,_,_=>trivial
 | _ :: _,[],_,_=>trivial
 | _ :: _,_ :: _,_,h=>⟨h.1,zmZ h.2⟩
theorem wp_region_by{P:Program}{id:Nat}{Q:Exit->Act->World->Prop}{a:Act}{w:World}{os:List Oper}(R:List (List (Nat×Tmp)))(D:List (Nat×Tmp))(N:List Nat)(T:Nat->Value->World->Prop)
 (m:P.follows .mixedOrders=true) (d:okB os.toArray=true) (hl:(List.range os.length).map (zbH os.toArray)=R) (k:zaC os.toArray=D) (h:ziP os.toArray=N) (g:D.all (fun p=>decide (p.2<a.tmps.size))=true)
 (o:∀ i v w1 b,T i v w1->Below w1.heap.size w1 b->T i v b) (l:StepsZ P os.toArray a w T os R 0)
 (j:∀ (c:Nat->Value) (w':World),Below w.heap.size w w'->Pre T c w' D->zvS T w' N->Q .normal (sel a c D) w'):(Code.region id os.toArray true).wp P Q a w:=by
 have q:R.length=os.length:=by rw [<-hl];simp
 refine zhp m (os.zip R) D N d ?_ ?_ k h g T o (zmZ l) j
 ·rw [hl,List.map_snd_zip (by omega)]
 ·rw [List.map_fst_zip (by omega)]
end Rely
end
end Go.Proofs.YtahnjkkgojfdmaaGreatDoor
