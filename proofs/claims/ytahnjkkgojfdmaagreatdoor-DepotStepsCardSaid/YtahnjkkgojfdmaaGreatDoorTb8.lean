import Derived.Test.YtahnjkkgojfdmaaGreatDoorEvZ
import Derived.Test.YtahnjkkgojfdmaaGreatDoorTgB
import Derived.Test.YtahnjkkgojfdmaaGreatDoorIter8
import Derived.Sort.KeysCollected
import Derived.Maps.RangeWalk
import Derived.WalkSpells
import Derived.LoopN
set_option maxRecDepth 10000
set_option maxHeartbeats 2000000
set_option linter.unusedVariables false
namespace Go.Proofs.YtahnjkkgojfdmaaGreatDoor
section
section
variable {α : Type} (key : α → List UInt8)
def zhj(x:α):List α->List α
 | []=>[x]
 | y :: r=>if bytesBefore (key x) (key y)=true then x :: y :: r else y :: zhj x r
def zgl(k:List UInt8)(T:List α):List α:=T.filter fun x=>!(key x==k)
def zbZ(T:List α)(x:α):List α:=zhj key x (zgl key (key x) T)
def zbF(T:List α)(k:List UInt8):Option α:=T.find? fun x=>key x==k
def zaO(T:List α):Prop:=T.Pairwise fun a b=>bytesBefore (key a) (key b)=true
variable {key}
theorem ze9{a b c:List UInt8}(g:bytesBefore a b=true)(d:bytesBefore b c=true):bytesBefore a c=true:=WideShapes.bytes_trans a b c g d
theorem zfF{a b:List UInt8}(h:bytesBefore a b=true):a≠b:=by rintro rfl;rw [WideAt.bytes_irrefl] at h;cases h
theorem zlq{x z:α}:∀ {T:List α},z∈zhj key x T↔z=x\/z∈T
 | []=>by simp [zhj]
 | y :: r=>by
  unfold zhj;split
  ·simp
  ·rw [List.mem_cons,zlq (T:=r),List.mem_cons];exact⟨fun h=>by rcases h with h|h|h<;>simp [h],fun h=>by rcases h with h|h|h<;>simp [h]⟩
theorem zeL{k:List UInt8}{z:α}{T:List α}:z∈zgl key k T↔z∈T/\key z≠k:=by unfold zgl;simp
theorem zul{x z:α}{T:List α}:z∈zbZ key T x↔z=x\/(z∈T/\key z≠key x):=by unfold zbZ;rw [zlq,zeL]
theorem zcr{x z:α}{T:List α}(h:z∈zbZ key T x):z=x\/z∈T:=by rcases zul.1 h with h|h;exact Or.inl h;exact Or.inr h.1
theorem zmM{x:α}:∀ {T:List α},zaO key T->(∀ y∈T,key y≠key x)->zaO key (zhj key x T)
 | [],_,_=>by unfold zhj zaO;simp
 | y :: r,h,hn=>by
  obtain⟨h1,h2⟩:=List.pairwise_cons.1 h;unfold zhj;split
  ·rename_i b;refine List.pairwise_cons.2 ⟨fun z a=>?_,h⟩;rcases List.mem_cons.1 a with rfl|a
   ·exact b
   ·exact ze9 b (h1 z a)
  ·rename_i b;have d:bytesBefore (key y) (key x)=true:=by
    rcases WideAt.bytes_total _ _ (hn y (by simp)) with c|c
    ·exact c
    ·exact absurd c b
   refine List.pairwise_cons.2 ⟨fun z a=>?_,zmM h2 fun z a=>hn z (by simp [a])⟩;rcases zlq.1 a with rfl|a
   ·exact d
   ·exact h1 z a
theorem ziz{k:List UInt8}{T:List α}(h:zaO key T):zaO key (zgl key k T):=h.filter _
theorem zcx{x:α}{T:List α}(h:zaO key T):zaO key (zbZ key T x):=zmM (ziz h) fun y a=>(zeL.1 a).2
theorem zem:zaO key ([]:List α):=List.Pairwise.nil
theorem zb7{T:List α}{k:List UInt8}{x:α}(h:zbF key T k=some x):x∈T/\key x=k:=by
 unfold zbF at h;exact⟨List.mem_of_find?_eq_some h,by simpa using List.find?_some h⟩
theorem zfa{T:List α}{k:List UInt8}:zbF key T k=none↔∀ x∈T,key x≠k:=by unfold zbF;simp
theorem zsg{T:List α}(h:zaO key T){x y:α}(b:x∈T)(c:y∈T)(g:key x=key y):x=y:=by
 induction T with
 | nil=>cases b
 | cons a r ih=>
  obtain⟨d,k⟩:=List.pairwise_cons.1 h;rcases List.mem_cons.1 b with j|b<;>rcases List.mem_cons.1 c with i|c
  ·rw [j,i]
  ·exact absurd (by rw [<-j];exact g) (zfF (d y c))
  ·exact absurd (by rw [<-i];exact g.symm) (zfF (d x b))
  ·exact ih k b c
theorem ziA{T:List α}(h:zaO key T){x:α}(a:x∈T):zbF key T (key x)=some x:=by
 cases hg:zbF key T (key x) with
 | none=>exact absurd rfl (zfa.1 hg x a)
 | some y=>
  obtain⟨c,b⟩:=zb7 hg;rw [zsg h c a b]
theorem ziB:∀ {T T':List α},zaO key T->zaO key T'->(∀ k,zbF key T k=zbF key T' k)->T=T':=by
 have o:∀ {T T':List α},zaO key T->zaO key T'->(∀ k,zbF key T k=zbF key T' k)->∀ x∈T,x∈T':=fun h d i x c=>by
  have:=ziA h c;rw [i] at this;exact(zb7 this).1
 have s:∀ {T T':List α},zaO key T->zaO key T'->(∀ x,x∈T↔x∈T')->T=T':=by
  intro T
  induction T with
  | nil=>intro T' _ _ h;exact(List.eq_nil_iff_forall_not_mem.2 fun x c=>by cases (h x).2 c).symm
  | cons a r ih=>
   intro T' h d g;cases T' with
   | nil=>exact absurd ((g a).1 (by simp)) (by simp)
   | cons b r'=>
    obtain⟨l,t⟩:=List.pairwise_cons.1 h;obtain⟨m,p⟩:=List.pairwise_cons.1 d;have q:a=b:=by
     rcases List.mem_cons.1 ((g a).1 (by simp)) with e|e
     ·exact e
     ·rcases List.mem_cons.1 ((g b).2 (by simp)) with j|j
      ·exact j.symm
      ·exact absurd rfl (zfF (ze9 (m a e) (l b j)))
    subst q;refine congrArg _ (ih t p fun x=>?_);constructor
    ·intro c;rcases List.mem_cons.1 ((g x).1 (by simp [c])) with e|e
     ·exact absurd (congrArg key e.symm) (zfF (l x c))
     ·exact e
    ·intro c;rcases List.mem_cons.1 ((g x).2 (by simp [c])) with e|e
     ·exact absurd (congrArg key e.symm) (zfF (m x c))
     ·exact e
 intro T T' h d i;exact s h d fun x=>⟨o h d i x,o d h (fun k=>(i k).symm) x⟩
theorem zpz{x:α}{k:List UInt8}:∀ {T:List α},(∀ y∈T,key y≠key x)->zbF key (zhj key x T) k=if key x=k then some x else zbF key T k
 | [],_=>by unfold zhj zbF;by_cases h:key x=k<;>simp [h]
 | y :: r,hn=>by
  have ih:=zpz (x:=x) (k:=k) (T:=r) fun z b=>hn z (by simp [b]);unfold zhj;split
  ·unfold zbF;rw [List.find?_cons];by_cases h:key x=k
   ·simp [h]
   ·rw [if_neg h,show(key x==k)=false by simpa using h]
  ·unfold zbF at ih ⊢;rw [List.find?_cons,List.find?_cons,ih];by_cases a:key y=k
   ·have:key x≠k:=fun e=>hn y (by simp) (a.trans e.symm);simp [a,this]
   ·have:(key y==k)=false:=by simpa using a
    rw [this]
theorem zpA{k a:List UInt8}{T:List α}:zbF key (zgl key k T) a=if k=a then none else zbF key T a:=by
 by_cases h:k=a
 ·subst h;rw [if_pos rfl,zfa];exact fun x b=>(zeL.1 b).2
 ·rw [if_neg h];unfold zbF zgl;rw [List.find?_filter];refine congrArg (fun f=>List.find? f T) (funext fun x=>?_);by_cases b:key x=a
  ·have:¬ a=k:=fun e=>h e.symm;simp [b,this]
  ·simp [b]
theorem zfG{x:α}{k:List UInt8}{T:List α}:zbF key (zbZ key T x) k=if key x=k then some x else zbF key T k:=by
 unfold zbZ;rw [zpz (fun y a=>(zeL.1 a).2),zpA];split<;>rfl
theorem zpB(x:α):∀ T:List α,(zhj key x T).length=T.length+1
 | []=>rfl
 | y :: r=>by
  unfold zhj;split
  ·rfl
  ·rw [List.length_cons,zpB x r,List.length_cons]
theorem ziC(x:α)(T:List α):(zbZ key T x).length<=T.length+1:=by
 unfold zbZ;rw [zpB];have:=List.length_filter_le (fun z=>!(key z==key x)) T;unfold zgl;omega
theorem zeM{k:List UInt8}{T:List α}(h:∀ x∈T,key x≠k):zgl key k T=T:=by
 unfold zgl;exact List.filter_eq_self.2 fun x a=>by simpa using h x a
theorem zmN{x:α}{T:List α}(h:∀ y∈T,bytesBefore (key y) (key x)=true):zbZ key T x=T++[x]:=by
 unfold zbZ;rw [zeM fun y a=>zfF (h y a)]
 induction T with
 | nil=>rfl
 | cons y r ih=>
  have a:=h y (by simp);unfold zhj;rw [if_neg (fun e=>absurd rfl (zfF (ze9 a e))),ih fun z b=>h z (by simp [b])];rfl
theorem zpC{T:List α}(h:zaO key T):T.foldl (zbZ key) []=T:=by
 have:∀ (R Q:List α),zaO key (Q++R)->R.foldl (zbZ key) Q=Q++R:=by
  intro R
  induction R with
  | nil=>intro Q _;simp
  | cons x r ih=>
   intro Q hq;rw [List.foldl_cons,zmN (fun y a=>(List.pairwise_append.1 hq).2.2 y a x (by simp)),ih (Q++[x]) (by simpa using hq)];simp
 simpa using this T [] (by simpa using h)
def zbm(key:α->List UInt8)(L F:List α):List α:=F.foldl (zbZ key) L
theorem zen{F:List α}:∀ {L:List α},zaO key L->zaO key (zbm key L F):=by
 induction F with
 | nil=>intro L h;exact h
 | cons x r ih=>intro L h;exact ih (zcx h)
theorem zfb{k:List UInt8}{F:List α}:∀ {L:List α},zaO key F->zbF key (zbm key L F) k=(zbF key F k).or (zbF key L k):=by
 induction F with
 | nil=>intro L _;rfl
 | cons x r ih=>
  intro L h;obtain⟨c,d⟩:=List.pairwise_cons.1 h;have:=ih (L:=zbZ key L x) d;unfold zbm at this ⊢;rw [List.foldl_cons,this,zfG];by_cases a:key x=k
  ·have:zbF key r k=none:=zfa.2 fun y b e=>zfF (c y b) (a.trans e.symm);rw [this];unfold zbF;simp [a]
  ·have e:zbF key (x :: r) k=zbF key r k:=by unfold zbF;rw [List.find?_cons,show(key x==k)=false by simpa using a]
   rw [e,if_neg a]
theorem zpD{x:α}{F:List α}:∀ {L:List α},x∈zbm key L F->x∈F\/x∈L:=by
 induction F with
 | nil=>intro L h;exact Or.inr h
 | cons y r ih=>
  intro L h;rcases ih (L:=zbZ key L y) h with h|h
  ·exact Or.inl (by simp [h])
  ·rcases zcr h with h|h
   ·exact Or.inl (by simp [h])
   ·exact Or.inr h
theorem zpE{L F:List α}{x:α}(a:zaO key L)(b:zaO key F):zbm key L (zbZ key F x)=zbZ key (zbm key L F) x:=by
 refine ziB (zen a) (zcx (zen a)) fun k=>?_;rw [zfb (zcx b),zfG,zfG,zfb b];split<;>rfl
end

section
variable {α β : Type} {key : α → List UInt8} {key' : β → List UInt8} {f : α → β}
theorem zpF(a:∀ x,key' (f x)=key x)(x:α):∀ T:List α,(zhj key x T).map f=zhj key' (f x) (T.map f)
 | []=>rfl
 | y :: r=>by
  simp only [zhj,List.map_cons,a];split
  ·rfl
  ·rw [List.map_cons,zpF a x r]
theorem zum(a:∀ x,key' (f x)=key x)(k:List UInt8)(T:List α):(zgl key k T).map f=zgl key' k (T.map f):=by
 unfold zgl;rw [List.filter_map];refine congrArg (List.map f) (congrArg (fun g=>List.filter g T) (funext fun x=>?_));simp [a]
theorem zpG(a:∀ x,key' (f x)=key x)(x:α)(T:List α):(zbZ key T x).map f=zbZ key' (T.map f) (f x):=by unfold zbZ;rw [zpF a,zum a,a]
theorem zsh(a:∀ x,key' (f x)=key x){T:List α}:zaO key T↔zaO key' (T.map f):=by unfold zaO;rw [List.pairwise_map];simp [a]
theorem zlr(a:∀ x,key' (f x)=key x)(T:List α)(k:List UInt8):zbF key' (T.map f) k=(zbF key T k).map f:=by
 unfold zbF;rw [List.find?_map];refine congrArg (Option.map f) (congrArg (fun g=>List.find? g T) (funext fun x=>?_));simp [a]
theorem zpH(a:∀ x,key' (f x)=key x)(F:List α):∀ L:List α,(zbm key L F).map f=zbm key' (L.map f) (F.map f):=by
 induction F with
 | nil=>intro L;rfl
 | cons x r ih=>intro L;unfold zbm at ih ⊢;rw [List.map_cons,List.foldl_cons,List.foldl_cons,ih,zpG a]
end
theorem zwN:∀ {a b:List UInt8},bytesBefore a b=true->a<=b:=by
 have:∀ {a b:List UInt8},bytesBefore a b=true->a<b:=by
  intro a
  induction a with
  | nil=>intro b h;cases b with
   | nil=>cases h
   | cons y s=>exact List.Lex.nil
  | cons x r ih=>
   intro b h;cases b with
   | nil=>cases h
   | cons y s=>
    simp only [bytesBefore,Bool.or_eq_true,Bool.and_eq_true,decide_eq_true_eq,beq_iff_eq] at h;rcases h with h|⟨rfl,h⟩
    ·exact List.Lex.rel h
    ·exact List.Lex.cons (ih h)
 intro a b h;exact List.le_of_lt (this h)
theorem zls{α:Type}{key:α->List UInt8}{T:List α}(h:zaO key T){a:List (List UInt8)}(c:a.Perm (T.map key)):(a.mergeSort fun x y=>decide (x<=y))=T.map key:=by
 rw [show(a.mergeSort fun x y=>decide (x<=y))=((T.map key).mergeSort fun x y=>decide (x<=y)) from mergeSort_of_perm c];refine List.mergeSort_of_pairwise ?_;rw [List.pairwise_map];exact h.imp fun b=>by simpa using zwN b
theorem zeN:∀ a b:List UInt8,Op.bytesLess a b=bytesBefore a b
 | [],[]=>rfl
 | [],_ :: _=>rfl
 | _ :: _,[]=>rfl
 | a :: x,b :: y=>by simp only [Op.bytesLess,bytesBefore,zeN x y]
end
section
open Go.RowKit Mem Be Go.Maps
abbrev kE(x:EntP):List UInt8:=x.k
abbrev kV(x:EV):List UInt8:=x.1.k
def ofT(T:List EntP)(k:List UInt8):EntP:=(zbF kE T k).getD (zoM k)
def ofV(T:List EV)(k:List UInt8):EV:=(zbF kV T k).getD (evN k)
theorem zlt(T:List EV)(k:List UInt8):(ofV T k).1=ofT (T.map Prod.fst) k:=by
 unfold ofV ofT;rw [zlr (key:=kV) (key':=kE) (f:=Prod.fst) (fun x=>rfl)];cases zbF kV T k<;>rfl
theorem ziD(T:List EntP)(k:List UInt8):(ofT T k).k=k:=by
 unfold ofT;cases h:zbF kE T k with
 | none=>rfl
 | some x=>exact(zb7 h).2
def Rv(v:Value):Option (DataW Value×List MemPlace):=some (.held v,[])
def tbP(x:EV):Lit×DataW Value:=(.string x.1.k,.held (evV x))
def tbD(T:List EV):DataW Value:=.map (T.map tbP)
theorem zun:Keyed Tryz.prog 9:=string_keyed Tryz.underlying9
theorem ztI(T:List EV)(k:List UInt8):Maps.has (tbD T) (.string k)=(zbF kV T k).isSome:=by
 unfold tbD zbF;rw [Maps.has_eq,List.any_map]
 induction T with
 | nil=>rfl
 | cons x r ih=>
  rw [List.any_cons,List.find?_cons];cases h:(x.1.k==k)
  ·rw [show((fun p:Lit×DataW Value=>p.1.sameKey (.string k)) ∘ tbP) x=false from h,ih];rfl
  ·rw [show((fun p:Lit×DataW Value=>p.1.sameKey (.string k)) ∘ tbP) x=true from h];rfl
theorem zvJ(T:List EV)(k:List UInt8)(z:DataW Value):(tbD T).atKey (.string k) z=match zbF kV T k with|some x=>.held (evV x)|none=>z:=by
 unfold tbD zbF DataW.atKey;simp only
 induction T with
 | nil=>rfl
 | cons x r ih=>
  rw [List.map_cons,List.find?_cons,List.find?_cons];cases h:(x.1.k==k)
  ·rw [show(tbP x).1.sameKey (.string k)=false from h];exact ih
  ·rw [show(tbP x).1.sameKey (.string k)=true from h];rfl
theorem ztJ(x:EV):∀ T:List EV,DataW.insert (tbP x) (T.map tbP)=(zhj kV x T).map tbP
 | []=>rfl
 | y :: r=>by
  rw [List.map_cons];unfold DataW.insert zhj;rw [show(tbP x).1.before (tbP y).1=bytesBefore x.1.k y.1.k from rfl];split
  ·rfl
  ·rw [ztJ x r];rfl
theorem zjN(k:List UInt8)(T:List EV):((T.map tbP).filter fun p=>!p.1.sameKey (.string k))=(zgl kV k T).map tbP:=by
 unfold zgl;rw [List.filter_map];rfl
theorem zvK(T:List EV)(x:EV):(tbD T).put (.string x.1.k) (.held (evV x))=tbD (zbZ kV T x):=by
 show DataW.map (DataW.insert (tbP x) ((T.map tbP).filter fun p=>!p.1.sameKey (.string x.1.k)))=_
 rw [zjN,ztJ];rfl
theorem zvL(T:List EV)(k:List UInt8):(tbD T).del (.string k)=tbD (zgl kV k T):=by
 show DataW.map ((T.map tbP).filter fun p=>!p.1.sameKey (.string k))=_
 rw [zjN];rfl
theorem zgG(T:List EV):Maps.size (tbD T)=T.length:=by unfold tbD;rw [Maps.size_eq,List.length_map]
theorem zuo(T:List EV):strKeys (tbD T)=T.map kV:=by
 unfold tbD strKeys;simp only [List.map_map];rfl
def zdg(w:World)(b:Nat)(T:List EV):Prop:=w.ownsMap Tryz.prog 9 Rv b T.length (tbD T)
def zjo(w:World)(mo:Option Nat)(T:List EV):Prop:=(mo=none/\T=[])\/∃ b,mo=some b/\zdg w b T
theorem zjO{w:World}{b n:Nat}{T:List EV}(h:w.ownsMap Tryz.prog 9 Rv b n (tbD T)):zdg w b T:=by
 obtain⟨i,c,d,g,j,a⟩:=h;refine⟨i,c,d,g,?_,a⟩;have:=congrArg Maps.size a;rw [zgG,Maps.size_eq,length_sorted,List.length_map] at this;simp only [Array.length_toList] at this;omega
theorem zdg.lt{w:World}{b:Nat}{T:List EV}(h:zdg w b T):b<w.heap.size:=World.ownsMap.lt h
theorem zdg.keep{w w':World}{b:Nat}{T:List EV}(h:zdg w b T)(hk:w'.heap[b]?=w.heap[b]?):zdg w' b T:=by
 obtain⟨es,clock,hb,r⟩:=h;exact⟨es,clock,hk.trans hb,r⟩
theorem zjo.keep{w w':World}{mo:Option Nat}{T:List EV}(h:zjo w mo T)(hk:∀ b,mo=some b->w'.heap[b]?=w.heap[b]?):zjo w' mo T:=by
 rcases h with h|⟨b,h1,h2⟩
 ·exact Or.inl h
 ·exact Or.inr ⟨b,h1,h2.keep (hk b h1)⟩
theorem zjo.lt{w:World}{mo:Option Nat}{T:List EV}(h:zjo w mo T):∀ b,mo=some b->b<w.heap.size:=by
 rcases h with⟨h,_⟩|⟨b,h1,h2⟩
 ·intro b hb;rw [h] at hb;cases hb
 ·intro b' hb;rw [h1] at hb;injection hb with hb;subst hb;exact h2.lt
theorem zjo.below{w w':World}{mo:Option Nat}{T:List EV}(h:zjo w mo T)(hb:Below w.heap.size w w'):zjo w' mo T:=h.keep fun b he=>hb.block b (h.lt b he)
theorem zdg.made(w:World):zdg (w.alloc (.map #[] 0)) w.heap.size []:=World.ownsMap_made w Tryz.prog 9 Rv
theorem zdg.ne{w:World}{b g:Nat}{T:List EV}{cs:Array Value}{t:TypeId}{f:Nat×Nat}(h:zdg w b T)(hg:w.heap[g]?=some (.cells cs t f)):b≠g:=by
 obtain⟨es,clock,hb,_⟩:=h;rintro rfl;rw [hb] at hg;cases hg
theorem zpI(w:World):(zeroValue 46).run Tryz.prog w=.ok (evV (evN [])) w:=by kernel_rfl
def zf8(T:List EV)(k:List UInt8):Value:=match zbF kV T k with|some x=>evV x|none=>evV (evN [])
theorem zgm{w:World}{j:Option Nat}{T:List EV}(h:zjo w j T){k:List UInt8}(l:k.length<=maxLen)(c:Bool) :
 (Instr.lookup 106 (.map j) (.string ⟨k.toArray⟩) c).run Tryz.prog w=.ok (if c then .tuple #[zf8 T k,.bool (zbF kV T k).isSome] else zf8 T k) w:=by
 have d:keyOf Tryz.prog 9 (.string ⟨k.toArray⟩)=some (.string k):=by
  have:=Go.WideMaps.keyOf_string_mk (P:=Tryz.prog) (k:=9) Tryz.underlying9 (s:=⟨k.toArray⟩) (by show k.toArray.size<=maxLen;simpa using l);simpa using this
 rcases h with⟨rfl,rfl⟩|⟨b,rfl,h⟩
 ·have:=Maps.look_nil (P:=Tryz.prog) (w:=w) (t:=106) (e:=46) c zun Tryz.underlying106 (zpI w) d;exact this
 ·have i:∀ {v:Value} {ps:List MemPlace},Rv v=some ((tbD T).atKey (.string k) (.held (evV (evN []))),ps)->v=zf8 T k:=fun {v ps} a=>by
   unfold Rv at a;injection a with a;injection a with a _;rw [zvJ] at a;unfold zf8;cases hg:zbF kV T k with
   | none=>rw [hg] at a;injection a
   | some x=>rw [hg] at a;injection a
  cases c
  ·obtain⟨v,ps,g,a⟩:=World.ownsMap.lookup (t:=106) (e:=46) h zun Tryz.underlying106 (zpI w) (zd:=.held (evV (evN []))) (zp:=[]) rfl d;rw [g,i a];rfl
  ·obtain⟨v,ps,g,a⟩:=World.ownsMap.look_ok (t:=106) (e:=46) h zun Tryz.underlying106 (zpI w) (zd:=.held (evV (evN []))) (zp:=[]) rfl d;rw [g,i a,ztI];rfl
theorem zpJ{k:List UInt8}(a:k.length<=maxLen):keyOf Tryz.prog 9 (.string ⟨k.toArray⟩)=some (.string k):=by
 have:=Go.WideMaps.keyOf_string_mk (P:=Tryz.prog) (k:=9) Tryz.underlying9 (s:=⟨k.toArray⟩) (by show k.toArray.size<=maxLen;simpa using a);simpa using this
theorem zlu{w:World}{b:Nat}{T:List EV}(h:zdg w b T)(x:EV)(g:x.1.k.length<=maxLen)(j:T.length<maxLen) :
 ∃ w',(Instr.mapUpdate 106 (.map (some b)) (.string ⟨x.1.k.toArray⟩) (evV x)).run Tryz.prog w=.ok () w'/\zdg w' b (zbZ kV T x)/\w.mapTurned w' b:=by
 obtain⟨w',i,a,c⟩:=World.ownsMap.store (t:=106) (e:=46) h zun Tryz.underlying106 j (zpJ g) (val:=evV x) (d:=.held (evV x)) (ps:=[]) rfl;rw [zvK] at a;exact⟨w',i,zjO a,c⟩
theorem zdb{w w':World}{b:Nat}(h:w.mapTurned w' b):Touch (fun k=>k=b) w w':=⟨h.grown.os,h.grown.tape,h.grown.output,h.grown.size,fun k a c=>h.grown.block k a fun e=>c (by injection e)⟩
end
section
open Go.RowKit Mem Be Go.Maps
def zsi(g i:Nat)(mo:Option Nat)(T:List EV)(y:EV)(w:World)(e:Ending)(w':World):Prop:=
 e=.returned (.tuple #[])/\((∃ b,mo=some b/\zdg w' b (zbZ kV T y)/\Touch (fun k=>k=b) w w')\/
  (mo=none/\∃ b,w.heap.size<=b/\zdg w' b (zbZ kV T y)/\Touch (fun _=>False) (w.setCell ⟨g,i,none⟩ (.map (some b))) w'))
theorem zlv{w:World}{b g i:Nat}{T:List EV}{v:Value}(h:zdg w b T)(hc:w.cell? ⟨g,i,none⟩=some v):b≠g:=by
 obtain⟨d,c,a,_⟩:=h;rintro rfl;simp [World.cell?,a] at hc
theorem zsj(T:List EV)(b g i:Nat)(y:EV)(a:y.1.k.length<=250)(l:T.length<=100000000)(w:World)(hc:w.cell? ⟨g,i,none⟩=some (.map (some b)))(c:zdg w b T) :
 Calls Tryz.prog 124 #[.pointer (some ⟨g,i,none⟩),evV y] w (zsi g i (some b) T y w):=by
 have t:=zhd a;have x:=zhd l;have r:g<w.heap.size:=zaq hc;have p:Hid (zdg (w.alloc (zhm ⟨y.1.k.toArray⟩ y.1.s y.1.u y.1.o y.1.has y.2.1 y.1.v.length y.2.2)) b T):=zhd (c.keep (((Below.refl _ w).alloc (Nat.le_refl _) _).block b c.lt));have q:Hid (Below w.heap.size w (w.alloc (zhm ⟨y.1.k.toArray⟩ y.1.s y.1.u y.1.o y.1.has y.2.1 y.1.v.length y.2.2))):=zhd ((Below.refl _ w).alloc (Nat.le_refl _) _);have z:=fun W=>run_eql_map_nil (P:=Tryz.prog) W 106 9 46 (some b) Tryz.underlying106;obtain⟨w',m,j,d⟩:=zlu (w:=(w.alloc (zhm ⟨y.1.k.toArray⟩ y.1.s y.1.u y.1.o y.1.has y.2.1 y.1.v.length y.2.2)).drew) (b:=b) (T:=T) p.out y (by unfold maxLen;omega) (by unfold maxLen;omega);have h:=zhd (And.intro j ((Touch.ofBelow (Below.refl _ _).drew).trans (zdb d) fun k a=>Or.inl a));clear a l c j d;unfold evV at m ⊢;unfold zaT at m;go_enter Tryz.func124,Tryz.ntmps124
 go_wp2_with fail
 go_region_law (fail)
 all_goals
  go_end0
  refine⟨rfl,Or.inl ⟨b,rfl,h.out.1,(Touch.ofBelow q.out).trans h.out.2 fun k a=>Or.inl a⟩⟩
theorem zsk(g i:Nat)(y:EV)(a:y.1.k.length<=250)(w:World)(hc:w.cell? ⟨g,i,none⟩=some (.map none))(x:w.frozen? ⟨g,i,none⟩=false) :
 Calls Tryz.prog 124 #[.pointer (some ⟨g,i,none⟩),evV y] w (zsi g i none [] y w):=by
 have t:=zhd a;have r:g<w.heap.size:=zaq hc;have z:=@run_makeMap Tryz.prog;have A:=fun W=>run_eql_map_nil (P:=Tryz.prog) W 106 9 46 none Tryz.underlying106;have p:(w.setCell ⟨g,i,none⟩ (.map (some (w.heap.size+1)))).heap.size=w.heap.size:=by simp [World.setCell]
 have q:Hid (Below (w.setCell ⟨g,i,none⟩ (.map (some (w.heap.size+1)))).heap.size (w.setCell ⟨g,i,none⟩ (.map (some (w.heap.size+1)))) ((((w.setCell ⟨g,i,none⟩ (.map (some (w.heap.size+1)))).alloc (zhm ⟨y.1.k.toArray⟩ y.1.s y.1.u y.1.o y.1.has y.2.1 y.1.v.length y.2.2)).alloc (.map #[] 0)).drew)):=zhd (((zbl).alloc (by simp) _).drew);have c:=zdg.made ((w.setCell ⟨g,i,none⟩ (.map (some (w.heap.size+1)))).alloc (zhm ⟨y.1.k.toArray⟩ y.1.s y.1.u y.1.o y.1.has y.2.1 y.1.v.length y.2.2));rw [show((w.setCell ⟨g,i,none⟩ (.map (some (w.heap.size+1)))).alloc (zhm ⟨y.1.k.toArray⟩ y.1.s y.1.u y.1.o y.1.has y.2.1 y.1.v.length y.2.2)).heap.size=w.heap.size+1 by simp [p]] at c;obtain⟨w',m,l,d⟩:=zlu (w:=(((w.setCell ⟨g,i,none⟩ (.map (some (w.heap.size+1)))).alloc (zhm ⟨y.1.k.toArray⟩ y.1.s y.1.u y.1.o y.1.has y.2.1 y.1.v.length y.2.2)).alloc (.map #[] 0)).drew) (b:=w.heap.size+1) (T:=[]) c y (by unfold maxLen;omega) (by unfold maxLen;simp);have j:=zhd (And.intro l ((Touch.ofBelow (F:=fun k=>k=w.heap.size+1) q.out).trans (zdb d) fun k a=>Or.inl a));clear a l d c p;unfold evV at m ⊢;unfold zaT at m;go_enter Tryz.func124,Tryz.ntmps124
 go_wp2_with fail
 go_region_law (fail)
 all_goals
  go_end0
  refine⟨rfl,Or.inr ⟨rfl,w.heap.size+1,by omega,j.out.1,?_⟩⟩;have h:=j.out.2;exact⟨h.os,h.tape,h.output,h.size,fun k a _=>h.block k a (by rintro rfl;simp [World.setCell] at a;omega)⟩
theorem ziE(T:List EV)(a:Option Nat)(g i:Nat)(y:EV)(d:y.1.k.length<=250)(j:T.length<=100000000)(w:World)(hc:w.cell? ⟨g,i,none⟩=some (.map a))(h:w.frozen? ⟨g,i,none⟩=false)(c:zjo w a T) :
 Calls Tryz.prog 124 #[.pointer (some ⟨g,i,none⟩),evV y] w (zsi g i a T y w):=by
 rcases c with⟨rfl,rfl⟩|⟨b,rfl,c⟩
 ·exact zsk g i y d w hc h
 ·exact zsj T b g i y d j w hc c
def IsE(x:EV)(w:World)(e:Ending)(w':World):Prop:=e=.returned (evV x)/\Below w.heap.size w w'
theorem zfc(T:List EV)(b:Option Nat)(k:List UInt8)(d:k.length<=maxLen)(w:World)(c:zjo w b T) :
 Calls Tryz.prog 73 #[.map b,.string ⟨k.toArray⟩] w (IsE (ofV T k) w):=by
 have a:∀ o:Obj,(Instr.lookup 106 (.map b) (.string ⟨k.toArray⟩) true).run Tryz.prog (w.alloc o)=.ok (.tuple #[zf8 T k,.bool (zbF kV T k).isSome]) (w.alloc o):=fun o=>zgm (c.below (zbl)) d true;clear c;unfold zf8 at a;unfold ofV;cases hg:zbF kV T k with
 | none=>
  rw [hg] at a;simp only [Option.isSome_none,Option.getD_none] at a ⊢;clear hg;unfold evV evN zoM at a;unfold zaT at a;simp only [List.length_nil] at a;go_enter Tryz.func73,Tryz.ntmps73
  go_wp2;exact bodyPost_ret (v:=zaT ⟨k.toArray⟩ 0 0 0 false none 0 0) (by simp [results,Tryz.results73,go_sem]) rfl ⟨rfl,(zbl).alloc (by simp) _⟩
 | some x=>
  rw [hg] at a;simp only [Option.isSome_some,Option.getD_some] at a ⊢;clear hg;unfold evV at a;unfold zaT at a;go_enter Tryz.func73,Tryz.ntmps73
  go_wp2;exact bodyPost_ret (v:=zaT ⟨x.1.k.toArray⟩ x.1.s x.1.u x.1.o x.1.has x.2.1 x.1.v.length x.2.2) (by simp [results,Tryz.results73,go_sem]) rfl ⟨rfl,(zbl).alloc (by simp) _⟩
end
section
open Go.RowKit Mem Be Go.Maps Go.Sort Go.Shelf
theorem ztK(m:Nat):AnyZ.SortsIn Tryz.prog Tryz.sorted117_ren Fence.wide m:=
 ⟨fun blk off cap b W a c d=>callsIn_wide.2 (AnyM.slices_Sort_string Tryz.sort146 blk off cap b W a c d),
  fun p cap W=>callsIn_wide.2 (AnyM.slices_Sort_string_none Tryz.sort146 p cap W)⟩
theorem zwO(a:Option Nat)(W:World):Calls Tryz.prog 118 #[.map a] W fun e w'=>e=.returned (.func (.func 147) #[] #[.pointer (some ⟨W.heap.size,0,none⟩)])/\w'=W.alloc (.cells #[.map a] 106):=
 callsIn_wide.1 (AnyZ.keys_in Tryz.keys118 Fence.wide 5 trivial rfl a W)
def zvM(T:List EV)(w:World)(e:Ending)(w':World):Prop:=
 ∃ A c,e=.returned (.slice A T.length c)/\w'.ownsRow w.heap.size 9 1 (.slice A T.length c) T.length ((T.map kV).map fun k=>Value.string ⟨k.toArray⟩)/\Below w.heap.size w w'
theorem zup(T:List EV)(j:Option Nat)(t:zaO kV T)(B:T.length<=8388608)(w:World)(g:zjo w j T) :
 Calls Tryz.prog 117 #[.func (.func 147) #[] #[.pointer (some ⟨w.heap.size,0,none⟩)]] (w.alloc (.cells #[.map j] 106)) (zvM T (w.alloc (.cells #[.map j] 106))):=by
 have o:∀ (e:Ending) (W w':World),(∃ (v:Value) (a:List (List UInt8)),e=.returned v/\a.Perm (T.map kV)/\
  w'.ownsRow W.heap.size 9 1 v a.length ((a.mergeSort (fun x y=>decide (x<=y))).map encStr)/\(v=.slice none 0 0↔a=[])/\Below W.heap.size W w')->zvM T W e w':=by
  rintro e W w' ⟨v,a,rfl,d,k,_,l⟩;have hl:a.length=T.length:=by rw [d.length_eq,List.length_map]
  rw [zls t d,hl] at k;obtain⟨A,c,rfl,_,_⟩:=zat k;exact⟨A,c,rfl,k,l⟩
 refine(callsIn_wide (n:=5)).1 ?_;rcases g with⟨rfl,rfl⟩|⟨b,rfl,g⟩
 ·have m:SeqGives Fence.wide 2 Tryz.prog 147 #[.pointer (some ⟨w.heap.size,0,none⟩)] encStr (fun a:List (List UInt8)=>a=[]) 0 (w.alloc (.cells #[.map none] 106)):=
   AnyZ.keys_gives_nil (ρ:=Tryz.keys118_ren) {Tryz.keys118 with} Fence.wide _ trivial rfl w.heap.size _ (by simp) (by simp)
  refine(AnyZ.sorted_in Tryz.sorted117 Fence.wide 5 trivial trivial trivial trivial rfl (by omega) (ztK _) (enters_of Tryz.func146 (by kernel_rfl) rfl) 147 #[.pointer (some ⟨w.heap.size,0,none⟩)] trivial (enters_of Tryz.func147 (by kernel_rfl) rfl) _ 0 (Nat.zero_le _) (by omega) _ m).mono ?_;rintro e w' ⟨v,a,i,rfl,h⟩;exact o e _ w' ⟨v,[],i,List.Perm.refl _,h⟩
 ·have q:=g.lt;have m:SeqGives Fence.wide 2 Tryz.prog 147 #[.pointer (some ⟨w.heap.size,0,none⟩)] encStr (fun a=>a.Perm (strKeys (tbD T))) (Maps.size (tbD T)) (w.alloc (.cells #[.map (some b)] 106)):=
   AnyZ.keys_gives (ρ:=Tryz.keys118_ren) {Tryz.keys118 with} Fence.wide _ trivial rfl (by omega) w.heap.size b T.length (tbD T) _ (by simp) (by simp) (by
    obtain⟨u,p,l,z,s,r⟩:=g;exact⟨u,p,(Below.heap_alloc _ _ b q).trans l,z,s,r⟩)
  refine(AnyZ.sorted_in Tryz.sorted117 Fence.wide 5 trivial trivial trivial trivial rfl (by omega) (ztK _) (enters_of Tryz.func146 (by kernel_rfl) rfl) 147 #[.pointer (some ⟨w.heap.size,0,none⟩)] trivial (enters_of Tryz.func147 (by kernel_rfl) rfl) _ _ (by rw [zgG];unfold maxLen;omega) (by rw [zgG];omega) _ m).mono ?_;rintro e w' ⟨v,a,i,d,h⟩;rw [zuo] at d;exact o e _ w' ⟨v,a,i,d,h⟩
end
section
open Go.RowKit Mem Be Go.Maps
end
section
open Go.RowKit Mem Be Go.Maps
theorem zuq{w:World}{a:Option Nat}{T:List EV}(h:zjo w a T)(ty:TypeId):(Builtin.len_ #[106] ty #[.map a]).run Tryz.prog w=.ok (.int .i64 (T.length:Int)) w:=by
 rcases h with⟨rfl,rfl⟩|⟨b,rfl,h⟩
 ·exact Maps.len_nil (P:=Tryz.prog) (w:=w) Tryz.underlying106 ty
 ·have:=World.ownsMap.len (e:=46) (t:=106) h Tryz.underlying106 ty
  rwa [zgG] at this
theorem zgH{w w':World}{p:Addr}(h:w'.heap[p.block]?=w.heap[p.block]?):w'.cell? p=w.cell? p:=by
 obtain⟨b,o,s⟩:=p;simp only at h;simp only [World.cell?,h]
theorem zfd(T:List EV)(G:Option Nat)(hS:zaO kV T)(hn:T.length<=8388608)(w:World)(V:zjo w G T)(hV:∀ x∈T,ValOk w x.1.has x.2.1 x.1.v x.2.2)(q:∀ x∈T,x.1.k.length<=maxLen) :
 Calls Tryz.prog 82 #[.map G] w (zpy (T.map Prod.fst) w):=by
 obtain⟨i0,aq,ak,ab,az⟩:=info_parts ziy;obtain⟨w1,aH,ao,t⟩:=run_make_own (P:=Tryz.prog) w w.heap.size 33 46 i0 (evV (evN [])) 6 Tryz.underlying33 aq ak ab .i64 .i64 T.length (by rw [az];omega) (by unfold maxLen;omega) (Nat.le_refl _);have aR:=zuq V;have HT:=zhd V;have HS:=zhd hS;have U:=zhd hn;have HV:=zhd hV;have HK:=zhd q;have aS:=zhd ao;have K:Hid (Below w.heap.size w w1):=zhd ⟨t.os,t.tape,t.output,t.size,fun k q=>t.block k q (by simp)⟩;clear V hS hn hV q ao t;go_enter Tryz.func82,Tryz.ntmps82
 go_wp2_with fail
 refine(zwO G w1).mono ?_;rintro e w2 ⟨rfl,rfl⟩;have ae:=zhd (zup T G HS.out U.out w1 (HT.out.below K.out));go_wp2_with fail
 refine ae.out.mono ?_;rintro e l ⟨AK,cK,rfl,ai,ay⟩;have ax:=zhd ai;have am:Hid (Below w1.heap.size w1 l):=zhd ((((Below.refl _ w1).alloc (Nat.le_refl _) _).trans (ay.mono (by simp))));have aI:Hid (l.ownsRow w.heap.size 46 6 (.slice (some ⟨w.heap.size,0,none⟩) 0 T.length) 0 []):=zhd (zag aS.out am.out);have aD:=zhd (K.out.trans (am.out.mono K.out.size));have aK:Hid (Row l l.heap.size AK ((T.map kV).map fun k=>Value.string ⟨k.toArray⟩)):=zhd (Row.of_own ax.out);have aU:(T.length:Int)<=8388608:=by have:=U.out;omega
 clear ai ay ae aR aH;go_wp2_with fail
 go_loopw [3,13] (fun v i wr=>∃ (j:Nat) (m:List EV) (A:Option Addr) (c:Nat),j<=T.length/\i=.int .i64 j/\v=.slice A j c/\Hid (m.length=j)/\Hid (m.map Prod.fst=(T.map Prod.fst).take j)/\
  Hid (wr.ownsRow w.heap.size 46 6 (.slice A j c) j (zaG m))/\Hid (zcM wr w.heap.size m)/\Hid (∀ k,k<l.heap.size->k≠w.heap.size->wr.heap[k]?=l.heap[k]?)/\Hid (l.heap.size<=wr.heap.size)/\Hid (∀ a,A=some a->a.block=w.heap.size\/l.heap.size<=a.block)/\Hid (Below w.heap.size w wr)) (fun _ i _=>T.length - (intOf i).toNat)
 case atStart=>exact⟨0,[],_,_,Nat.zero_le _,rfl,rfl,zhd rfl,zhd rfl,aI,zhd (zd0 _ _),zhd (fun _ _ _=>rfl),zhd (Nat.le_refl _),zhd (fun a h=>by injection h with h;subst h;exact Or.inl rfl),aD⟩
 case round=>
  obtain⟨j,m,A,cA,hj,rfl,rfl,af,Q,X,M,aA,W,ah,p⟩:=hrel;by_cases Z:j<T.length
  ·obtain⟨x,J⟩:∃ x,T[j]=x:=⟨_,rfl⟩;have D:x∈T:=by rw [<-J];exact List.getElem_mem Z
   obtain⟨b,o,rfl,aM,hc⟩:=aK.out.open_ (by simp;omega);have an:w.heap.size<b:=by have S:=(zaJ ax.out rfl).1;have N:=K.out.size;simp at S;omega
   have aX:wr.cell? ⟨b,o+j,none⟩=some (.string ⟨x.1.k.toArray⟩):=by
    rw [zgH (w:=l) (aA.out b aM (by omega)),hc j (by simpa using Z)];simp [J]
   have aa:=HT.out.below p.out;have F:=zgm aa (k:=x.1.k) (HK.out x D) false;rw [show zf8 T x.1.k=evV x by unfold zf8;rw [ziA HS.out D]] at F;simp only [if_false,Bool.false_eq_true] at F;unfold evV at F;unfold zaT at F;have HC:=zhd (zdp ⟨x.1.k.toArray⟩ x.1.s x.1.u x.1.o x.1.has x.2.1 x.1.v x.1.v.length x.2.2 rfl wr ((HV.out x D).below p.out));have aw:(T.map Prod.fst).take (j+1)=(T.map Prod.fst).take j++[x.1]:=by
    rw [List.take_succ_eq_append_getElem (by simpa using Z)];simp [J]
   have aQ:=zhd aw;have aY:=zhd an;have aV:(0:Int)<=(j:Int):=by omega
   have aW:(j:Int)<(T.length:Int):=by omega
   have aG:=U.out;clear aa hc aw J D an;go_wp2_with fail
   refine HC.out.mono ?_;rintro e w4 ⟨z,c4,rfl,aj,r⟩;obtain⟨y,R⟩:∃ y:EV,y=(x.1,z,c4):=⟨_,rfl⟩;have HY:Hid (y.1=x.1):=zhd (by rw [R]);have al:zix w4 wr.heap.size y:=by rw [R];exact aj
   have aJ:Hid (Blk (w4.alloc (.cells ⟨zbf y⟩ 46)) w4.heap.size 46 ⟨zbf y⟩):=zhd (Blk.new _ _ _);have C:∀ d,Below w4.heap.size w4 (w4.alloc d):=fun d=>(Below.refl _ _).alloc (Nat.le_refl _) d;have I:Hid (∀ d,(w4.alloc d).ownsRow w.heap.size 46 6 (.slice A j cA) j (zaG m)):=zhd fun d=>zag (zag X.out r) (C d);have aB:Hid (∀ d,zcM (w4.alloc d) w.heap.size (m++[y])):=zhd fun d=>zeK (zpw (zeK M.out r) (zpx (zaz al p.out.size))) (C d);have E:Hid (∀ d,Below w.heap.size w (w4.alloc d)):=zhd fun d=>(p.out.trans (r.mono p.out.size)).trans ((C d).mono (p.out.trans (r.mono p.out.size)).size);have ag:Hid (∀ d,∀ k,k<wr.heap.size->(w4.alloc d).heap[k]?=wr.heap[k]?):=zhd fun d k q=>((C d).block k (Nat.lt_of_lt_of_le q r.size)).trans (r.block k q);have Y:=zhd r.size;subst R;clear aj r C al HC;go_wp2_with (at_builtin;refine zaN (P:=Tryz.prog) (by rfl) _ _ _ (by rfl) w.heap.size 46 i0 (evV (evN [])) 6 72 Tryz.underlying33 aq ak ab az rfl (by decide) _ j (zaG m) (by rfl) (by exact I.out _) (w4.heap.size+1) (some ⟨w4.heap.size,0,none⟩) 1 1 (zaG [(x.1,z,c4)]) (by rfl) (by rfl) (by exact zgF aJ.out (by omega)) (zcB _) (by have:=aG;unfold maxLen;omega) (by omega) (by have:=(E.out (.cells #[] 0)).size;simpa using this) ?_)
   intro v' L O B au;obtain⟨A5,c5,rfl,_,_⟩:=zat O;have aE:Hid (Below w.heap.size w L):=zhd ((E.out _).grown B (E.out _).size fun g h=>((I.out (.cells ⟨zbf (x.1,z,c4)⟩ 46)).lt g h).1);have aP:Hid (zcM L w.heap.size (m++[(x.1,z,c4)])):=zhd (zlp (aB.out (.cells ⟨zbf (x.1,z,c4)⟩ 46)) (I.out _) (by decide) B);have aT:Hid (∀ k,k<l.heap.size->k≠w.heap.size->L.heap[k]?=l.heap[k]?):=zhd fun k q hne=>by
    have h3:=W.out;refine(B.block k (by have N:=Y.out;simp;omega) fun e=>?_).trans ((ag.out _ k (by omega)).trans (aA.out k q hne));cases A with
    | none=>cases e
    | some a=>
     have e2:k=a.block:=by simpa [Value.ownBlock] using e
     rcases ah.out a rfl with h|h<;>omega
   have aL:Hid (∀ a,A5=some a->a.block=w.heap.size\/l.heap.size<=a.block):=zhd fun a ha=>by
    subst ha;rcases au with h|h
    ·cases A with
     | none=>cases h
     | some a'=>
      have e2:a.block=a'.block:=by simpa [Value.ownBlock] using h
      rw [e2];exact ah.out a' rfl
    ·have e2:a.block=w4.heap.size+1:=by simpa [Value.ownBlock] using h
     have N:=Y.out;have h3:=W.out;exact Or.inr (by omega)
   have aO:Hid (l.heap.size<=L.heap.size):=zhd (by have S:=B.size;have N:=Y.out;have h3:=W.out;simp at S;omega);have aN:=zhd O;clear O B au I aB E ag X M p;go_wp2;go_roundw
   case rel=>exact⟨j+1,m++[(x.1,z,c4)],A5,c5,by omega,by go_num,rfl,zhd (by rw [List.length_append,af.out];rfl),zhd (by rw [List.map_append,Q.out,aQ.out];rfl),zhd (by rw [zdr];exact aN.out),aP,aT,aO,aL,aE⟩
   case measure=>simp [intOf];omega
  ·obtain rfl:j=T.length:=by omega
   have ht:(T.map Prod.fst).take T.length=T.map Prod.fst:=List.take_of_length_le (by simp);rw [ht] at Q;go_wp2;go_ret;have hl:=af.out;have ho:=X.out;rw [<-hl] at ho ⊢;exact⟨m,A,cA,Q.out,rfl,ho,M.out,p.out⟩
end
section
open Go.RowKit Mem Be Go.Maps
def zkR(w:World)(b r n:Nat)(F:List EV)(left:Lit->Bool)(cnt:Nat):Prop:=w.ranges Tryz.prog 9 Rv b r n (tbD F) left cnt
theorem zjP{w:World}{b:Nat}{F:List EV}(h:zdg w b F):∃ w',(Instr.range 106 (.map (some b))).run Tryz.prog w=.ok (.pointer (some ⟨w.heap.size,0,none⟩)) w'/\zkR w' b w.heap.size F.length F (Maps.has (tbD F)) F.length/\Below w.heap.size w w'/\w'.heap.size=w.heap.size+1:=by
 obtain⟨w',i,c,a,d⟩:=World.ownsMap.range (t:=106) (e:=46) h zun Tryz.underlying106;rw [zgG] at c;exact⟨w',i,c,⟨a.os,a.tape,a.output,a.size,fun k g=>a.block k g (by simp)⟩,d⟩
theorem zmO{w:World}{b r n cnt:Nat}{F:List EV}{left:Lit->Bool}(C:zaO kV F)(h:zkR w b r n F left cnt)(ty:TypeId) :
 (cnt=0/\(∀ k,left k=false)/\(Instr.next (.pointer (some ⟨r,0,none⟩)) false ty).run Tryz.prog w=.ok (.tuple #[.bool false]) w)\/
 ∃ x w' d,x∈F/\left (.string x.1.k)=true/\(Instr.next (.pointer (some ⟨r,0,none⟩)) false ty).run Tryz.prog w=.ok (.tuple #[.bool true,.string ⟨x.1.k.toArray⟩,evV x]) w'/\zkR w' b r n F (fun z=>left z&&!z.sameKey (.string x.1.k)) d/\d<cnt/\
  w.grownBy w' (some r)/\w'.heap.size=w.heap.size/\(Instr.entry (.pointer (some ⟨r,0,none⟩))).run Tryz.prog w'=.ok (.tuple #[.string ⟨x.1.k.toArray⟩,evV x]) w':=by
 rcases World.ranges.next h zun ty with⟨A,hl,i⟩|⟨key,v,B,y,w',d,o,t,c,l,i,s,q,u,p,j⟩
 ·exact Or.inl ⟨A,hl,i⟩
 ·obtain⟨k,rfl,rfl,D⟩:=Maps.keyOf_str Tryz.underlying9 o;have a:=l .nil;rw [zvJ] at a;unfold Rv at c;injection c with c;subst c;cases hg:zbF kV F k with
  | none=>rw [hg] at a;cases a
  | some x=>
   rw [hg] at a;simp only at a;injection a with a;obtain⟨m,g⟩:=zb7 hg;subst a;have g:x.1.k=k:=g;subst g;exact Or.inr ⟨x,w',d,m,t,i,s,q,u,p,j⟩
theorem zkR.keep{w w':World}{b r n cnt:Nat}{F:List EV}{left:Lit->Bool}(h:zkR w b r n F left cnt){row:Option Nat}(hg:w.grownBy w' row)(h1:some b≠row)(h2:some r≠row):zkR w' b r n F left cnt:=World.ranges.kept h hg h1 h2
theorem zpK{F:List EV}{k:List UInt8}:Maps.has (tbD F) (.string k)=(zbF kV F k).isSome:=ztI F k
def znP(T F D:List EV)(left:Lit->Bool):Prop:=zaO kV D/\∀ k,zbF kV D k=if(zbF kV F k).isSome=true/\left (.string k)=false then zbF kV F k else zbF kV T k
theorem zhL{T F:List EV}(a:zaO kV T):znP T F T (Maps.has (tbD F)):=⟨a,fun k=>by
 rw [zpK];cases zbF kV F k<;>simp⟩
theorem zjQ{T F D:List EV}{left:Lit->Bool}{x:EV}(c:zaO kV F)(h:znP T F D left)(b:x∈F):znP T F (zbZ kV D x) (fun z=>left z&&!z.sameKey (.string x.1.k)):=by
 refine⟨zcx h.1,fun k=>?_⟩;rw [zfG,h.2 k];by_cases a:kV x=k
 ·subst a;rw [if_pos rfl,ziA c b];simp [Lit.sameKey]
 ·rw [if_neg a];have:(Lit.string k).sameKey (.string x.1.k)=false:=by
   show(k==x.1.k)=false
   simpa using fun e:k=x.1.k=>a e.symm
  simp only [this,Bool.not_false,Bool.and_true]
theorem zmP{T F D:List EV}{left:Lit->Bool}(b:zaO kV T)(a:zaO kV F)(h:znP T F D left)(hl:∀ k,left k=false):D=zbm kV T F:=by
 refine ziB h.1 (zen b) fun k=>?_;rw [h.2 k,zfb a,hl];cases zbF kV F k<;>simp
theorem zhM{w w':World}{b:Nat}{T:List EV}{row:Option Nat}(h:zdg w b T)(a:w.grownBy w' row)(c:some b≠row):zdg w' b T:=h.keep (a.block b h.lt c)
theorem zpL(T:List EV)(b:Nat)(w:World)(c:zdg w b T) :
 Calls Tryz.prog 88 #[.map (some b),.map none] w fun e w'=>e=.returned (.tuple #[])/\zdg w' b T/\Below w.heap.size w w':=by
 have d:=run_range_nilMap (P:=Tryz.prog) w 106 9 46 Tryz.underlying106;have a:=zhd c;clear c;go_enter Tryz.func88,Tryz.ntmps88
 have g:=fun ty=>run_next_nilMap (P:=Tryz.prog) w ty 0 0 #[];go_wp2_with fail
 refine wp_loop_rounds 1 ?_;rw [rounds_succ];go_wp2;go_end0
 exact⟨rfl,a.out.keep (((Below.refl _ w).alloc (Nat.le_refl _) _).block b a.out.lt),(Below.refl _ w).alloc (Nat.le_refl _) _⟩
theorem znQ(T F:List EV)(b f:Nat)(ah:b≠f)(V:zaO kV T)(J:zaO kV F)(K:T.length+F.length<=100000000)(g:∀ x∈F,x.1.k.length<=maxLen)(w:World)(c:zdg w b T)(j:zdg w f F) :
 Calls Tryz.prog 88 #[.map (some b),.map (some f)] w fun e w'=>e=.returned (.tuple #[])/\zdg w' b (zbm kV T F)/\Touch (fun k=>k=b) w w':=by
 obtain⟨w1,al,a,p,X⟩:=zjP j;have ae:=zhd a;have aj:=zhd p;have Y:=zhd (c.keep (p.block b c.lt));have O:=zhd V;have h:=zhd J;have HN:=zhd K;have HK:=zhd g;have ak:=zhd c.lt;have am:=zhd j.lt;have an:=zhd X;clear c j V J K g a p X;go_enter Tryz.func88,Tryz.ntmps88
 go_wp2_with fail
 go_loopw [4] (fun _ wr=>∃ (left:Lit->Bool) (cnt:Nat) (D:List EV),Hid (zkR wr f w.heap.size F.length F left cnt)/\Hid (zdg wr b D)/\Hid (znP T F D left)/\Hid (D.length+cnt<=T.length+F.length)/\Hid (Touch (fun k=>k=b) w wr)) (fun _ wr=>wr.rangeLeft f w.heap.size)
 case atStart=>exact⟨_,_,T,ae,Y,zhd (zhL O.out),zhd (Nat.le_refl _),zhd (Touch.ofBelow aj.out)⟩
 case round=>
  obtain⟨left,cnt,D,C,M,I,R,U⟩:=hrel;rcases zmO h.out C.out 0 with⟨h0,hl,t⟩|⟨x,m,N,q,ai,t,a,L,r,af,A⟩
  ·have Q:Hid (zdg wr b (zbm kV T F)/\Touch (fun k=>k=b) w wr):=zhd ⟨by rw [<-zmP O.out h.out I.out hl];exact M.out,U.out⟩;clear h0 hl;go_wp2;go_end0
   exact⟨rfl,Q.out.1,Q.out.2⟩
  ·have B:b≠w.heap.size:=by have:=ak.out;omega
   have E:=zhM M.out r (by intro e;injection e with e;exact B e);have d:m.grownBy (m.alloc (zhm ⟨x.1.k.toArray⟩ x.1.s x.1.u x.1.o x.1.has x.2.1 x.1.v.length x.2.2)) none:=World.grownBy_alloc m _ none;have W:=zhM E d (by simp);obtain⟨l,G,y,i⟩:=zlu W x (HK.out x q) (by have h1:=R.out;have h2:=HN.out;unfold maxLen;omega);have S:Hid (zkR l f w.heap.size F.length F (fun z=>left z&&!z.sameKey (.string x.1.k)) N):=zhd ((a.keep d (by simp) (by simp)).keep i.grown (by intro e;injection e with e;exact ah e.symm) (by intro e;injection e with e;exact B e.symm));have ag:=zhd y;have Z:=zhd (zjQ h.out I.out q);have ab:Hid ((zbZ kV D x).length+N<=T.length+F.length):=zhd (by have h1:=R.out;have h2:=ziC (key:=kV) x D;omega);have aa:Hid (Touch (fun k=>k=b) w l):=zhd ((((U.out.grown r fun k e=>by injection e with e;exact Or.inr (by omega)).grown d fun k e=>by cases e)).trans (zdb i) fun k g=>Or.inl g);have HM:Hid (l.rangeLeft f w.heap.size<wr.rangeLeft f w.heap.size):=zhd (by rw [World.ranges.left_eq S.out,World.ranges.left_eq C.out];exact L);clear E d W y i a L r af ai q;unfold evV at t A G;unfold zaT at t A G;go_wp2;go_roundw
   case rel=>exact⟨_,_,_,S,ag,Z,ab,aa⟩
   case measure=>exact HM.out
theorem zjR(T F:List EV)(b:Nat)(c:Option Nat)(hne:∀ f,c=some f->b≠f)(h:zaO kV T)(i:zaO kV F)(j:T.length+F.length<=100000000)(g:∀ x∈F,x.1.k.length<=maxLen)(w:World)(d:zdg w b T)(a:zjo w c F) :
 Calls Tryz.prog 88 #[.map (some b),.map c] w fun e w'=>e=.returned (.tuple #[])/\zdg w' b (zbm kV T F)/\Touch (fun k=>k=b) w w':=by
 rcases a with⟨rfl,rfl⟩|⟨f,rfl,a⟩
 ·exact(zpL T b w d).mono fun e w' ⟨h1,h2,h3⟩=>⟨h1,h2,Touch.ofBelow h3⟩
 ·exact znQ T F b f (hne f rfl) h i j g w d a
end
end Go.Proofs.YtahnjkkgojfdmaaGreatDoor
