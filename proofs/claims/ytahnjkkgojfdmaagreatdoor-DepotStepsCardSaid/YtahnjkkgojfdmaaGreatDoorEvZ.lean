import Derived.Test.YtahnjkkgojfdmaaGreatDoorTg
import Derived.Test.YtahnjkkgojfdmaaGreatDoorDk
import Derived.Laws.MakeOwn
set_option maxRecDepth 10000
set_option maxHeartbeats 2000000
set_option linter.unusedVariables false
namespace Go.Proofs.YtahnjkkgojfdmaaGreatDoor
open Go.Value(int slice)
section
open Go.RowKit Mem Be
section
variable {P : Program}
theorem zmw{w:World}(base:Nat)(t e ty:TypeId)(i:TypeInfo)(z:Value)(s bytes:Nat)(ht:P.underlying t=some (.slice e))(k:P.info? e=some i)(D:i.zero=some z)(L:i.size=s)(K:i.bytes=bytes)(R:z.cells.size=s)(q:0<s)
 (v:Value) (n:Nat) (l:List Value) (o:w.ownsRow base e s v n l) (B:Nat) (A:Option Addr) (m c:Nat) (d:List Value) (hl:d.length=m*s) (I:Row w B A d) (M:∀ u∈d,u.oneCell'=true)
 (F:n+m<=maxLen) (Q:(n+m)*bytes<=140737488355328) (C:base<=w.heap.size) :
 ∃ h w',(Builtin.append_ #[t,t] ty #[v,slice A m c]).run P w=.ok h w'/\w'.ownsRow base e s h (n+m) (l++d)/\w.grownBy w' v.ownBlock/\(h.ownBlock=v.ownBlock\/h.ownBlock=some w.heap.size):=by
 rcases Nat.eq_zero_or_pos m with p|p
 ·subst p;obtain rfl:d=[]:=List.eq_nil_of_length_eq_zero (by simpa using hl);refine⟨v,w,?_,by simpa using o,⟨rfl,rfl,rfl,Nat.le_refl _,fun _ _ _=>rfl⟩,Or.inl rfl⟩;rcases o.2 with⟨rfl,rfl⟩|⟨g,cap,T,rfl,_,_,x,_⟩<;>rcases A with _|a
  ·simp [Builtin.append_,run_underlying ht,sizeOf,typeInfo,k,Builtin.lenOf,Builtin.firstCells]
  ·simp [Builtin.append_,run_underlying ht,sizeOf,typeInfo,k,Builtin.lenOf,Builtin.firstCells,loadCells,loadCellsFrom]
  ·simp [Builtin.append_,run_underlying ht,sizeOf,typeInfo,k,Builtin.lenOf,Builtin.firstCells,x,storeCells]
  ·simp [Builtin.append_,run_underlying ht,sizeOf,typeInfo,k,Builtin.lenOf,Builtin.firstCells,x,storeCells,loadCells,loadCellsFrom]
 ·obtain⟨b,r,rfl,_,hc⟩:=I.open_ (by rw [hl];exact Nat.mul_pos p q);have J:∀ j u,d[j]?=some u->w.cell? ((⟨b,r,none⟩:Addr).add j)=some u:=by
   intro j u E;obtain⟨y,e⟩:=List.getElem?_eq_some_iff.1 E;have:=hc j y;rw [<-e,<-this];unfold Addr.add;split
   ·subst_vars;rfl
   ·rfl
  obtain⟨h,w',S,G,N,_,O⟩:=run_append_own_at (P:=P) w base t ty e i _ s bytes ht k D L K R q v n l o ⟨b,r,none⟩ m c d (by rw [hl]) J M F Q C;exact⟨h,w',S,G,N,O⟩
theorem ze3{j:Array Oper}{o:Oper}{a:Act}{K:Act->World->Prop}{Q:Exit->Act->World->Prop}{E:Prop}{w:World}(M:o.guard=none)(k x:Operand)(t:TypeId)
 (N:o.op=.call {callee:=.builtin .append,args:=#[k,x],argTypes:=#[t,t]})
 (base:Nat) (e:TypeId) (i:TypeInfo) (z:Value) (s bytes:Nat) (ht:P.underlying t=some (.slice e)) (W:P.info? e=some i) (p:i.zero=some z) (J:i.size=s) (I:i.bytes=bytes) (U:z.cells.size=s) (q:0<s)
 (v:Value) (n:Nat) (g:List Value) (G:a.eval k=v) (C:w.ownsRow base e s v n g) (B:Nat) (A:Option Addr) (m c:Nat) (d:List Value) (S:a.eval x=slice A m c) (hl:d.length=m*s) (D:Row w B A d) (O:∀ u∈d,u.oneCell'=true)
 (r:n+m<=maxLen) (T:(n+m)*bytes<=140737488355328) (l:base<=w.heap.size)
 (h:∀ b w',w'.ownsRow base e s b (n+m) (g++d)->w.grownBy w' v.ownBlock->(b.ownBlock=v.ownBlock\/b.ownBlock=some w.heap.size)->K (a.put o.dst b) w') :
 if Region.wanted o (yielded j a.tmps)=true then Oper.wp P o a w K Q else E:=by
 have F:Region.wanted o (yielded j a.tmps)=true:=by simp [Region.wanted,M]
 rw [if_pos F];obtain⟨b,w',V,y,R,L⟩:=zmw (P:=P) base t e o.type i z s bytes ht W p J I U q v n g C B A m c d hl D O r T l;unfold Oper.wp execOp;simp only [N,resolve,invoke,builtin,Sem.run_bind,Sem.run_pure,Result.andThen_ok,List.map_toArray,List.map_cons,List.map_nil,G,S,V];exact h b w' y R L
theorem zaN{j:Array Oper}{rest:List Oper}{o:Oper}{a:Act}{Q:Exit->Act->World->Prop}{w:World}(J:o.guard=none)(k x:Operand)(t:TypeId)
 (M:o.op=.call {callee:=.builtin .append,args:=#[k,x],argTypes:=#[t,t]})
 (base:Nat) (e:TypeId) (i:TypeInfo) (z:Value) (s bytes:Nat) (ht:P.underlying t=some (.slice e)) (V:P.info? e=some i) (p:i.zero=some z) (G:i.size=s) (F:i.bytes=bytes) (T:z.cells.size=s) (q:0<s)
 (v:Value) (n:Nat) (g:List Value) (E:a.eval k=v) (C:w.ownsRow base e s v n g) (B:Nat) (A:Option Addr) (m c:Nat) (d:List Value) (R:a.eval x=slice A m c) (hl:d.length=m*s) (D:Row w B A d) (N:∀ u∈d,u.oneCell'=true)
 (r:n+m<=maxLen) (S:(n+m)*bytes<=140737488355328) (l:base<=w.heap.size)
 (h:∀ b w',w'.ownsRow base e s b (n+m) (g++d)->w.grownBy w' v.ownBlock->(b.ownBlock=v.ownBlock\/b.ownBlock=some w.heap.size)->wpList P j Q rest (a.put o.dst b) w') :
 wpList P j Q (o :: rest) a w:=by
 refine wpList_plain J fun K L=>?_;obtain⟨b,w',U,y,O,I⟩:=zmw (P:=P) base t e o.type i z s bytes ht V p G F T q v n g C B A m c d hl D N r S l;unfold Oper.wp execOp;simp only [M,resolve,invoke,builtin,Sem.run_bind,Sem.run_pure,Result.andThen_ok,List.map_toArray,List.map_cons,List.map_nil,E,R,U];exact L _ _ (h b w' y O I)
end
end
section
open Go.RowKit Mem Be
abbrev EV:=EntP×Option Addr×Nat
def evV(x:EV):Value:=zaT ⟨x.1.k.toArray⟩ x.1.s x.1.u x.1.o x.1.has x.2.1 x.1.v.length x.2.2
def zoM(k:List UInt8):EntP:=⟨k,0,0,0,false,[]⟩
def evN(k:List UInt8):EV:=(zoM k,none,0)

def zbf(x:EV):List Value:=[.string ⟨x.1.k.toArray⟩,int .i64 x.1.s,int .i64 x.1.u,int .i64 x.1.o,.bool x.1.has,slice x.2.1 x.1.v.length x.2.2]
abbrev zaG(l:List EV):List Value:=l.flatMap zbf
theorem ent_cells{w:World}{g:Nat}{t:TypeId}{x:EV}(h:Blk w g t ⟨zbf x⟩):w.cell? ⟨g,0,none⟩=some (.string ⟨x.1.k.toArray⟩)/\w.cell? ⟨g,1,none⟩=some (int .i64 x.1.s)/\w.cell? ⟨g,2,none⟩=some (int .i64 x.1.u)/\w.cell? ⟨g,3,none⟩=some (int .i64 x.1.o)/\w.cell? ⟨g,4,none⟩=some (.bool x.1.has)/\w.cell? ⟨g,5,none⟩=some (slice x.2.1 x.1.v.length x.2.2):=
 ⟨h.cell 0,h.cell 1,h.cell 2,h.cell 3,h.cell 4,h.cell 5⟩
theorem zcA(l:List EV):(zaG l).length=l.length*6:=by
 induction l with
 | nil=>rfl
 | cons p l ih=>simp only [zaG,List.flatMap_cons,List.length_append,zbf,List.length_cons,List.length_nil];have:=ih;unfold zaG at this;omega
theorem zdr(a b:List EV):zaG (a++b)=zaG a++zaG b:=List.flatMap_append
theorem zcB(l:List EV):∀ u∈zaG l,u.oneCell'=true:=by
 intro u b;obtain⟨x,_,a⟩:=List.mem_flatMap.1 b;simp only [zbf,List.mem_cons,List.not_mem_nil,or_false] at a;rcases a with rfl|rfl|rfl|rfl|rfl|rfl<;>rfl
theorem zmL(l:List EV)(i:Nat)(h:i<l.length)(j:Nat)(a:j<6):(zaG l)[i*6+j]?=(zbf l[i])[j]?:=by
 induction l generalizing i with
 | nil=>simp at h
 | cons p l ih=>
  have hc:zaG (p :: l)=zbf p++zaG l:=rfl;rw [hc];have hl:(zbf p).length=6:=rfl;rcases i with _|i
  ·rw [List.getElem?_append_left (by omega),Nat.zero_mul,Nat.zero_add];rfl
  ·rw [List.getElem?_append_right (by omega),hl,show(i+1)*6+j - 6=i*6+j by omega,ih i (by simpa using h)];rfl
theorem zbc{w:World}{B:Nat}{A:Option Addr}{l:List EV}(h:Row w B A (zaG l))(p:0<l.length) :
 ∃ b o,A=some ⟨b,o,none⟩/\b<B/\∀ i (c:i<l.length),w.cell? ⟨b,o+i*6,none⟩=some (.string ⟨l[i].1.k.toArray⟩)/\w.cell? ⟨b,o+i*6+1,none⟩=some (int .i64 l[i].1.s)/\w.cell? ⟨b,o+i*6+2,none⟩=some (int .i64 l[i].1.u)/\
  w.cell? ⟨b,o+i*6+3,none⟩=some (int .i64 l[i].1.o)/\w.cell? ⟨b,o+i*6+4,none⟩=some (.bool l[i].1.has)/\w.cell? ⟨b,o+i*6+5,none⟩=some (slice l[i].2.1 l[i].1.v.length l[i].2.2):=by
 obtain⟨b,o,g,m,hc⟩:=h.open_ (by rw [zcA];omega);refine⟨b,o,g,m,fun i c=>?_⟩;have key:∀ j,j<6->w.cell? ⟨b,o+i*6+j,none⟩=(zbf l[i])[j]?:=fun j d=>by
  have a:i*6+j<(zaG l).length:=by rw [zcA];omega
  rw [show o+i*6+j=o+(i*6+j) by omega,hc (i*6+j) a,<-zmL l i c j d,List.getElem?_eq_getElem a]
 exact⟨key 0 (by omega),key 1 (by omega),key 2 (by omega),key 3 (by omega),key 4 (by omega),key 5 (by omega)⟩
def zix(w:World)(B:Nat)(x:EV):Prop:=w.ownsRow B 5 1 (slice x.2.1 x.1.v.length x.2.2) x.1.v.length (x.1.v.map zaa)
def zcM(w:World)(B:Nat)(l:List EV):Prop:=∀ x∈l,zix w B x
theorem zd0(w:World)(B:Nat):zcM w B []:=fun x h=>by cases h
theorem zeK{w w':World}{B:Nat}{l:List EV}(h:zcM w B l)(a:Below w.heap.size w w'):zcM w' B l:=fun x b=>zag (h x b) a
theorem zpw{w:World}{B:Nat}{a b:List EV}(h:zcM w B a)(d:zcM w B b):zcM w B (a++b):=fun x c=>by
 rcases List.mem_append.1 c with c|c
 ·exact h x c
 ·exact d x c
theorem zpx{w:World}{B:Nat}{x:EV}(h:zix w B x):zcM w B [x]:=fun y a=>by
 have:y=x:=by simpa using a
 subst this;exact h
theorem zjM{w w':World}{B B' s n m c j c':Nat}{e l:TypeId}{A d:Option Addr}{i r:List Value}{k:Nat}(h:w.ownsRow B e 1 (slice A m c) k i)(p:w.ownsRow B' l s (slice d j c') n r)(hne:e≠l)(q:w.grownBy w' (Value.slice d j c').ownBlock):w'.ownsRow B e 1 (slice A m c) k i:=by
 refine zaj h fun a g=>q.block _ (zaJ h g).2.1 fun o=>?_;cases d with
 | none=>cases o
 | some a'=>
  have e2:a.block=a'.block:=by simpa [Value.ownBlock] using o
  obtain⟨_,_,v,b⟩:=zaJ h g;obtain⟨_,_,u,t⟩:=zaJ p rfl;rw [e2,t] at b;injection b with b;injection b with _ b;exact hne b.symm
theorem zlp{w w':World}{B B' s n m c:Nat}{a:TypeId}{A:Option Addr}{l:List EV}{g:List Value}(h:zcM w B l)(b:w.ownsRow B' a s (slice A m c) n g)(hne:5≠a)(d:w.grownBy w' (Value.slice A m c).ownBlock):zcM w' B l:=
 fun x i=>zjM (h x i) b hne d
theorem znO{w:World}{B B':Nat}{l:List EV}(h:zcM w B l)(a:B'<=B):zcM w B' l:=fun x b=>zaz (h x b) a
theorem ze8{w:World}{B:Nat}{x:EV}(h:zix w B x)(hl:x.1.v.length<=1073741824):ValOk w x.1.has x.2.1 x.1.v x.2.2:=⟨Row.of_own h,by omega,(zbR h).1⟩
theorem ziy:(Tryz.prog.info? 46).map (fun i=>(i.zero,i.size,i.bytes))=some (some (evV (evN [])),6,72):=by kernel_rfl
theorem zgF{w:World}{x:EV}{g:Nat}(h:Blk w g 46 ⟨zbf x⟩){B:Nat}(b:g<B):Row w B (some ⟨g,0,none⟩) (zaG [x]):=by
 refine Or.inr ⟨g,0,rfl,b,fun j a=>?_⟩;have e:zaG [x]=zbf x:=by simp [zaG]
 have d:=h.cell (0+j);rw [d];have c:j<(zbf x).length:=by rw [<-e];exact a
 rw [Nat.zero_add];rw [List.getElem_of_eq e a];show(⟨zbf x⟩:Array Value)[j]?=_
 rw [List.getElem?_toArray,List.getElem?_eq_getElem c]
def zpy(l:List EntP)(w:World)(e:Ending)(w':World):Prop:=
 ∃ (us:List EV) (A:Option Addr) (c:Nat),us.map Prod.fst=l/\e=.returned (slice A us.length c)/\w'.ownsRow w.heap.size 46 6 (slice A us.length c) us.length (zaG us)/\zcM w' w.heap.size us/\Below w.heap.size w w'
structure EnV (w:World) (A:Option Addr) (us:List EV):Prop where
 row:Row w w.heap.size A (zaG us)
 val:∀ x∈us,ValOk w x.1.has x.2.1 x.1.v x.2.2
theorem EnV.below{w w':World}{A:Option Addr}{us:List EV}(h:EnV w A us)(hb:Below w.heap.size w w'):EnV w' A us:=⟨(h.row.below hb).more hb.size,fun x hx=>(h.val x hx).below hb⟩
theorem zvI{w:World}{B B' n c:Nat}{A:Option Addr}{a:List EV}(d:w.ownsRow B 46 6 (slice A n c) n (zaG a))(g:zcM w B' a)(hl:∀ x∈a,x.1.v.length<=60000):EnV w A a:=
 ⟨zcz d,fun x b=>ze8 (g x b) (by have:=hl x b;omega)⟩
end
end Go.Proofs.YtahnjkkgojfdmaaGreatDoor
