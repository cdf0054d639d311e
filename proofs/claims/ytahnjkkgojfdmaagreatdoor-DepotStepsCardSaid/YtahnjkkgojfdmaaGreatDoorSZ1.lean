import Derived.Test.YtahnjkkgojfdmaaGreatDoorStoK
import Derived.Test.YtahnjkkgojfdmaaGreatDoorStoF
import Derived.SizedLaws
import Derived.Deep.Slices
import Derived.Deep.Fields
import Derived.Test.YtahnjkkgojfdmaaGreatDoorSzD
set_option maxRecDepth 100000
set_option maxHeartbeats 4000000
set_option linter.unusedVariables false
namespace Go.Proofs.YtahnjkkgojfdmaaGreatDoor
open Go.Obj(cells)
open Go.IntKind(i64)
open Go.Value(int slice bool pointer)
section
open Go.RowKit Go.ChangeShapes Go.WideShapes Mem
structure D8 where
 kind:Int
 e:EV
 who:Int
 kept:Int
instance d8inh:Inhabited D8:=⟨⟨0,evN [],0,0⟩⟩
def d8C(r:D8):List Value:=[int i64 r.kind,.string ⟨r.e.1.k.toArray⟩,int i64 r.e.1.s,int i64 r.e.1.u,int i64 r.e.1.o,bool r.e.1.has,slice r.e.2.1 r.e.1.v.length r.e.2.2,int i64 r.who,int i64 r.kept]
abbrev d8sC(rs:List D8):List Value:=rs.flatMap d8C
structure D8Ok (w:World) (B:Nat) (r:D8):Prop where
 row:Row w B r.e.2.1 (r.e.1.v.map zaa)
 cap:r.e.1.v.length<=r.e.2.2
 capm:r.e.2.2<=maxLen
 key:r.e.1.k.length<=maxLen
 k0:-9223372036854775808<=r.kind
 k1:r.kind<=9223372036854775807
 p0:-9223372036854775808<=r.kept
 p1:r.kept<=9223372036854775807
def zw4(w:World)(A:Option Addr)(rs:List D8):Prop:=∀ W,Below w.heap.size w W->Row W w.heap.size A (d8sC rs)/\∀ r∈rs,D8Ok W w.heap.size r
theorem D8Ok.below{w w':World}{B:Nat}{r:D8}(h:D8Ok w B r)(hb:Below B w w'):D8Ok w' B r:=⟨h.row.below hb,h.cap,h.capm,h.key,h.k0,h.k1,h.p0,h.p1⟩
section
variable {H : Type} {enc : TypeId × Value → H} {w : World} {base : Nat} {held : Bool}
end
end
section
open Go.RowKit Go.ChangeShapes Mem Be
end
section
open Go.RowKit Go.ChangeShapes Mem Be Word Frm
def zw5(F:Nat->Prop)(R:St8×List AckP×Int)(q:Nat)(w:World)(e:Ending)(w':World):Prop:=
 ∃ g F' q' A c,e=.returned (.tuple #[pointer (some ⟨g,0,none⟩),slice A R.2.1.length c,int i64 R.2.2])/\(∀ k,F' k->F k\/w.heap.size<=k)/\zci zoP w' F' g R.1 q'/\q'<=q+1/\Touch F w w'/\
  w'.ownsRow 0 130 5 (slice A R.2.1.length c) R.2.1.length (zaE R.2.1)/\(∀ a,A=some a->¬ F' a.block)
end
section
open Go.RowKit Go.ChangeShapes Mem Be
end
section
open Go.RowKit Go.ChangeShapes Mem Be Word Frm
def zuO(w:World)(F:Nat->Prop):Prop:=∀ k,F k->w.heap.size<=k
theorem zof{w w1:World}{F F':Nat->Prop}(h:zuO w F)(d:w.heap.size<=w1.heap.size)(b:∀ k,F' k->F k\/w1.heap.size<=k):zuO w F':=fun k c=>by
 rcases b k c with a|a
 ·exact h k a
 ·omega
def zwF(v:Bool)(w:World)(e:Ending)(w':World):Prop:=e=.returned (bool v)/\Below w.heap.size w w'
structure St1 (w0 w:World) (F:Nat->Prop) (g:Nat) (S:St8) (q:Nat):Prop where
 new:zuO w0 F
 at_:zci zoP w F g S q
 bel:Below w0.heap.size w0 w
theorem St1.below{w0 w w1:World}{F:Nat->Prop}{g q:Nat}{S:St8}(h:St1 w0 w F g S q)(hb:Below w.heap.size w w1):St1 w0 w1 F g S q:=⟨h.new,h.at_.below hb,h.bel.trans (hb.mono h.bel.size)⟩
theorem St1.to{w0 w w1:World}{F F':Nat->Prop}{g g' q q':Nat}{S S':St8}(h:St1 w0 w F g S q)(hf:∀ k,F' k->F k\/w.heap.size<=k)(hl:zci zoP w1 F' g' S' q')(ht:Touch F w w1):St1 w0 w1 F' g' S' q':=
 ⟨zof h.new h.bel.size hf,hl,h.bel.trans (ht.below h.bel.size h.new)⟩
def e3:EntP:=⟨[107],3,0,0,false,[]⟩
def e2:EntP:=⟨[107],2,0,0,false,[]⟩
theorem zxb:okE e2:=by unfold okE;decide
theorem zi0{F:Nat->Prop}{w w':World}{b:Nat}{t:TypeId}{a:Array Value}(h:Blk w b t a)(ht:Touch F w w')(c:¬ F b):Blk w' b t a:=(ht.block b h.lt c).trans h
end
section
open Go.RowKit Go.ChangeShapes Mem Be Word Frm Go.Maps
theorem St1.done{w0 w w1:World}{F:Nat->Prop}{g q:Nat}{S:St8}{R:St8×List AckP×Int}{e:Ending}(h:St1 w0 w F g S q)(hd:zw5 F R q w e w1) :
 ∃ g' F' q' A c,e=.returned (.tuple #[pointer (some ⟨g',0,none⟩),slice A R.2.1.length c,int i64 R.2.2])/\q'<=q+1/\St1 w0 w1 F' g' R.1 q'/\w1.ownsRow 0 130 5 (slice A R.2.1.length c) R.2.1.length (zaE R.2.1)/\(∀ a,A=some a->¬ F' a.block):=by
 obtain⟨g',F',q',A,c,h1,h2,h3,h4,h5,h6,h7⟩:=hd;exact⟨g',F',q',A,c,h1,h4,h.to h2 h3 h5,h6,h7⟩
theorem St1.touch{w0 w w1:World}{F G:Nat->Prop}{g q:Nat}{S:St8}(h:St1 w0 w F g S q)(ht:Touch G w w1)(hd:∀ k,F k->¬ G k)(hG:∀ k,G k->w0.heap.size<=k):St1 w0 w1 F g S q:=⟨h.new,h.at_.touch ht hd,h.bel.trans (ht.below h.bel.size hG)⟩
theorem zuP(a b:EntP):0<=zeu a b↔(b.s<a.s\/(a.s=b.s/\(b.u<a.u\/(a.u=b.u/\b.o<=a.o)))):=by
 unfold zeu zdC;rcases zbb a.s b.s with⟨g,h⟩|⟨g,h⟩|⟨g,h⟩<;>rcases zbb a.u b.u with⟨j,c⟩|⟨j,c⟩|⟨j,c⟩<;>rcases zbb a.o b.o with⟨i,d⟩|⟨i,d⟩|⟨i,d⟩<;>rw [h,c,d]<;>simp<;>omega
theorem zqA(a b:EntP):zeu a b<=0↔(a.s<b.s\/(a.s=b.s/\(a.u<b.u\/(a.u=b.u/\a.o<=b.o)))):=by
 unfold zeu zdC;rcases zbb a.s b.s with⟨g,h⟩|⟨g,h⟩|⟨g,h⟩<;>rcases zbb a.u b.u with⟨j,c⟩|⟨j,c⟩|⟨j,c⟩<;>rcases zbb a.o b.o with⟨i,d⟩|⟨i,d⟩|⟨i,d⟩<;>rw [h,c,d]<;>simp<;>omega
def GeE(a b:EntP):Prop:=b.s<a.s\/(a.s=b.s/\(b.u<a.u\/(a.u=b.u/\b.o<=a.o)))
theorem GeE.refl(a:EntP):GeE a a:=Or.inr ⟨rfl,Or.inr ⟨rfl,by omega⟩⟩
theorem GeE.trans{a b c:EntP}(h:GeE a b)(h':GeE b c):GeE a c:=by unfold GeE at *;omega
theorem GeE.le{a b:EntP}(h:GeE a b):zeu b a<=0:=(zqA b a).2 (by unfold GeE at h;omega)
theorem zv8{a b:EntP}(h:0<zeu a b):GeE a b:=(zuP a b).1 (by omega)
theorem zqB(T:List EntP)(e:EntP)(k:List UInt8):ofT (zbZ kE T e) k=if e.k=k then e else ofT T k:=by
 unfold ofT;rw [zfG];split<;>rfl
theorem zlL{T:List EntP}(h:OkT T)(k:List UInt8):(ofT T k).v.length<=60000:=by
 unfold ofT;cases hg:zbF kE T k with
 | none=>exact Nat.zero_le _
 | some x=>have:=(zah (h.2 x (zb7 hg).1)).2.2.1;show x.v.length<=_;omega
theorem zqC{x:EntP}{k:List UInt8}{w w':World}{e:Ending}(d:x.k=k)(hl:x.v.length<=60000)(h:zv4 x w e w') :
 ∃ A c,e=.returned (.agg #[.string ⟨k.toArray⟩,int i64 x.s,int i64 x.u,int i64 x.o,bool x.has,slice A x.v.length c])/\ValOk w' x.has A x.v c/\zix w' w.heap.size (x,A,c)/\Below w.heap.size w w':=by
 obtain⟨A,c,g,a,b⟩:=h;subst d;exact⟨A,c,g,ze8 a (by simp only;omega),a,b⟩
theorem zog(k:ByteArray)(s u o:Int)(h:Bool)(a:List UInt8):zdU k k s u o s u o h h a a=true:=by
 unfold zdU eqT zdf;simp
theorem zfY(k:ByteArray)(s u o:Int)(h:Bool)(A d:Option Addr)(a:List UInt8)(c c' n b:Nat)(j:n=a.length)(l:b=a.length)(w:World)(g:ValOk w h A a c)(i:ValOk w h d a c') :
 Calls Tryz.prog 16 #[.agg #[.string k,int i64 s,int i64 u,int i64 o,bool h,slice A n c],.agg #[.string k,int i64 s,int i64 u,int i64 o,bool h,slice d b c']] w (IsB true w):=by
 have:=zla k k s u o s u o h h A d a a c c' n b j l w g i;rw [zog] at this;exact this
end
section
open Go.RowKit Go.ChangeShapes Mem Be Word Frm Go.Maps
theorem zkm(n c m c':Nat)(A F:Option Addr)(a d:List EV)(I:n=a.length)(N:m=d.length)(E:a.map Prod.fst=d.map Prod.fst)(hl:n<=1073741824)(w:World)(h:EnV w A a)(J:EnV w F d) :
 Calls Tryz.prog 25 #[slice A n c,slice F m c'] w (zwF true w):=by
 have Y:d.length=a.length:=by have:=congrArg List.length E;simpa using this.symm
 have X:m=n:=by omega
 subst X;have U:=zhd I;have S:=zhd N;have R:=zhd E;have G:=zhd h;have O:=zhd J;have aa:(m:Int)<=1073741824:=by omega
 have af:(0:Int)<=(m:Int):=by omega
 clear I N E h J hl Y;go_enter Tryz.func25,Tryz.ntmps25
 go_wp2;go_loopw [5] (fun i wr=>∃ k:Nat,k<=m/\i=int i64 k/\Hid (Below w.heap.size w wr)) (fun i _=>m - (intOf i).toNat)
 case atStart=>exact⟨0,by omega,rfl,zhd (Below.refl _ _)⟩
 case round=>
  obtain⟨k,hk,rfl,g⟩:=hrel;by_cases Q:k<m
  ·have t:k<a.length:=by rw [<-U.out];exact Q
   have D:k<d.length:=by rw [<-S.out];exact Q
   obtain⟨b,o,rfl,hb,hc⟩:=zbc (G.out.below g.out).row (by omega);obtain⟨Z,o',rfl,ag,L⟩:=zbc (O.out.below g.out).row (by omega);obtain⟨a0,q,z,a3,a4,a5⟩:=hc k t;obtain⟨C,B,l,j,b4,b5⟩:=L k D;have v1:=(G.out.below g.out).val a[k] (List.getElem_mem t);have v2:=(O.out.below g.out).val d[k] (List.getElem_mem D);have r:(a[k]).1=(d[k]).1:=by
    have:=List.getElem_of_eq R.out (i:=k) (by simpa using t);simpa using this
   obtain⟨⟨x,T,c1⟩,M⟩:∃ p,a[k]'t=p:=⟨_,rfl⟩;obtain⟨⟨y,V,c2⟩,K⟩:∃ p,d[k]'D=p:=⟨_,rfl⟩;rw [M] at a0 q z a3 a4 a5 v1 r;rw [K] at C B l j b4 b5 v2 r;simp only at a0 q z a3 a4 a5 C B l j b4 b5 v1 v2 r;subst r;have W:=zhd (fun p:Later wr=>zfY ⟨x.k.toArray⟩ x.s x.u x.o x.has T V x.v c1 c2 x.v.length x.v.length rfl rfl p.world (v1.below p.bel) (v2.below p.bel));have l0:=zab a0;have l1:=zab q;have l2:=zab z;have l3:=zab a3;have l4:=zab a4;have l5:=zab a5;have m0:=zab C;have m1:=zab B;have m2:=zab l;have m3:=zab j;have m4:=zab b4;have m5:=zab b5;have ab:(0:Int)<=(k:Int):=by omega
   have ae:(k:Int)<(m:Int):=by omega
   clear hc L a0 q z a3 a4 a5 C B l j b4 b5 M K v1 v2;go_wp2_with fail
   refine zas (by kernel_rfl) (by kernel_rfl) ?_
   repeat (go_big_quiet_step (first
    | (go_at_call 16;exact za7 (W.out _))))
   refine wpQuiet_nil ?_;intro w' hw';obtain⟨p,rfl⟩:=hw';go_wp2;go_roundw
   case rel=>exact⟨k+1,by omega,by go_num,zhd (g.out.trans (p.bel.mono g.out.size))⟩
   case measure=>simp [intOf];omega
  ·obtain rfl:k=m:=by omega
   go_wp2;go_ret;exact⟨rfl,g.out⟩
end
section
open Go.RowKit Go.ChangeShapes Mem Be Word Frm Go.Maps
theorem zw4.move{w w1:World}{A:Option Addr}{rs:List D8}(h:zw4 w A rs)(hb:Below w.heap.size w w1):zw4 w1 A rs:=fun W hb2=>by
 obtain⟨h1,h2⟩:=h W (hb.trans (hb2.mono hb.size));exact⟨h1.more hb.size,fun r hr=>by have:=h2 r hr;exact⟨this.row.more hb.size,this.cap,this.capm,this.key,this.k0,this.k1,this.p0,this.p1⟩⟩
theorem zaK.grow{F F':Nat->Prop}{w w':World}{A:Option Addr}{xs:List Value}(h:zaK F w A xs)(hf:∀ k,F' k->F k\/w.heap.size<=k)(ht:Touch F w w'):zaK F' w' A xs:=by
 have h2:=h.touch ht;rcases h with h|⟨b,o,rfl,hb,hl,hc⟩
 ·exact Or.inl h
 ·rcases h2 with h2|⟨b2,o2,e,hb2,hl2,hc2⟩
  ·exact Or.inl h2
  ·injection e with e;injection e with e1 e2;subst e1;subst e2;refine Or.inr ⟨_,_,rfl,fun hF=>?_,hl2,hc2⟩;rcases hf _ hF with h|h
   ·exact hb h
   ·omega
structure EnN (F:Nat->Prop) (w:World) (A:Option Addr) (us:List EV):Prop where
 row:zaK F w A (zaG us)
 val:∀ x∈us,zaK F w x.2.1 (x.1.v.map zaa)/\x.1.v.length<=60000/\x.1.v.length<=x.2.2
theorem EnN.env{F:Nat->Prop}{w:World}{A:Option Addr}{us:List EV}(h:EnN F w A us):EnV w A us:=
 ⟨h.row.row,fun x hx=>⟨(h.val x hx).1.row,by have:=(h.val x hx).2.1;omega,(h.val x hx).2.2⟩⟩
theorem EnN.to{F F':Nat->Prop}{w w':World}{A:Option Addr}{us:List EV}(h:EnN F w A us)(hf:∀ k,F' k->F k\/w.heap.size<=k)(ht:Touch F w w'):EnN F' w' A us:=
 ⟨h.row.grow hf ht,fun x hx=>⟨(h.val x hx).1.grow hf ht,(h.val x hx).2⟩⟩
theorem EnN.below{F:Nat->Prop}{w w':World}{A:Option Addr}{us:List EV}(h:EnN F w A us)(hb:Below w.heap.size w w'):EnN F w' A us:=h.to (fun k hk=>Or.inl hk) (Touch.ofBelow hb)
theorem zs0{T:List EntP}{a:List EV}(h:OkT T)(b:a.map Prod.fst=T):∀ x∈a,x.1.v.length<=60000:=fun x c=>by
 have:=(zah (h.2 x.1 (by rw [<-b];exact List.mem_map.2 ⟨x,c,rfl⟩))).2.2.1;omega
end
section
open Go.RowKit Mem Be Word Frm Go.Maps
variable {KS KS' : StK}
def srK(pv:Value):StK:=⟨113,[pv],by decide⟩
abbrev PtV:=EV×Int
def zez(r:PtV):List Value:=zbf r.1++[int i64 r.2]
abbrev zdy(l:List PtV):List Value:=l.flatMap zez
def zs5(r:PtV):EntP×Int:=(r.1.1,r.2)
theorem zs6{w:World}{F:Nat->Prop}{y q m:Nat}{rs:List Rc}{x:LgK}(J:LgK)(h:zcD x w F y rs m q) :
 ∃ a b c v,w.cell? ⟨y,0,none⟩=some a/\w.cell? ⟨y,1,none⟩=some b/\w.cell? ⟨y,2,none⟩=some c/\w.cell? ⟨y,3,none⟩=some v/\w.cell? ⟨y,4,none⟩=some (int i64 (m:Int))/\
  zcD J (w.alloc (cells (dkC (lgK J v m) [a,b,c]) J.ty)) (fun k=>F k\/k=w.heap.size) w.heap.size rs m q:=by
 obtain⟨K,t,I,R,C,z,G,E,g⟩:=h;obtain⟨A,D,B,u,i⟩:=g.dk;refine⟨_,_,_,_,i.blk.d0,i.blk.d1,i.blk.d2,zfW g.dk,zm1 g.dk,?_⟩;have l:∀ o,Below w.heap.size w (w.alloc o):=fun o=>(Below.refl _ _).alloc (Nat.le_refl _) o;have s:∀ o,(w.alloc o).heap.size=w.heap.size+1:=fun o=>by simp
 refine⟨fun k=>K k\/k=w.heap.size,t,I,R,C,z,G,E,⟨A,D,B,u,⟨Blk.new _ _ _,zag i.ol (l _),zag i.ot (l _),fun a p=>Or.inl (i.fl a p),fun a p=>Or.inl (i.ft a p),i.ap,Or.inr rfl,fun j d=>?_,i.mx⟩⟩,
  zag g.own (l _),zaV g.byt (l _),g.inR,g.inB,fun j d r=>?_,fun j d=>?_,fun j d=>?_⟩
 ·rw [s];rcases d with d|d
  ·have:=i.lt j d;omega
  ·omega
 ·rcases d with d|d
  ·exact g.dis j d r
  ·have:=g.lt j (g.sub j (Or.inr r));omega
 ·rcases d with(d|d)|d
  ·exact Or.inl (g.sub j (Or.inl d))
  ·exact Or.inr d
  ·exact Or.inl (g.sub j (Or.inr d))
 ·rw [s];rcases d with d|d
  ·have:=g.lt j d;omega
  ·omega
theorem zuT{w:World}{F:Nat->Prop}{y q:Nat}{S:St8}(j:StK)(h:zci KS w F y S q) :
 ∃ (a b c v:Value) (m:Nat) (i g:Option Nat) (r:Value),y<w.heap.size/\w.cell? ⟨y,0,none⟩=some a/\w.cell? ⟨y,1,none⟩=some b/\w.cell? ⟨y,2,none⟩=some c/\w.cell? ⟨y,3,none⟩=some v/\w.cell? ⟨y,4,none⟩=some (int i64 (m:Int))/\
  w.cell? ⟨y,5,none⟩=some (.map i)/\w.cell? ⟨y,6,none⟩=some (.map g)/\w.cell? ⟨y,7,none⟩=some r/\
  zci j (w.alloc (cells (dkC (lgK (stK j i g r) v m) [a,b,c]) j.ty)) (fun k=>F k\/k=w.heap.size) w.heap.size S q:=by
 obtain⟨J,L,FS,i,g,O,M,A,c,G,B,D,h⟩:=h;have c5:=zdc h.lg;have c6:=zgU h.lg;have c7:=zka h.lg;obtain⟨z,K,u,I,t,N,e2,e3,E,x⟩:=zs6 (stK j i g (slice A S.acks.length c)) h.lg;refine⟨z,K,u,I,S.m,i,g,_,zaq c5,t,N,e2,e3,E,c5,c6,c7,J,fun k=>L k\/k=w.heap.size,FS,i,g,O,M,A,c,G,B,D,?_⟩;have p:∀ o,Below w.heap.size w (w.alloc o):=fun o=>(Below.refl _ _).alloc (Nat.le_refl _) o;have C:∀ o,(w.alloc o).heap.size=w.heap.size+1:=fun o=>by simp
 have l:∀ k,FS k->k<w.heap.size:=fun k d=>h.lt k (h.sub k (Or.inr d));refine⟨x,h.tl.keep fun k d=>(p _).block k (l k d),h.tf.keep fun k d=>(p _).block k (l k d),h.ne,zag h.own (p _),h.inA,fun k d s=>?_,fun k d=>?_,fun k d=>?_⟩
 ·rcases d with d|d
  ·exact h.dis k d s
  ·have:=l k s;omega
 ·rcases d with(d|d)|d
  ·exact Or.inl (h.sub k (Or.inl d))
  ·exact Or.inr d
  ·exact Or.inl (h.sub k (Or.inr d))
 ·rw [C];rcases d with d|d
  ·have:=h.lt k d;omega
  ·omega
structure SvB (w:World) (F FS FP:Nat->Prop) (g:Nat) (S:St8) (vs:List PtV) (A:Option Addr) (c q:Nat):Prop where
 st:zci (srK (slice A vs.length c)) w FS g S q
 own:w.ownsRow 0 115 7 (slice A vs.length c) vs.length (zdy vs)
 byt:zcM w 0 (vs.map Prod.fst)
 inA:InF FP A
 inB:∀ r∈vs,InF FP r.1.2.1
 dis:∀ k,FS k->¬ FP k
 sub:∀ k,FS k\/FP k->F k
 lt:∀ k,F k->k<w.heap.size
def SvAt(w:World)(F:Nat->Prop)(g:Nat)(S:St8)(ps:List (EntP×Int))(q:Nat):Prop:=
 ∃ FS FP vs A c,vs.map zs5=ps/\SvB w F FS FP g S vs A c q
section
variable {w w' : World} {F FS FP G : Nat → Prop} {g q c : Nat} {S : St8} {vs : List PtV} {A : Option Addr} {ps : List (EntP × Int)}
theorem SvB.keep(h:SvB w F FS FP g S vs A c q)(hs:w.heap.size<=w'.heap.size)(hk:∀ k,F k->w'.heap[k]?=w.heap[k]?):SvB w' F FS FP g S vs A c q:=
 ⟨h.st.keep hs fun k hf=>hk k (h.sub k (Or.inl hf)),zaj h.own fun a ha=>hk _ (h.sub _ (Or.inr (h.inA a ha))),fun x hx=>by
  obtain⟨r,hr,rfl⟩:=List.mem_map.1 hx;exact zaj (h.byt _ hx) fun a ha=>hk _ (h.sub _ (Or.inr (h.inB r hr a ha))),h.inA,h.inB,h.dis,h.sub,fun k hf=>Nat.lt_of_lt_of_le (h.lt k hf) hs⟩
theorem SvAt.keep(h:SvAt w F g S ps q)(hs:w.heap.size<=w'.heap.size)(hk:∀ k,F k->w'.heap[k]?=w.heap[k]?):SvAt w' F g S ps q:=by
 obtain⟨FS,FP,vs,A,c,h1,h⟩:=h;exact⟨FS,FP,vs,A,c,h1,h.keep hs hk⟩
theorem SvAt.lt(h:SvAt w F g S ps q):∀ k,F k->k<w.heap.size:=by
 obtain⟨FS,FP,vs,A,c,h1,h⟩:=h;exact h.lt
theorem SvAt.below(h:SvAt w F g S ps q)(hb:Below w.heap.size w w'):SvAt w' F g S ps q:=h.keep hb.size fun k hk=>hb.block k (h.lt k hk)
theorem SvAt.touch(h:SvAt w F g S ps q)(ht:Touch G w w')(hd:∀ k,F k->¬ G k):SvAt w' F g S ps q:=h.keep ht.size fun k hk=>ht.block k (h.lt k hk) (hd k hk)
theorem SvAt.stAt(h:SvAt w F g S ps q):∃ K FS,zci K w FS g S q:=by
 obtain⟨FS,FP,vs,A,c,h1,h⟩:=h;exact⟨_,_,h.st⟩
end
def zuU(v:Value->Value)(S:St8)(ps:List (EntP×Int))(q:Nat)(w:World)(e:Ending)(w':World):Prop:=
 ∃ g F,e=.returned (v (pointer (some ⟨g,0,none⟩)))/\(∀ k,F k->w.heap.size<=k)/\SvAt w' F g S ps q/\Below w.heap.size w w'
def zvm(v:Value)(F:Nat->Prop)(g:Nat)(S:St8)(ps:List (EntP×Int))(q:Nat)(w:World)(e:Ending)(w':World):Prop:=e=.returned v/\∃ F',(∀ k,F' k->F k\/w.heap.size<=k)/\SvAt w' F' g S ps q/\Touch F w w'
theorem zf0(F:Nat->Prop)(y q:Nat)(S:St8)(w:World)(h:zci zoP w F y S q) :
 Calls Tryz.prog 34 #[pointer (some ⟨y,0,none⟩)] w fun e w'=>∃ g,e=.returned (pointer (some ⟨g,0,none⟩))/\w.heap.size<=g/\SvAt w' (fun k=>F k\/w.heap.size<=k/\k=g) g S [] q/\Below w.heap.size w w':=by
 obtain⟨a,b,c,v,m,p,o,j,t,c0,c1,c2,c3,c4,c5,c6,c7,i⟩:=zuT (srK (slice none 0 0)) h;have l:Hid (SvAt (w.alloc (cells #[a,b,c,v,int i64 (m:Int),.map p,.map o,j,slice none 0 0] 113)) (fun k=>F k\/w.heap.size<=k/\k=w.heap.size) w.heap.size S [] q):=zhd
  ⟨_,fun _=>False,[],none,0,rfl,⟨i,World.ownsRow_nil _ _ _ _,zd0 _ _,zcL _,(fun r s=>by cases s),(fun k _ h=>h.elim),(fun k d=>by
   rcases d with(d|d)|d
   ·exact Or.inl d
   ·exact Or.inr ⟨by omega,d⟩
   ·exact d.elim),(fun k d=>i.lt k (by
   rcases d with d|d
   ·exact Or.inl d
   ·exact Or.inr d.2))⟩⟩
 clear h i;go_enter Tryz.func34,Tryz.ntmps34
 go_wp2;go_ret;exact⟨w.heap.size,rfl,Nat.le_refl _,l.out,zbl⟩
theorem zkv(w:World):Calls Tryz.prog 11 #[] w (zuU id st0 [] 0 w):=by
 go_enter Tryz.func11,Tryz.ntmps11
 go_wp2_with fail
 refine(zqi w).mono ?_;rintro e w1 ⟨y,F,rfl,b,hl,c⟩;have o:=zhd b;have a:=zhd c;have j:=zhd (zf0 F y 0 st0 w1 hl);simp only [id];clear b hl c;go_wp2_with fail
 refine j.out.mono ?_;rintro e r ⟨g,rfl,q,i,d⟩;have m:=zhd i;have l:=zhd d;clear i d j;go_wp2;go_ret;exact⟨g,_,rfl,(fun k p=>by
  rcases p with h|h
  ·exact o.out k h
  ·have:=a.out.size;omega),m.out,a.out.trans (l.out.mono a.out.size)⟩
theorem zcR(g:Nat)(w:World)(a:g<w.heap.size) :
 Calls Tryz.prog 44 #[pointer (some ⟨g,0,none⟩)] w fun e w'=>e=.returned (pointer (some ⟨g,0,none⟩))/\w=w':=by
 go_enter Tryz.func44,Tryz.ntmps44
 go_wp2;go_ret;exact⟨rfl,rfl⟩
theorem zok(w:World) :
 Calls Tryz.prog 44 #[.pointer none] w fun e w'=>e=.returned (.pointer none)/\w=w':=by
 go_enter Tryz.func44,Tryz.ntmps44
 go_wp2;go_ret;exact⟨rfl,rfl⟩
end
section
open Go.RowKit Mem Be Word Frm Go.Maps
variable {KS KS' : StK}
theorem zc1{w:World}{F:Nat->Prop}{g q:Nat}{S:St8}(h:zci KS w F g S q):g<w.heap.size:=by
 obtain⟨j,k,FS,i,d,o,m,A,c,b,l,a,h⟩:=h;exact zaq (zdc h.lg)
theorem zwa{w:World}{F:Nat->Prop}{g q:Nat}{S:St8}(h:zci KS w F g S q):F g:=by
 obtain⟨j,k,FS,i,d,o,m,A,c,b,l,a,h⟩:=h;exact h.sub g (Or.inl (zhq h.lg))
theorem zqP{w:World}{F:Nat->Prop}{g q:Nat}{S:St8}{p p':Value}(h:zci (srK p) w F g S q):zci (srK p') (w.setCell ⟨g,8,none⟩ p') F g S q:=by
 obtain⟨v,x,FS,t,s,z,y,A,c,r,m,o,h⟩:=h;have d:∀ j,j≠g->(w.setCell ⟨g,8,none⟩ p').heap[j]?=w.heap[j]?:=fun j i=>Below.heap_setCell w ⟨g,8,none⟩ _ j i;have hne:∀ k,FS k->k≠g:=fun k d e=>h.dis g (zhq h.lg) (by rw [<-e];exact d);refine⟨v,x,FS,t,s,z,y,A,c,r,m,o,⟨ziT h.lg fun u=>?_,h.tl.keep fun k b=>d k (hne k b),h.tf.keep fun k b=>d k (hne k b),h.ne,zaj h.own fun a l=>d _ (hne _ (h.inA a l)),h.inA,h.dis,h.sub,fun k b=>?_⟩⟩
 ·simpa [dkC,lgK,stK,srK] using u.set_ 8 p'
 ·have:=h.lt k b;simpa [World.setCell] using this
theorem zuV{w:World}{F:Nat->Prop}{g q:Nat}{S:St8}{p:Value}(h:zci (srK p) w F g S q):w.cell? ⟨g,8,none⟩=some p:=by
 obtain⟨m,o,FS,l,k,t,s,A,c,j,r,i,h⟩:=h;obtain⟨v,a,b,c,d⟩:=zj9 h.lg;exact(d.cell 8).trans (by simp [dkC,lgK,stK,srK])
theorem zwb{w:World}{F:Nat->Prop}{g q:Nat}{S:St8}(h:zci KS w F g S q)(i:Nat):w.frozen? ⟨g,i,none⟩=false:=by
 obtain⟨k,l,FS,j,d,p,o,A,c,b,m,a,h⟩:=h;exact zqd h.lg i
theorem ztR{v:Value}{w w1:World}{e:Ending}{F FS i:Nat->Prop}{g c q u:Nat}{S s:St8}{m:List PtV}{A:Option Addr}(h:SvB w F FS i g S m A c q)
 (E:e=.returned v/\∃ F',(∀ k,F' k->FS k\/w.heap.size<=k)/\zci (srK (slice A m.length c)) w1 F' g s u/\Touch FS w w1) :
 e=.returned v/\∃ F' B,(∀ k,F' k->F k\/w.heap.size<=k)/\SvB w1 F' B i g s m A c u/\Touch F w w1:=by
 obtain⟨rfl,F',o,p,ht⟩:=E;have l:∀ k,i k->k<w.heap.size:=fun k b=>h.lt k (h.sub k (Or.inr b));have z:∀ k,i k->w1.heap[k]?=w.heap[k]?:=fun k b=>ht.block k (l k b) fun D=>h.dis k D b;refine⟨rfl,fun k=>F' k\/i k,F',fun k b=>?_,⟨p,zaj h.own fun a j=>z _ (h.inA a j),fun x y=>?_,h.inA,h.inB,fun k b t=>?_,fun k b=>b,fun k b=>?_⟩,ht.mono fun k b=>h.sub k (Or.inl b)⟩
 ·rcases b with b|b
  ·rcases o k b with d|d
   ·exact Or.inl (h.sub k (Or.inl d))
   ·exact Or.inr d
  ·exact Or.inl (h.sub k (Or.inr b))
 ·obtain⟨r,C,rfl⟩:=List.mem_map.1 y;exact zaj (h.byt _ y) fun a j=>z _ (h.inB r C a j)
 ·rcases o k b with d|d
  ·exact h.dis k d t
  ·have:=l k t;omega
 ·rcases b with b|b
  ·exact p.lt k b
  ·exact Nat.lt_of_lt_of_le (l k b) ht.size
theorem zqQ{v:Value}{w w1:World}{e:Ending}{F FS i:Nat->Prop}{g c q b:Nat}{S d:St8}{a:List PtV}{A:Option Addr}(h:SvB w F FS i g S a A c q)
 (m:e=.returned v/\∃ F',(∀ k,F' k->FS k\/w.heap.size<=k)/\zci (srK (slice A a.length c)) w1 F' g d b/\Touch FS w w1):zvm v F g d (a.map zs5) b w e w1:=by
 obtain⟨o,F',r,j,p,l⟩:=ztR h m;exact⟨o,F',j,⟨r,i,a,A,c,rfl,p⟩,l⟩
theorem zkw(F:Nat->Prop)(g q:Nat)(S:St8)(ps:List (EntP×Int))(k:List UInt8)(y:k.length<=maxLen)(w:World)(h:SvAt w F g S ps q) :
 Calls Tryz.prog 17 #[pointer (some ⟨g,0,none⟩),.string ⟨k.toArray⟩] w (zv4 (ofT S.L k) w):=by
 obtain⟨K,FS,i⟩:=h.stAt;have N:=zc1 i;have j:∀ W,Below w.heap.size w W->Calls Tryz.prog 45 #[pointer (some ⟨g,0,none⟩),.string ⟨k.toArray⟩] W (zv4 (ofT S.L k) W):=fun W b=>zsL FS g q S k y W (i.below b);obtain⟨x,z⟩:∃ x,ofT S.L k=x:=⟨_,rfl⟩;rw [z] at j ⊢;have m:=zhd j;clear j z;have c:=zhd ((Below.refl w.heap.size w).alloc (Nat.le_refl _) (cells #[.string ⟨#[]⟩,int i64 0,int i64 0,int i64 0,bool false,slice none 0 0] 46));have l:=zhd (Blk.new w 46 #[.string ⟨#[]⟩,int i64 0,int i64 0,int i64 0,bool false,slice none 0 0]);clear i h y;go_enter Tryz.func17,Tryz.ntmps17
 go_wp2_with fail
 refine(zcR g _ (by have:=c.out.size;omega)).mono ?_;rintro e w1 ⟨rfl,rfl⟩;go_wp2_with fail
 refine(m.out _ c.out).mono ?_;rintro e t ⟨d,c2,rfl,r,b⟩;have a:=zhd (l.out.below b l.out.lt);have J:Hid (t.ownsRow (w.heap.size+1) 5 1 (slice d x.v.length c2) x.v.length (x.v.map zaa)):=zhd (by have p:t.ownsRow _ _ _ _ _ _:=r;rw [World.size_alloc] at p;exact p);have B:=zhd (c.out.trans (b.mono c.out.size));have E:=a.out.cell 0;have G:=a.out.cell 1;have I:=a.out.cell 2;have A:=a.out.cell 3;have C:=a.out.cell 4;have D:=a.out.cell 5;have z0:=a.out.frozen 0;have O:=a.out.frozen 1;have M:=a.out.frozen 2;have z3:=a.out.frozen 3;have z4:=a.out.frozen 4;have z5:=a.out.frozen 5;clear r b m;unfold evV;go_wp2;refine bodyPost_ret (v:=zaT ⟨x.k.toArray⟩ x.s x.u x.o x.has d x.v.length c2) (by simp [results,Tryz.results17,go_sem,E,G,I,A,C,D]) rfl ?_;refine⟨d,c2,rfl,?_,zad (zad (zad (zad (zad (zad B.out (Nat.le_refl _) _ _) (Nat.le_refl _) _ _) (Nat.le_refl _) _ _) (Nat.le_refl _) _ _) (Nat.le_refl _) _ _) (Nat.le_refl _) _ _⟩;exact zaS (zak (zak (zak (zak (zak (zak J.out (by omega) _ _) (by omega) _ _) (by omega) _ _) (by omega) _ _) (by omega) _ _) (by omega) _ _) (by omega)
theorem zqR(F:Nat->Prop)(g q:Nat)(S:St8)(ps:List (EntP×Int))(w:World)(h:SvAt w F g S ps q) :
 Calls Tryz.prog 23 #[pointer (some ⟨g,0,none⟩)] w (zpy S.L w):=by
 obtain⟨K,FS,b⟩:=h.stAt;have c:=zc1 b;have j:=zhd (zsM FS g q S w b);clear b h;go_enter Tryz.func23,Tryz.ntmps23
 go_wp2_with fail
 refine(zcR g w c).mono ?_;rintro e w1 ⟨rfl,rfl⟩;go_wp2_with fail
 refine j.out.mono ?_;rintro e w1 a;have i:=zhd a;unfold zpy at a;obtain⟨l,m,c1,d,rfl,k⟩:=a;clear k d;go_wp2;go_ret;exact i.out
theorem zol(F:Nat->Prop)(g q:Nat)(S:St8)(ps:List (EntP×Int))(w:World)(h:SvAt w F g S ps q) :
 Calls Tryz.prog 27 #[pointer (some ⟨g,0,none⟩)] w (zll id (zac (S.rs.take S.m)) (zac (S.rs.drop S.m)) q w):=by
 obtain⟨K,FS,a⟩:=h.stAt;have i:=zc1 a;have k:=zhd (zgV FS g q S w a);clear a h;go_enter Tryz.func27,Tryz.ntmps27
 go_wp2_with fail
 refine(zcR g w i).mono ?_;rintro e w1 ⟨rfl,rfl⟩;go_wp2_with fail
 refine k.out.mono ?_;rintro e w1 ⟨y,F1,rfl,b,c,d⟩;have j:Hid (zll id (zac (S.rs.take S.m)) (zac (S.rs.drop S.m)) q w (.returned (pointer (some ⟨y,0,none⟩))) w1):=zhd ⟨y,F1,rfl,b,c,d⟩;simp only [id];clear b c d;go_wp2;go_ret;exact j.out
theorem zi3(F:Nat->Prop)(g q:Nat)(S:St8)(ps:List (EntP×Int))(w:World)(h:SvAt w F g S ps q) :
 Calls Tryz.prog 32 #[pointer (some ⟨g,0,none⟩)] w (zvm (int i64 (zbV S).2) F g (zbV S).1 ps q w):=by
 obtain⟨FS,m,o,A,c,rfl,a⟩:=h;have d:=zc1 a.st;have k:=zhd (zkl FS g q S w a.st);have j:=zhd a;clear a;go_enter Tryz.func32,Tryz.ntmps32
 go_wp2_with fail
 refine(zcR g w d).mono ?_;rintro e w1 ⟨rfl,rfl⟩;go_wp2_with fail
 refine k.out.mono ?_;rintro e w1 b;have i:=zhd (zqQ j.out b);obtain⟨rfl,l⟩:=b;clear l;go_wp2;go_ret;exact i.out
theorem zi4(w:World):Calls Tryz.prog 32 #[.pointer none] w fun e w'=>e=.returned (int i64 1)/\w=w':=by
 go_enter Tryz.func32,Tryz.ntmps32
 go_wp2_with fail
 refine(zok w).mono ?_;rintro e w1 ⟨rfl,rfl⟩;go_wp2_with fail
 refine(zlK w).mono ?_;rintro e w1 ⟨rfl,rfl⟩;go_wp2;go_ret;exact⟨rfl,rfl⟩
theorem zlW(F:Nat->Prop)(g q k:Nat)(S:St8)(ps:List (EntP×Int))(w:World)(h:SvAt w F g S ps q) :
 Calls Tryz.prog 33 #[pointer (some ⟨g,0,none⟩),int i64 (k:Int)] w (zuU (fun p=>.tuple #[p,int i64 0]) (zaL S k) [] q w):=by
 obtain⟨K,FS,b⟩:=h.stAt;have u:=zc1 b;have d:=zoa FS g q k S w b;obtain⟨a,l⟩:∃ a,zaL S k=a:=⟨_,rfl⟩;rw [l] at d ⊢;have j:=zhd d;clear d l;have C:(0:Int)<=(k:Int):=by omega
 clear b h;go_enter Tryz.func33,Tryz.ntmps33
 go_wp2_with fail
 refine(zcR g w u).mono ?_;rintro e w1 ⟨rfl,rfl⟩;go_wp2_with fail
 refine j.out.mono ?_;rintro e w1 ⟨y,F1,rfl,i,hl,m⟩;have A:=zhd i;have c:=zhd m;have r:=zhd (zf0 F1 y q a w1 hl);clear i hl m j;go_wp2_with fail
 refine r.out.mono ?_;rintro e v ⟨z,rfl,t,s,o⟩;have x:Hid (zuU (fun p=>.tuple #[p,int i64 0]) a [] q w (.returned (.tuple #[pointer (some ⟨z,0,none⟩),int i64 0])) v):=zhd ⟨z,_,rfl,(fun k B=>by
  rcases B with h|h
  ·exact A.out k h
  ·have:=c.out.size;omega),s,c.out.trans (o.mono c.out.size)⟩
 clear t s o r;go_wp2;go_ret2
 exact x.out
theorem zlX(F:Nat->Prop)(g q:Nat)(S:St8)(ps:List (EntP×Int))(k:Int)(c:k<0)(w:World)(h:SvAt w F g S ps q) :
 Calls Tryz.prog 33 #[pointer (some ⟨g,0,none⟩),int i64 k] w fun e w'=>e=.returned (.tuple #[.pointer none,int i64 2])/\Below w.heap.size w w':=by
 obtain⟨K,FS,a⟩:=h.stAt;have d:=zc1 a;have j:=zhd (zn9 FS g q S k c w a);clear a h c;go_enter Tryz.func33,Tryz.ntmps33
 go_wp2_with fail
 refine(zcR g w d).mono ?_;rintro e w1 ⟨rfl,rfl⟩;go_wp2_with fail
 refine j.out.mono ?_;rintro e w1 ⟨rfl,b⟩;have i:=zhd b;clear b;go_wp2;go_ret2
 exact⟨rfl,i.out⟩
end
section
open Go.RowKit Mem Be Word Frm Go.Maps
theorem zqS(a b:List PtV):zdy (a++b)=zdy a++zdy b:=List.flatMap_append
theorem zqT(l:List PtV):∀ u∈zdy l,u.oneCell'=true:=by
 intro u b;obtain⟨x,_,a⟩:=List.mem_flatMap.1 b;simp only [zez,zbf,List.mem_append,List.mem_cons,List.not_mem_nil,or_false] at a;rcases a with(rfl|rfl|rfl|rfl|rfl|rfl)|rfl<;>rfl
theorem zs7:(Tryz.prog.info? 115).map (fun i=>(i.zero,i.size,i.bytes))=some (some (.agg #[.string .empty,int i64 0,int i64 0,int i64 0,bool false,slice none 0 0,int i64 0]),7,80):=by kernel_rfl
theorem zwc{w:World}{x:PtV}{g:Nat}(h:Blk w g 115 ⟨zez x⟩){B:Nat}(b:g<B):Row w B (some ⟨g,0,none⟩) (zdy [x]):=by
 refine Or.inr ⟨g,0,rfl,b,fun j a=>?_⟩;have e:zdy [x]=zez x:=by simp [zdy]
 have d:=h.cell (0+j);rw [d];have c:j<(zez x).length:=by rw [<-e];exact a
 rw [Nat.zero_add];rw [List.getElem_of_eq e a];show(⟨zez x⟩:Array Value)[j]?=_
 rw [List.getElem?_toArray,List.getElem?_eq_getElem c]
theorem zuW{W w4 d:World}{F FS v:Nat->Prop}{g c c' q B:Nat}{S:St8}{i:List PtV}{A o:Option Addr}{r:PtV}(h:SvB W F FS v g S i A c q)(hB:B<=W.heap.size)(u:Below W.heap.size W w4)
 (N:zix W B r.1) (Q:∀ a,r.1.2.1=some a->¬ FS a.block)
 (T:d.ownsRow 0 115 7 (slice o (i.length+1) c') (i.length+1) (zdy (i++[r]))) (I:w4.grownBy d (Value.slice A i.length c).ownBlock)
 (ae:(Value.slice o (i.length+1) c').ownBlock=(Value.slice A i.length c).ownBlock\/(Value.slice o (i.length+1) c').ownBlock=some w4.heap.size) :
 (∃ F' aa,(∀ k,F' k->F k\/B<=k)/\SvB (d.setCell ⟨g,8,none⟩ (slice o (i.length+1) c')) F' FS aa g S (i++[r]) o c' q)/\Touch F W (d.setCell ⟨g,8,none⟩ (slice o (i.length+1) c'))/\d.cell? ⟨g,8,none⟩=some (slice A i.length c)/\d.frozen? ⟨g,8,none⟩=false:=by
 have L:FS g:=zwa h.st;have G:∀ k,(Value.slice A i.length c).ownBlock=some k->v k/\∃ E,W.heap[k]?=some (cells E 115 (0,0)):=fun k b=>by
  cases A with
  | none=>cases b
  | some x=>
   have:x.block=k:=by simpa [Value.ownBlock] using b
   subst this;exact⟨h.inA x rfl,(zaJ h.own rfl).2.2⟩
 have X:∀ k,F k->k<W.heap.size:=h.lt;have D:∀ k,FS k->k<W.heap.size:=fun k b=>X k (h.sub k (Or.inl b));have K:W.heap.size<=d.heap.size:=Nat.le_trans u.size I.size;have af:(d.setCell ⟨g,8,none⟩ (slice o (i.length+1) c')).heap.size=d.heap.size:=by simp [World.setCell]
 have ag:∀ k,k<W.heap.size->¬ (∃ E,W.heap[k]?=some (cells E 115 (0,0)))->d.heap[k]?=W.heap[k]?:=fun k b hn=>
  (I.block k (Nat.lt_of_lt_of_le b u.size) fun e=>hn (G k e.symm).2).trans (u.block k b)
 have ab:∀ k,FS k->d.heap[k]?=W.heap[k]?:=fun k b=>(I.block k (Nat.lt_of_lt_of_le (D k b) u.size) fun e=>h.dis k b (G k e.symm).1).trans (u.block k (D k b));have O:=h.st.keep K ab;have U:∀ k,k≠g->(d.setCell ⟨g,8,none⟩ (slice o (i.length+1) c')).heap[k]?=d.heap[k]?:=fun k b=>Below.heap_setCell d ⟨g,8,none⟩ _ k b;have V:∀ x:EV,zix W 0 x->(∀ a,x.2.1=some a->a.block≠g)->zix (d.setCell ⟨g,8,none⟩ (slice o (i.length+1) c')) 0 x:=fun x l J=>zaj l fun a j=>by
  obtain⟨_,M,ah,C⟩:=zaJ l j;refine(U _ (J a j)).trans (ag _ M fun⟨E,e⟩=>?_);rw [e] at C;injection C with C;injection C with _ C;exact absurd C (by decide)
 have R:∀ x,o=some x->(v x.block\/W.heap.size<=x.block)/\x.block<d.heap.size:=fun x l=>by
  refine⟨?_,(zaJ T l).2.1⟩;subst l;rcases ae with s|s
  ·exact Or.inl (G _ s.symm).1
  ·have:x.block=w4.heap.size:=by simpa [Value.ownBlock] using s
   have:=u.size;exact Or.inr (by omega)
 have hl:(i++[r]).length=i.length+1:=by simp
 have Z:∀ a,r.1.2.1=some a->B<=a.block/\a.block<d.heap.size:=fun a j=>⟨(zaJ N j).1,Nat.lt_of_lt_of_le (zaJ N j).2.1 K⟩;have J:∀ k,v k->k≠g:=fun k b e=>h.dis g L (by rw [<-e];exact b);refine⟨⟨fun k=>FS k\/((v k\/B<=k)/\¬ FS k/\k<d.heap.size),fun k=>(v k\/B<=k)/\¬ FS k/\k<d.heap.size,fun k b=>?_,⟨?_,?_,fun x l=>?_,fun x l=>?_,fun x l a j=>?_,fun k h1 M=>M.2.1 h1,fun k b=>b,fun k b=>?_⟩⟩,?_,zuV O,zwb O 8⟩
 ·rcases b with b|b
  ·exact Or.inl (h.sub k (Or.inl b))
  ·exact b.1.imp (fun t=>h.sub k (Or.inr t)) (fun t=>t)
 ·rw [hl];exact zqP O
 ·rw [hl];exact zaj T fun x l=>U _ fun e=>by
   rcases(R x l).1 with z|z
   ·exact J _ z e
   ·have:=D g L;omega
 ·obtain⟨y,m,rfl⟩:=List.mem_map.1 l;rcases List.mem_append.1 m with m|m
  ·exact V _ (h.byt _ (List.mem_map_of_mem m)) fun a j=>J _ (h.inB y m a j)
  ·obtain rfl:y=r:=by simpa using m
   exact V _ (zaz N (Nat.zero_le _)) fun a j e=>Q a j (by rw [e];exact L)
 ·have z:=R x l;refine⟨z.1.imp (fun t=>t) (fun t=>Nat.le_trans hB t),fun s=>?_,z.2⟩;rcases z.1 with Y|Y
  ·exact h.dis _ s Y
  ·have:=D _ s;omega
 ·rcases List.mem_append.1 l with m|m
  ·exact⟨Or.inl (h.inB x m a j),fun s=>h.dis _ s (h.inB x m a j),Nat.lt_of_lt_of_le (X _ (h.sub _ (Or.inr (h.inB x m a j)))) K⟩
  ·obtain rfl:x=r:=by simpa using m
   exact⟨Or.inr (Z a j).1,Q a j,(Z a j).2⟩
 ·rw [af];rcases b with b|b
  ·exact Nat.lt_of_lt_of_le (D k b) K
  ·exact b.2.2
 ·exact((Touch.ofBelow u).grown I fun k b=>Or.inl (h.sub k (Or.inr (G k b).1))).set_ (p:=⟨g,8,none⟩) (Or.inl (h.sub g (Or.inl L))) _
def zi5(S:St8)(ps:List (EntP×Int))(e:EntP)(who:Int):List (EntP×Int):=if(zce S e who).2=0 then ps++[(e,who)] else ps
end
section
open Go.RowKit Mem Be Word Frm Go.Maps
theorem znd{v:Value}{w b w1:World}{e:Ending}{F:Nat->Prop}{g q:Nat}{S:St8}{ps:List (EntP×Int)}(c:Below w.heap.size w b)(h:zvm v F g S ps q b e w1):zvm v F g S ps q w e w1:=by
 obtain⟨rfl,F',d,i,ht⟩:=h;exact⟨rfl,F',fun k a=>(d k a).imp (fun h=>h) (fun h=>Nat.le_trans c.size h),i,(Touch.ofBelow c).trans ht fun k a=>Or.inl a⟩
theorem zuX{S:St8}{e:EntP}{who:Int}(h:(zce S e who).2=0):zhr e who:=by
 by_cases a:zhr e who
 ·exact a
 ·unfold zce at h;rw [if_neg a] at h;simp at h
theorem zqU(F:Nat->Prop)(g q:Nat)(S:St8)(ps:List (EntP×Int))(x:EV)(who:Int)(aM:S.acks.length<=1466015503701)(ay:ps.length<=700000000000)(hl:(x.1.v.length:Int)<=9223372036854775807)(j:(x.1.k.length:Int)<=9223372036854775807)(w:World)(h:SvAt w F g S ps q)
 (aL:Row w w.heap.size x.2.1 (x.1.v.map zaa)) (aH:x.1.v.length<=x.2.2) (hN:zaK F w x.2.1 (x.1.v.map zaa)) :
 Calls Tryz.prog 52 #[pointer (some ⟨g,0,none⟩),evV x,int i64 who] w (zvm (int i64 (zce S x.1 who).2) F g (zce S x.1 who).1 (zi5 S ps x.1 who) q w):=by
 obtain⟨FS,FP,i,A,c,rfl,z⟩:=h;have B:Below w.heap.size w ((w.alloc (cells ⟨zbf x⟩ 46)).drew):=(zbl).drew;have bl:=zc1 z.st;have ao:zaK FS w x.2.1 (x.1.v.map zaa):=by
  rcases hN with h|⟨b,o,e,y,hb,hc⟩
  ·exact Or.inl h
  ·exact Or.inr ⟨b,o,e,fun h=>y (z.sub b (Or.inl h)),hb,hc⟩
 have aD:=zhd (zaK.touch ao (Touch.ofBelow B));have X:Hid (SvB ((w.alloc (cells ⟨zbf x⟩ 46)).drew) F FS FP g S i A c q):=zhd (z.keep B.size fun k j=>B.block k (z.lt k j));have K:=zsT FS g q S x who aM hl j _ X.out.st ((aL.below B).more B.size) aH aD.out;have ag:=zhd B;have aA:=zhd (Blk.new w 46 ⟨zbf x⟩).drew;have aX:Hid (¬ FS w.heap.size):=zhd fun y=>by have:=z.lt _ (z.sub _ (Or.inl y));omega
 have bh:Hid (¬ F w.heap.size):=zhd fun y=>by have:=z.lt _ y;omega
 have al:Hid (i.length<=700000000000):=zhd (by simpa using ay);have G:Hid ((zce S x.1 who).2=0->x.1.v.length<=140737488355328):=zhd fun h=>by have:=zah (zuX h).1;omega
 have C:Hid (zi5 S (i.map zs5) x.1 who=if(zce S x.1 who).2=0 then i.map zs5++[(x.1,who)] else i.map zs5):=zhd rfl;obtain⟨i1,aS,aQ,aP,bg⟩:=info_parts zs7
 generalize zi5 S (i.map zs5) x.1 who=pp at *
 obtain⟨R,T⟩:∃ R,zce S x.1 who=R:=⟨_,rfl⟩;rw [T] at K G C;rw [T];obtain⟨S2,e2⟩:=R;simp only at K G C ⊢;have M:=zhd K;clear K B ao hN aL aH z aM ay hl j T;unfold evV at M ⊢;by_cases Q:e2=0
 ·subst Q;have ae:pp=i.map zs5++[(x.1,who)]:=by rw [C.out];rfl
  subst ae;have bd:=zhd (G.out rfl);clear G C;go_enter Tryz.func52,Tryz.ntmps52
  go_wp2_with fail
  go_region_law (go_simp;go_at_call 81;refine M.out.mono ?_;rintro e w1 t;have E:=zhd t;obtain⟨rfl,aj⟩:=t;clear aj)
  have t:=E.out;clear E;obtain⟨_,Y,aa,ab,ax,aG⟩:=ztR X.out t;obtain⟨_,F1,aV,aW,O⟩:=t;have af:Hid (Blk w1 w.heap.size 46 ⟨zbf x⟩):=zhd ((O.block _ aA.out.lt aX.out).trans aA.out);have aU:=zhd (zaK.touch aD.out O);have aJ:Hid (w.heap.size+1<=w1.heap.size):=zhd (by have:=O.size;simpa using this);have au:Hid (∀ k,Y k->F k\/w.heap.size<=k):=zhd fun k j=>(ab k j).imp (fun h=>h) (fun h=>Nat.le_trans ag.out.size h);have aT:Hid (¬ Y w.heap.size):=zhd fun y=>by
   rcases ab _ y with h|h
   ·exact bh.out h
   ·have h2:w.heap.size+1<=w.heap.size:=by simpa using h
    omega
  have aR:Hid (Touch F w w1):=zhd ((Touch.ofBelow ag.out).trans aG fun k j=>Or.inl j);have N:=zhd ax;have s5:=(ent_cells af.out).2.2.2.2.2;have aE:=zhd (za4 w1.heap.size x.2.2 x.2.1 x.1.v x.1.v.length rfl w1 aU.out.row (Nat.le_refl _) bd.out);clear aV aW O ab ax aG M;go_wp2_with fail
  refine aE.out.mono ?_;rintro e m ⟨d,c1,rfl,L,D⟩;have Z:=zhd (af.out.below D af.out.lt);have s5:=(ent_cells Z.out).2.2.2.2.2;have f5:=Z.out.frozen 5;have ai:∀ k,k≠w.heap.size->(m.setCell ⟨w.heap.size,5,none⟩ (slice d x.1.v.length c1)).heap[k]?=m.heap[k]?:=fun k j=>Below.heap_setCell m ⟨w.heap.size,5,none⟩ _ k j;have ah:(m.setCell ⟨w.heap.size,5,none⟩ (slice d x.1.v.length c1)).heap.size=m.heap.size:=by simp [World.setCell]
  have aB:Hid (Blk (m.setCell ⟨w.heap.size,5,none⟩ (slice d x.1.v.length c1)) w.heap.size 46 ⟨zbf (x.1,d,c1)⟩):=zhd (by simpa [zbf] using Z.out.set_ 5 (slice d x.1.v.length c1));have aw:Hid (zix (m.setCell ⟨w.heap.size,5,none⟩ (slice d x.1.v.length c1)) w1.heap.size (x.1,d,c1)):=zhd (zaj L fun a U=>ai _ fun e=>by have:=(zaJ L U).1;have:=aJ.out;omega);have I:Hid (SvB (m.setCell ⟨w.heap.size,5,none⟩ (slice d x.1.v.length c1)) Y aa FP g S2 i A c q):=zhd (N.out.keep (by rw [ah];exact D.size) fun k j=>(ai k fun e=>aT.out (by rw [<-e];exact j)).trans (D.block k (N.out.lt k j)));have an:Hid (Touch F w (m.setCell ⟨w.heap.size,5,none⟩ (slice d x.1.v.length c1))):=zhd ((aR.out.thenBelow D).set_ (p:=⟨w.heap.size,5,none⟩) (Or.inr (Nat.le_refl _)) _);have aK:Hid (w1.heap.size<=(m.setCell ⟨w.heap.size,5,none⟩ (slice d x.1.v.length c1)).heap.size):=zhd (by rw [ah];exact D.size);have aY:Hid (∀ a,d=some a->¬ aa a.block):=zhd fun a U y=>by have:=(zaJ L U).1;have:=N.out.lt _ (N.out.sub _ (Or.inl y));omega
  clear D L ai ah aE;go_upto_region 1 with fail
  obtain⟨l,ak⟩:∃ W,m.setCell ⟨w.heap.size,5,none⟩ (slice d x.1.v.length c1)=W:=⟨_,rfl⟩;rw [ak] at aB aw I an aK ⊢;clear ak s5 f5;have am:Hid (Below l.heap.size l ((l.alloc (cells ⟨zez ((x.1,d,c1),who)⟩ 115)).drew)):=zhd (zbl).drew;have aO:Hid (((l.alloc (cells ⟨zez ((x.1,d,c1),who)⟩ 115)).drew).ownsRow 0 115 7 (slice A i.length c) i.length (zdy i)):=zhd (zag I.out.own am.out);have bf:Hid (Row ((l.alloc (cells ⟨zez ((x.1,d,c1),who)⟩ 115)).drew) (l.heap.size+1) (some ⟨l.heap.size,0,none⟩) (zdy [((x.1,d,c1),who)])):=zhd (zwc (by exact Blk.new l 115 ⟨zez ((x.1,d,c1),who)⟩) (Nat.lt_succ_self _));obtain⟨s0,s1,s2,s3,s4,s5⟩:=ent_cells aB.out;have c8:l.cell? ⟨g,8,none⟩=some (slice A i.length c):=zuV I.out.st;have bk:(l.alloc (cells #[.string ⟨x.1.k.toArray⟩,int i64 x.1.s,int i64 x.1.u,int i64 x.1.o,bool x.1.has,slice d x.1.v.length c1,int i64 who] 115)).cell? ⟨g,8,none⟩=some (slice A i.length c):=zdN _ c8;go_wp2_with fail
  go_region_law (refine ze3 (P:=Tryz.prog) (by rfl) _ _ _ (by rfl) 0 115 i1 (.agg #[.string .empty,int i64 0,int i64 0,int i64 0,bool false,slice none 0 0,int i64 0]) 7 80 Tryz.underlying109 aS aQ aP bg rfl (by decide) (slice A i.length c) i.length (zdy i) (by rfl) (by exact aO.out) (l.heap.size+1) (some ⟨l.heap.size,0,none⟩) 1 1 (zdy [((x.1,d,c1),who)]) (by rfl) (by rfl) (by exact bf.out) (zqT _) (by have:=al.out;unfold maxLen;omega) (by have:=al.out;omega) (Nat.zero_le _) ?_;intro v' w7 V az aI;obtain⟨A7,bj,rfl,_,_⟩:=zat V;(have J:=zuW (r:=((x.1,d,c1),who)) I.out aK.out am.out aw.out aY.out (by rw [zqS];exact V) az aI);(have aq:=zhd J);have e8:=J.2.2.1;have z8:=J.2.2.2;clear V az aI J)
  all_goals
   go_wp2;go_ret;obtain⟨F9,aZ,h9,aN⟩:=aq.out.1;exact⟨rfl,F9,(fun k j=>by
    rcases h9 k j with h|h
    ·exact au.out k h
    ·exact Or.inr (by have:=aJ.out;omega)),⟨aa,aZ,i++[((x.1,d,c1),who)],_,_,by simp [zs5],aN⟩,an.out.trans aq.out.2.1 au.out⟩
 ·have ae:pp=i.map zs5:=by rw [C.out,if_neg Q]
  subst ae;have bi:(e2==0)=false:=by simpa using Q
  clear G C Q;go_enter Tryz.func52,Tryz.ntmps52
  go_wp2_with fail
  go_region_law (go_simp;go_at_call 81;refine M.out.mono ?_;rintro e w1 t;have E:=zhd t;obtain⟨rfl,aj⟩:=t;clear aj)
  have t:=E.out;clear E;have HX:=zhd (znd ag.out (zqQ X.out t));clear t;go_wp2;go_ret;exact HX.out
end
section
open Go.RowKit Mem Be Word Frm Go.Maps
def zqV(F:Nat->Prop)(g:Nat)(S:St8)(q:Nat)(w:World)(e:Ending)(w':World):Prop:=
 ∃ F' A c q',e=.returned (.tuple #[slice A S.acks.length c,int i64 0])/\w'.ownsRow 0 130 5 (slice A S.acks.length c) S.acks.length (zaE S.acks)/\(∀ a,A=some a->¬ F' a.block)/\(∀ k,F' k->F k\/w.heap.size<=k)/\q'<=q+1/\SvAt w' F' g (zc4 S) [] q'/\Touch F w w'
theorem zlY(F:Nat->Prop)(g q:Nat)(S:St8)(ps:List (EntP×Int))(hq:q<=4611686018427387904)(w:World)(h:SvAt w F g S ps q) :
 Calls Tryz.prog 58 #[pointer (some ⟨g,0,none⟩)] w (zqV F g S q w):=by
 obtain⟨FS,y,B,A,c,rfl,b⟩:=h;have c8:=zuV b.st;have z:=zwb b.st 8;have i:=zhd (zqz FS g q S hq _ (zqP (p':=slice none 0 0) b.st));have j:Hid (∀ k,FS k->F k):=zhd fun k a=>b.sub k (Or.inl a);have u:Hid (Touch F w (w.setCell ⟨g,8,none⟩ (slice none 0 0))):=zhd ((Touch.refl F w).set_ (p:=⟨g,8,none⟩) (Or.inl (b.sub g (Or.inl (zwa b.st)))) _);clear b hq;go_enter Tryz.func58,Tryz.ntmps58
 go_wp2_with fail
 refine i.out.mono ?_;rintro e w1 ⟨F1,t,c1,q1,rfl,o,s,l,m,d,ht⟩;have x:Hid (zqV F g S q w (.returned (.tuple #[slice t S.acks.length c1,int i64 0])) w1):=zhd
  ⟨F1,t,c1,q1,rfl,o,s,(fun k a=>(l k a).imp (fun h=>j.out k h) (fun h=>Nat.le_trans u.out.size h)),m,⟨F1,fun _=>False,[],none,0,rfl,⟨d,World.ownsRow_nil _ _ _ _,zd0 _ _,zcL _,(fun r v=>by cases v),(fun k _ h=>h.elim),(fun k a=>a.elim (fun h=>h) (fun h=>h.elim)),d.lt⟩⟩,u.out.trans (ht.mono fun k a=>j.out k a) fun k a=>Or.inl a⟩
 clear o s l m d ht i;go_wp2;go_ret2
 exact x.out
end
section
open Go.RowKit Mem Be Word Frm Go.Maps
def fmC(a:AckP):List Value:=[int i64 11,int i64 1,int i64 a.who,int i64 0,int i64 0,int i64 0,bool false,.string ⟨a.k.toArray⟩,int i64 a.s,int i64 a.u,int i64 a.o,bool false,slice none 0 0,slice none 0 0,slice none 0 0,int i64 0,int i64 0]
theorem zi6(a:AckP)(w:World) :
 Calls Tryz.prog 87 #[.agg ⟨zdO a⟩] w fun e w'=>e=.returned (.agg ⟨fmC a⟩)/\Below w.heap.size w w':=by
 have c:Hid (Below w.heap.size w ((w.alloc (cells ⟨zdO a⟩ 130)).alloc (cells ⟨fmC a⟩ 51))):=zhd ((zbl).alloc (by simp) _);have b:Hid (Blk ((w.alloc (cells ⟨zdO a⟩ 130)).alloc (cells ⟨fmC a⟩ 51)) (w.heap.size+1) 51 ⟨fmC a⟩):=zhd (by
  have h:=Blk.new (w.alloc (cells ⟨zdO a⟩ 130)) 51 ⟨fmC a⟩;rw [World.size_alloc] at h;exact h)
 unfold zdO;go_enter Tryz.func87,Tryz.ntmps87
 go_wp2;exact bodyPost_ret (v:=.agg ⟨fmC a⟩) (results_cell_row (p:=2) (ty:=51) Tryz.results87 _ _ (w.heap.size+1) 51 ⟨fmC a⟩ (0,0) _ rfl b.out Tryz.underlying51 rfl (by kernel_rfl)) rfl ⟨rfl,c.out⟩
end
section
open Go.RowKit Mem Be Word Frm Go.Maps
abbrev zf1(l:List AckP):List Value:=l.flatMap fmC
theorem zne(l:List AckP):∀ u∈zf1 l,u.oneCell'=true:=by
 intro u b;obtain⟨x,_,a⟩:=List.mem_flatMap.1 b;simp only [fmC,List.mem_cons,List.not_mem_nil,or_false] at a;rcases a with rfl|rfl|rfl|rfl|rfl|rfl|rfl|rfl|rfl|rfl|rfl|rfl|rfl|rfl|rfl|rfl|rfl<;>rfl
theorem zwd(W:World)(A:Option Addr)(n c k:Nat)(h:k<=n):(Instr.slice 34 (slice A n c) (some (int i64 (k:Int))) none none).run Tryz.prog W=.ok (slice (if c=k then A else A.map (·.add (k*5))) (n - k) (c - k)) W:=by
 obtain⟨i,b,g,a,d⟩:=info_parts zdP;simp [Instr.slice,run_underlying Tryz.underlying34,Instr.sliceBounds,Instr.sliceBound,asIntOf,sizeOf,typeInfo,b,a,h]
theorem zqW{w:World}{B:Nat}{A:Option Addr}{rs:List AckP}{c k:Nat}(h:Row w B A (zaE rs))(hc:rs.length<=c)(q:k<=rs.length):Row w B (if c=k then A else A.map (·.add (k*5))) (zaE (rs.drop k)):=by
 rcases Nat.lt_or_ge k rs.length with p|g
 ·obtain⟨b,o,rfl,l,d⟩:=h.open_ (by rw [zcE];omega);rw [if_neg (by omega)];have e:(some (⟨b,o,none⟩:Addr)).map (·.add (k*5))=some ⟨b,o+k*5,none⟩:=by
   show some ((⟨b,o,none⟩:Addr).add (k*5))=_
   unfold Addr.add;split
   ·rename_i m;rw [m];rfl
   ·rfl
  rw [e];refine Or.inr ⟨b,o+k*5,rfl,l,fun j a=>?_⟩;have i:zaE rs=zaE (rs.take k)++zaE (rs.drop k):=by rw [<-zcY,List.take_append_drop]
  have hl:(zaE (rs.take k)).length=k*5:=by rw [zcE,List.length_take];congr 1;omega
  rw [zcE,List.length_drop] at a;have:=d (k*5+j) (by rw [zcE];omega);rw [Nat.add_assoc,this]
  congr 1
  simp only [i];rw [List.getElem_append_right (by omega)]
  congr 1
  omega
 ·rw [List.drop_of_length_le g];exact Row.nil _ _ _
theorem ztS{w:World}{x:AckP}{g:Nat}(h:Blk w g 51 ⟨fmC x⟩){B:Nat}(b:g<B):Row w B (some ⟨g,0,none⟩) (zf1 [x]):=by
 refine Or.inr ⟨g,0,rfl,b,fun j a=>?_⟩;have e:zf1 [x]=fmC x:=by simp [zf1]
 have d:=h.cell (0+j);rw [d];have c:j<(fmC x).length:=by rw [<-e];exact a
 rw [Nat.zero_add];rw [List.getElem_of_eq e a];show(⟨fmC x⟩:Array Value)[j]?=_
 rw [List.getElem?_toArray,List.getElem?_eq_getElem c]
theorem zh3:(Tryz.prog.info? 51).map (fun i=>(i.zero,i.size,i.bytes))=some (some (.agg #[int i64 0,int i64 0,int i64 0,int i64 0,int i64 0,int i64 0,bool false,.string .empty,int i64 0,int i64 0,int i64 0,bool false,slice none 0 0,slice none 0 0,slice none 0 0,int i64 0,int i64 0]),17,192):=by kernel_rfl
def ztT:Value->Nat
 | slice _ m _=>m
 | _=>0
def FmP(l:List AckP)(w:World)(e:Ending)(w':World):Prop:=∃ A c,e=.returned (slice A l.length c)/\w'.ownsRow w.heap.size 51 17 (slice A l.length c) l.length (zf1 l)/\Below w.heap.size w w'
theorem zht(A:Option Addr)(n c:Nat)(l:List AckP)(G:n=l.length)(hc:n<=c)(hl:n<=700000000000)(w:World)(h:Row w w.heap.size A (zaE l)) :
 Calls Tryz.prog 59 #[slice A n c] w (FmP l w):=by
 have HR:=zhd h;have q:=zhd G;have HC:=zhd hc;have T:=zhd hl;obtain⟨i0,ak,af,X,an⟩:=info_parts zh3;clear h G hc hl;go_enter Tryz.func59,Tryz.ntmps59
 go_wp2;go_step3
 go_wp2;go_step3
 go_wp2;go_loopw [0,3] (fun F ov wr=>∃ (j:Nat) (B:Option Addr) (c1:Nat) (a:Option Addr) (c3:Nat),j<=n/\F=slice B (n - j) c1/\ov=slice a j c3/\Hid (n - j<=c1)/\Hid (Row wr w.heap.size B (zaE (l.drop j)))/\Hid (wr.ownsRow w.heap.size 51 17 (slice a j c3) j (zf1 (l.take j)))/\Hid (Below w.heap.size w wr)) (fun F _ _=>ztT F)
 case atStart=>exact⟨0,A,c,none,0,by omega,rfl,rfl,HC,HR,zhd (World.ownsRow_nil _ _ _ _),zhd (Below.refl _ _)⟩
 case round=>
  obtain⟨j,B,c1,a,c3,hj,rfl,rfl,ai,V,S,i⟩:=hrel;have ax:(n:Int)<=700000000000:=by have:=T.out;omega
  by_cases Q:j<n
  rotate_left
  ·obtain rfl:j=n:=by omega
   have aj:Hid (wr.ownsRow w.heap.size 51 17 (slice a l.length c3) l.length (zf1 l)):=zhd (by
    have h:=S.out;rw [q.out,List.take_of_length_le (Nat.le_refl _)] at h;exact h)
   have M:=q.out;rw [Nat.sub_self];rw [M];clear Q M;go_wp2;rw [Exit.noGoto_ret];go_ret;exact⟨a,c3,rfl,aj.out,i.out⟩
  obtain⟨m,r⟩:∃ m,n - j=m+1:=⟨n - j - 1,by omega⟩;have Z:j<l.length:=by rw [<-q.out];exact Q
  have aa:(l.drop j).length=m+1:=by rw [List.length_drop,<-q.out];exact r
  obtain⟨b,o,rfl,aw,O⟩:=zj8 V.out (by omega);obtain⟨N,d1,d2,L,R⟩:=O 0 (by omega);have J:(l.drop j)[0]'(by omega)=l[j]:=by rw [List.getElem_drop];rfl
  obtain⟨x,D⟩:∃ x,l[j]=x:=⟨_,rfl⟩;rw [J,D] at N d1 d2 L R;rw [Nat.zero_mul,Nat.add_zero] at N d1 d2 L R;have ao:Hid (l.take (j+1)=l.take j++[x]):=zhd (by rw [List.take_succ_eq_append_getElem Z,D]);have K:m+1<=c1:=by have:=ai.out;omega
  have hcut:∀ W,(Instr.slice 34 (slice (some ⟨b,o,none⟩) (m+1) c1) (some (int i64 1)) none none).run Tryz.prog W=.ok (slice (if c1=1 then some ⟨b,o,none⟩ else(some (⟨b,o,none⟩:Addr)).map (·.add (1*5))) m (c1 - 1)) W:=fun W=>zwd W (some ⟨b,o,none⟩) (m+1) c1 1 (by omega);have Y:Hid (Row wr w.heap.size (if c1=1 then some ⟨b,o,none⟩ else(some (⟨b,o,none⟩:Addr)).map (·.add (1*5))) (zaE (l.drop (j+1)))):=zhd (by
   have h:=zqW (k:=1) (c:=c1) V.out (by omega) (by omega);rw [List.drop_drop] at h;exact h)
  generalize (if c1=1 then some (⟨b,o,none⟩:Addr) else(some (⟨b,o,none⟩:Addr)).map (·.add (1*5)))=A4 at *
  have au:(0:Int)<=(m:Int):=by omega
  have E:=zhd (zi6 x wr);unfold zdO fmC at E;rw [r];have I:=zhd r;have ag:=zhd K;clear J D O aa r K;go_wp2_with fail
  refine E.out.mono ?_;rintro e d ⟨rfl,p⟩;have t:=zhd (i.out.trans (p.mono i.out.size));have s:Hid (Below w.heap.size w (d.alloc (cells ⟨fmC x⟩ 51))):=zhd (t.out.alloc t.out.size _);have v:Hid ((d.alloc (cells ⟨fmC x⟩ 51)).ownsRow w.heap.size 51 17 (slice a j c3) j (zf1 (l.take j))):=zhd (zag (zag S.out p) (zbl));have ah:Hid (Blk (d.alloc (cells ⟨fmC x⟩ 51)) d.heap.size 51 ⟨fmC x⟩):=zhd (Blk.new _ _ _);have al:Hid (Below w.heap.size wr (d.alloc (cells ⟨fmC x⟩ 51))):=zhd ((p.mono i.out.size).alloc t.out.size _);have aq:j+1<=700000000000:=by have:=T.out;omega
  clear p E;go_wp2_with (at_builtin;refine zaN (P:=Tryz.prog) (by rfl) _ _ _ (by rfl) w.heap.size 51 i0 (.agg #[int i64 0,int i64 0,int i64 0,int i64 0,int i64 0,int i64 0,bool false,.string .empty,int i64 0,int i64 0,int i64 0,bool false,slice none 0 0,slice none 0 0,slice none 0 0,int i64 0,int i64 0]) 17 192 Tryz.underlying37 ak af X an rfl (by decide) (slice a j c3) j (zf1 (l.take j)) (by rfl) (by exact v.out) (d.heap.size+1) (some ⟨d.heap.size,0,none⟩) (1) (1) (zf1 [x]) (by rfl) (by rfl) (by exact ztS ah.out (by omega)) (zne _) (by unfold maxLen;omega) (by omega) (by exact s.out.size) ?_)
  intro v1 u y C _;obtain⟨U,c5,rfl,_,_⟩:=zat y;have ae:=zhd (s.out.grown C s.out.size fun g z=>(v.out.lt g z).1);have am:Hid (u.ownsRow w.heap.size 51 17 (slice U (j+1) c5) (j+1) (zf1 (l.take (j+1)))):=zhd (by
   rw [ao.out];show u.ownsRow _ _ _ _ _ ((l.take j++[x]).flatMap fmC)
   rw [List.flatMap_append];exact y)
  have ab:Hid (Row u w.heap.size A4 (zaE (l.drop (j+1)))):=zhd (Y.out.below (al.out.grown C s.out.size fun g z=>(v.out.lt g z).1));clear y C;go_wp2;go_roundw
  case rel=>exact⟨j+1,A4,c1 - 1,U,c5,by omega,(by have:=I.out;rw [show n - (j+1)=m by omega]),rfl,zhd (by have:=ag.out;have:=I.out;omega),ab,am,ae⟩
  case measure=>simp [ztT]
end
section
open Go.RowKit Mem Be Word Frm Go.Maps
def zwe(F:Nat->Prop)(g:Nat)(S:St8)(q:Nat)(w:World)(e:Ending)(w':World):Prop:=
 ∃ F' A c q',e=.returned (slice A S.acks.length c)/\w'.ownsRow w.heap.size 51 17 (slice A S.acks.length c) S.acks.length (zf1 S.acks)/\(∀ a,A=some a->¬ F' a.block)/\(∀ k,F' k->F k\/w.heap.size<=k)/\q'<=q+1/\SvAt w' F' g (zc4 S) [] q'/\Touch F w w'
theorem zh4(F:Nat->Prop)(g q:Nat)(S:St8)(ps:List (EntP×Int))(hq:q<=4611686018427387904)(z:S.acks.length<=700000000000)(w:World)(h:SvAt w F g S ps q) :
 Calls Tryz.prog 31 #[pointer (some ⟨g,0,none⟩)] w (zwe F g S q w):=by
 have O:g<w.heap.size:=by
  obtain⟨K,FS,c⟩:=h.stAt;exact zc1 c
 have p:=zhd (zlY F g q S ps hq w h);have M:=zhd z;obtain⟨i,k⟩:∃ i,zwe F g S q w=i:=⟨_,rfl⟩;rw [k];have J:=zhd k;clear h hq z k;go_enter Tryz.func31,Tryz.ntmps31
 go_wp2_with fail
 refine p.out.mono ?_;rintro e w1 ⟨F1,B,c1,q1,rfl,l,G,r,v,c,ht⟩;have j:S.acks.length<=c1:=by
  obtain⟨Q,N,D,j,_⟩:=zat l;injection D with h1 h2 h3;omega
 have u:=zht B S.acks.length c1 S.acks rfl j M.out w1 (zcz l);obtain⟨n,d⟩:∃ n,S.acks.length=n:=⟨_,rfl⟩;have y:=zhd d;have s:Calls Tryz.prog 59 #[slice B n c1] w1 (FmP S.acks w1):=by rw [<-d];exact u
 have x:=zhd s;rw [d];have b:=zhd (And.intro r (And.intro v (And.intro c ht)));clear l G r v c ht j u s d p;go_wp2_with fail
 refine x.out.mono ?_;rintro e E ⟨t,c2,rfl,m,o⟩;have I:Hid (i (.returned (slice t n c2)) E):=zhd (by
  rw [<-J.out,<-y.out];exact⟨F1,t,c2,q1,rfl,zaz m b.out.2.2.2.size,(fun a C L=>by have:=(zaJ m C).1;have:=b.out.2.2.1.lt _ L;omega),b.out.1,b.out.2.1,b.out.2.2.1.below o,b.out.2.2.2.thenBelow o⟩)
 have A:=y.out;rw [A];clear A;clear m o x;go_wp2;exact I.out
end
section
open Go.RowKit Go.ChangeShapes Mem Be Word Frm Go.Maps
theorem zci.short{w:World}{F:Nat->Prop}{g q:Nat}{S:St8}(h:zci zoP w F g S q):zca S.rs:=by
 obtain⟨h0,FL,FS,lm,fm,TL,TF,A,c,h1,h2,hfl,h⟩:=h;exact h.lg.short
def zkx(a:AckP)(x:EntP):Prop:=a.s<x.s\/(x.s=a.s/\(a.u<x.u\/(x.u=a.u/\a.o<=x.o)))
theorem zkx.trans{a:AckP}{x y:EntP}(h:zkx a x)(h':GeE y x):zkx a y:=by unfold zkx GeE at *;omega
structure InvA (S:St8) (told:List AckP) (P:EntP->Prop):Prop where
 all:∀ p T,S.m<=p->p<=S.rs.length->zd3 (S.rs.take p)=some T->(∀ e∈T,P e)/\∀ a∈told,zkx a (ofT T a.k)
 acks:∀ a∈S.acks,zkx a (ofT S.N a.k)
theorem InvA.lasts{S:St8}{told:List AckP}{P:EntP->Prop}(h:InvA S told P)(ok:Ok8 S):(∀ e∈S.L,P e)/\∀ a∈told,zkx a (ofT S.L a.k):=h.all S.m S.L (Nat.le_refl _) ok.le ok.lasts
theorem InvA.newer{S:St8}{told:List AckP}{P:EntP->Prop}(h:InvA S told P)(ok:Ok8 S):(∀ e∈S.N,P e)/\∀ a∈told,zkx a (ofT S.N a.k):=
 h.all S.rs.length S.N ok.le (Nat.le_refl _) (by rw [List.take_length];exact ok.newer)
theorem InvA.more{S:St8}{told:List AckP}{P P':EntP->Prop}(h:InvA S told P)(hp:∀ e,P e->P' e):InvA S told P':=⟨fun p T h1 h2 h3=>⟨fun e he=>hp e ((h.all p T h1 h2 h3).1 e he),(h.all p T h1 h2 h3).2⟩,h.acks⟩
end
end Go.Proofs.YtahnjkkgojfdmaaGreatDoor
