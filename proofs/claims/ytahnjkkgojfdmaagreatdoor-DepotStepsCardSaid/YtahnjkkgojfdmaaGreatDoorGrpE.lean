import Derived.Test.YtahnjkkgojfdmaaGreatDoorGrpA
import Derived.Test.YtahnjkkgojfdmaaGreatDoorGrpD
set_option maxRecDepth 100000
set_option maxHeartbeats 16000000
set_option linter.unusedVariables false
namespace Go.Proofs.YtahnjkkgojfdmaaGreatDoor
open Go.Obj(cells)
open Go.IntKind(i64)
open Go.Value(int slice bool)
section
open Go.RowKit Mem Be
def zqK(B:Nat)(r:List UInt8×Nat×Int)(at_:Nat)(w:World)(e:Ending)(w':World):Prop:=
 ∃ A c,e=.returned (.tuple #[slice A r.1.length c,int i64 ((at_+r.2.1:Nat):Int),int i64 r.2.2])/\Row w B A (r.1.map zaa)/\r.1.length<=c/\w=w'
theorem zep{B:Nat}{r:List UInt8×Nat×Int}{k:Nat}{e:Int}(c:r=([],k,e)){at_:Nat}{a:Int}(b:a=((at_+k:Nat):Int))(w:World) :
 zqK B r at_ w (.returned (.tuple #[slice none 0 0,int i64 a,int i64 e])) w:=by
 subst c;exact⟨none,0,by rw [b];rfl,Row.nil _ _ _,Nat.le_refl _,rfl⟩
def ztQ(r:List (List UInt8)×Int)(w:World)(e:Ending)(w':World):Prop:=
 ∃ (A:Option Addr) (c:Nat) (rs:List zb3),e=.returned (.tuple #[slice A rs.length c,int i64 r.2])/\rs.map (fun x=>x.2.1)=r.1/\w'.ownsRow w.heap.size 27 1 (slice A rs.length c) rs.length (rs.map zbN)/\Below w.heap.size w w'/\
  (∀ x∈rs,Row w' w'.heap.size x.1 (x.2.1.map zaa))/\∀ x∈rs,x.2.1.length<=x.2.2
theorem znc{r:List (List UInt8)×Int}{rs:List zb3}{e:Int}(h:(rs.map (fun x=>x.2.1),e)=r){w w1:World}{v:Value}{n:Nat}{B:Nat}(k:w.heap.size<=B)(a:w1.ownsRow B 27 1 v n (rs.map zbN))(d:Below w.heap.size w w1)
 (i:∀ x∈rs,Row w1 w1.heap.size x.1 (x.2.1.map zaa)) (hc:∀ x∈rs,x.2.1.length<=x.2.2):ztQ r w (.returned (.tuple #[v,int i64 e])) w1:=by
 have b:n=rs.length:=by have:=a.1;simp at this;exact this.symm
 subst b;rcases a.2 with⟨c,b⟩|⟨g,cap,j,c,l,rest⟩
 ·have:rs=[]:=List.eq_nil_of_length_eq_zero b;subst this;subst h;subst c;exact⟨none,0,[],rfl,rfl,World.ownsRow_nil _ _ _ _,d,by simp,by simp⟩
 ·subst h;subst c;exact⟨_,cap,rs,rfl,rfl,⟨a.1,Or.inr ⟨g,cap,j,rfl,by omega,rest⟩⟩,d,i,hc⟩
set_option maxRecDepth 100000 in
theorem zhs(B c n at_:Nat)(A:Option Addr)(bs:List UInt8)(w:World)(h:Row w B A (bs.map zaa))(hn:n=bs.length)(hl:n<=1073741824)(hc:n<=c)(ha:at_<=n) :
 Calls Tryz.prog 134 #[slice A n c,int i64 at_] w (zqK B (za2 (bs.drop at_)) at_ w):=by
 have HR:=zhd h
 have HNN:=zhd hn
 have he:=zb4 65537 (bs.drop at_)
 have hen:=zeZ (bs.drop at_)
 obtain⟨x,k,e,hg⟩:∃ x k e,zbP (bs.drop at_)=(x,k,e):=⟨_,_,_,rfl⟩
 have hdef:za2 (bs.drop at_)=if ¬ e=0 then([],0,e) else if x<0\/65537<=x then([],0,11) else if((bs.drop at_).length:Int) - k<x then([],0,12) else(((bs.drop at_).drop k).take x.toNat,k+x.toNat,0):=by
  unfold za2;rw [hg]
 have hdl:(bs.drop at_).length=n - at_:=by rw [List.length_drop,hn]
 rw [hdl] at hdef
 rw [hg,hdl] at hen
 have HC:Hid (Calls Tryz.prog 161 #[slice A n c,int i64 at_] w (At3 (x,k,e) at_ w)):=zhd (by rw [<-hg];exact zfz B c n at_ A bs w h hn hl)
 simp only at hen
 clear h hg hn hdl he
 by_cases h0:e=0
 ·subst h0
  rw [if_neg (by simp)] at hdef
  obtain⟨b1,b2⟩:1<=k/\k<=n - at_:=by rcases hen with⟨_,h1,h2⟩|⟨_,_,h⟩<;>omega
  clear hen
  by_cases hx:x<0
  ·rw [if_pos (Or.inl hx)] at hdef
   have HX:=zhd hdef
   clear hdef
   go_enter Tryz.func134,Tryz.ntmps134
   go_wp2_with (go_at_call 161;refine HC.out.mono ?_;rintro e w' ⟨rfl,rfl⟩;unfold zcn)
   go_ret3
   exact zep HX.out (by omega) w
  by_cases hx2:65537<=x
  ·rw [if_pos (Or.inr hx2)] at hdef
   have HX:=zhd hdef
   have hx3:65536<x:=by omega
   clear hdef hx2
   go_enter Tryz.func134,Tryz.ntmps134
   go_wp2_with (go_at_call 161;refine HC.out.mono ?_;rintro e w' ⟨rfl,rfl⟩;unfold zcn)
   go_ret3
   exact zep HX.out (by omega) w
  have hx3:¬ 65536<x:=by omega
  have hx0:0<=x:=by omega
  rw [if_neg (by omega)] at hdef
  have hnl:(n:Int)<=1073741824:=by omega
  have hs:((n - at_:Nat):Int) - k=(n:Int) - (at_+k:Nat):=by omega
  rw [hs] at hdef
  by_cases h2:(n:Int) - (at_+k:Nat)<x
  ·rw [if_pos h2] at hdef
   have HX:=zhd hdef
   have h2':(n:Int) - ((at_:Int)+(k:Int))<x:=by omega
   clear hdef hx2 hs h2
   go_enter Tryz.func134,Tryz.ntmps134
   go_wp2_with (go_at_call 161;refine HC.out.mono ?_;rintro e w' ⟨rfl,rfl⟩;unfold zcn)
   go_ret3
   exact zep HX.out (by omega) w
  ·rw [if_neg h2] at hdef
   have hxx:=Int.toNat_of_nonneg hx0
   obtain⟨m,hm'⟩:∃ m,x.toNat=m:=⟨_,rfl⟩
   rw [hm'] at hxx hdef
   subst hxx
   obtain⟨tq,hto⟩:∃ tq,at_+k=tq:=⟨_,rfl⟩
   rw [hto] at h2
   obtain⟨ys,hys⟩:∃ ys,((bs.drop at_).drop k).take m=ys:=⟨_,rfl⟩
   rw [hys] at hdef
   have HX:=zhd hdef
   have hle:tq+m<=n:=by omega
   have hle2:(m:Int)<=(n:Int) - (tq:Int):=by omega
   have hcut:=fun W=>zcj (P:=Tryz.prog) (w:=W) 27 5 _ _ Tryz.underlying27 zaB A n c tq (tq+m) (by omega) (by omega)
   rw [Nat.add_sub_cancel_left,Int.natCast_add] at hcut
   have HY:Hid (Row w B (zc7 A tq c) (ys.map zaa)):=zhd (by
    rw [<-hys,List.drop_drop,hto]
    have:=zby (zde HR.out tq c (by rw [List.length_map,<-HNN.out];exact hc)) m
    rw [List.map_take,List.map_drop];exact this)
   have HL:Hid (ys.length=m):=zhd (by rw [<-hys,List.length_take,List.length_drop,List.length_drop,<-HNN.out];omega)
   have HTO:=zhd hto
   have HC2:Hid (Calls Tryz.prog 161 #[slice A n c,int i64 at_] w (fun e w'=>e=zcn (m:Int) (tq:Int) 0/\w=w')):=zhd (HC.out.mono fun _ _ ⟨h1,h2⟩=>⟨by rw [h1,<-hto],h2⟩)
   have hmx:(m:Int)<=65536:=by omega
   have HCP:Hid (m<=c - tq):=zhd (by omega)
   clear hdef hx2 hs h2 hx hx0 hx3 hm' hys hto HC hle
   go_enter Tryz.func134,Tryz.ntmps134
   go_wp2_with (go_at_call 161;refine HC2.out.mono ?_;rintro e w' ⟨rfl,rfl⟩;unfold zcn)
   go_ret3
   rw [HX.out]
   refine⟨zc7 A tq c,c - tq,?_,HY.out,(by rw [HL.out];exact HCP.out),rfl⟩
   have e1:((at_+(k+m):Nat):Int)=(tq:Int)+(m:Int):=by have:=HTO.out;omega
   simp only [HL.out,e1]
   rfl
 ·rw [if_pos h0] at hdef
  have HX:=zhd hdef
  have hne:(e != 0)=true:=by simpa using h0
  have hk0:k=0:=by omega
  subst hk0
  clear hdef hen h0
  go_enter Tryz.func134,Tryz.ntmps134
  go_wp2_with (go_at_call 161;refine HC.out.mono ?_;rintro e w' ⟨rfl,rfl⟩;unfold zcn)
  go_ret3
  exact zep HX.out (by omega) w
theorem zkq(B c n:Nat)(A:Option Addr)(bs:List UInt8)(O:n=bs.length)(w:World)(h:Row w B A (bs.map zaa))(L:B<=w.heap.size)(hl:n<=1000000)(hc:n<=c) :
 Calls Tryz.prog 104 #[slice A n c] w (ztQ (zcG za2 bs) w):=by
 obtain⟨i0,ah,ae,W,ak⟩:=info_parts ztL;have HR:=zhd h;have u:=zhd O;have HL:=zhd hl;have ag:=zhd hc;have al:(n:Int)<=1000000:=by omega
 clear h O hc;go_enter Tryz.func104,Tryz.ntmps104
 go_wp2;go_loopw [4,5] (fun v i wr=>∃ (k:Nat) (a:List zb3),k<=n/\a.length<=k/\i=int i64 k/\Hid (zkQ (a.map (fun x=>x.2.1)) (zcG za2 (bs.drop k))=zcG za2 bs)/\wr.ownsRow w.heap.size 27 1 v a.length (a.map zbN)/\Below w.heap.size w wr/\Hid (∀ x∈a,Row wr B x.1 (x.2.1.map zaa))/\Hid (∀ x∈a,x.2.1.length<=x.2.2)) (fun _ i _=>n - (intOf i).toNat)
 case atStart=>exact⟨0,[],by omega,by simp,rfl,zhd (by rw [List.drop_zero];exact(zhK zfg bs).symm),World.ownsRow_nil _ _ _ _,Below.refl _ _,zhd (by simp),zhd (by simp)⟩
 case round=>
  obtain⟨k,a,hk,M,rfl,F,s,R,U,Q⟩:=hrel;have y:=zhd s;have j:=zhd R;have I:=zhd M;clear s R M;by_cases am:k<n
  ·have z:(bs.drop k).length≠0:=by rw [List.length_drop,<-u.out];omega
   have q:=zdG (bs.drop k);have p:=zjI zfg (a.map (fun x=>x.2.1)) (bs.drop k) z;have t:=zmF (get:=za2) (a.map (fun x=>x.2.1)) (bs.drop k) z;rw [List.drop_drop] at p;obtain⟨d,m,r,o⟩:∃ x m r,za2 (bs.drop k)=(x,m,r):=⟨_,_,_,rfl⟩;have E:(bs.drop k).length=n - k:=by rw [List.length_drop,u.out]
   rw [o] at q p t;rw [E] at q;simp only at q p t;have S:Hid (∀ wr,Below w.heap.size w wr->Calls Tryz.prog 134 #[slice A n c,int i64 k] wr (zqK B (d,m,r) k wr)):=zhd (fun wr hb=>by
    rw [<-o];exact zhs B c n k A bs wr (HR.out.below (hb.mono L)) u.out (by have:=HL.out;omega) ag.out hk)
   by_cases C:r=0
   ·subst C;have aa:Hid (zkQ (a.map (fun x=>x.2.1)++[d]) (zcG za2 (bs.drop (k+m)))=zcG za2 bs):=zhd (by rw [<-p rfl];exact F.out);obtain⟨b1,b2⟩:1<=m/\m<=n - k:=by rcases q with⟨_,h1,h2⟩|⟨_,_,h⟩<;>omega
    clear p t q o z E;go_wp2_with fail
    refine(S.out _ j.out).mono ?_;rintro e w' ⟨l,c2,rfl,T,N,rfl⟩;have V:=zhd T;have aj:Hid (∀ x∈a++[(l,d,c2)],x.2.1.length<=x.2.2):=zhd (by
     intro x b;rcases List.mem_append.1 b with b|b
     ·exact Q.out x b
     ·simp only [List.mem_singleton] at b;subst b;exact N)
    clear T N;go_wp2_with (at_builtin;refine zan _ rfl _ _ 147 rfl w.heap.size 27 i0 (slice none 0 0) 24 Tryz.underlying147 ah ae W ak rfl _ _ _ rfl (y.out.alloc _) (wr.heap.size+1) _ 1 1 [slice l d.length c2] rfl rfl (zpP wr _ _) (zmU (l,d,c2)) (by have:=I.out;unfold maxLen;omega) (by have:=I.out;omega) (by have:=j.out.size;simp;omega) ?_)
    intro v' w1 s G _;have X:Hid (w1.ownsRow w.heap.size 27 1 v' (a++[(l,d,c2)]).length ((a++[(l,d,c2)]).map zbN)):=zhd (by rw [List.map_append,List.length_append];exact s);have af:Hid (Below w.heap.size w w1):=zhd ((j.out.alloc j.out.size _).grown G (by have:=j.out.size;simp;omega) fun g o=>(y.out.lt g o).1);have ai:Hid ((a++[(l,d,c2)]).length<=k+m):=zhd (by rw [List.length_append];have:=I.out;simp;omega);have Y:Hid (∀ x∈a++[(l,d,c2)],Row w1 B x.1 (x.2.1.map zaa)):=zhd (by
     have hs:=j.out.size;have keep:∀ D J,Row wr B D J->Row w1 B D J:=fun D J hr=>(hr.alloc (by omega) _).grownBy G (by simp;omega) fun g o=>by have:=(y.out.lt g o).1;omega
     intro x b;rcases List.mem_append.1 b with b|b
     ·exact keep _ _ (U.out x b)
     ·simp only [List.mem_singleton] at b;subst b;exact keep _ _ V.out)
    have Z:Hid (zkQ ((a++[(l,d,c2)]).map (fun x=>x.2.1)) (zcG za2 (bs.drop (k+m)))=zcG za2 bs):=zhd (by rw [List.map_append];exact aa.out);clear s G;go_wp2;go_roundw
    case rel=>exact⟨k+m,a++[(l,d,c2)],by omega,ai.out,by go_num,Z,X.out,af.out,Y,aj⟩
    case measure=>simp [intOf];omega
   ·have K:Hid (([],r)=zcG za2 bs):=zhd (by rw [<-F.out];exact(t C).symm);have hne:(r != 0)=true:=by simpa using C
    clear p t q o z E C;go_wp2_with (go_at_call 134;refine(S.out _ j.out).mono ?_;rintro e w' ⟨l,c2,rfl,_,_,rfl⟩)
    go_ret2
    exact znc (rs:=[]) K.out (Nat.le_refl _) (World.ownsRow_nil _ _ _ _) j.out (by simp) (by simp)
  ·have K:Hid ((a.map (fun x=>x.2.1),0)=zcG za2 bs):=zhd (by rw [<-F.out];exact(zmG _ _ (by rw [List.length_drop,<-u.out];omega)).symm);have ab:Hid (∀ x∈a,Row wr wr.heap.size x.1 (x.2.1.map zaa)):=zhd (fun x b=>(U.out x b).more (Nat.le_trans L j.out.size));go_wp2;go_ret2
   exact znc K.out (Nat.le_refl _) y.out j.out ab.out Q.out
end
section
open Go.RowKit Mem
def zaQ(w:World)(b:Nat)(u0 u1 u2 u3 u4 u5 u6 u7:Value):World:=
 (((((((w.setCell ⟨b,0,none⟩ u0).setCell ⟨b,1,none⟩ u1).setCell ⟨b,2,none⟩ u2).setCell ⟨b,3,none⟩ u3).setCell ⟨b,4,none⟩ u4).setCell ⟨b,5,none⟩ u5).setCell ⟨b,6,none⟩ u6).setCell ⟨b,7,none⟩ u7
theorem zay{c:World}{b:Nat}{T:TypeId}{r q m l g j i s:Value}(h:Blk c b T #[r,q,m,l,g,j,i,s])(u0 u1 u2 u3 u4 u5 u6 u7:Value) :
 Blk (zaQ c b u0 u1 u2 u3 u4 u5 u6 u7) b T #[u0,u1,u2,u3,u4,u5,u6,u7]/\
 (∀ k,k≠b->(zaQ c b u0 u1 u2 u3 u4 u5 u6 u7).heap[k]?=c.heap[k]?)/\
 (∀ w:World,Below w.heap.size w c->w.heap.size<=b->Below w.heap.size w (zaQ c b u0 u1 u2 u3 u4 u5 u6 u7))/\
 (zaQ c b u0 u1 u2 u3 u4 u5 u6 u7).heap.size=c.heap.size:=
 by
 unfold zaQ;refine⟨by simpa using (((((((h.set_ 0 u0).set_ 1 u1).set_ 2 u2).set_ 3 u3).set_ 4 u4).set_ 5 u5).set_ 6 u6).set_ 7 u7,
  fun k d=>(((((((Below.heap_setCell _ ⟨b,7,none⟩ u7 _ d).trans (Below.heap_setCell _ ⟨b,6,none⟩ u6 _ d)).trans (Below.heap_setCell _ ⟨b,5,none⟩ u5 _ d)).trans (Below.heap_setCell _ ⟨b,4,none⟩ u4 _ d)).trans (Below.heap_setCell _ ⟨b,3,none⟩ u3 _ d)).trans (Below.heap_setCell _ ⟨b,2,none⟩ u2 _ d)).trans (Below.heap_setCell _ ⟨b,1,none⟩ u1 _ d)).trans (Below.heap_setCell _ ⟨b,0,none⟩ u0 _ d),
  fun w o a=>(((((((o.setCell (p:=⟨b,0,none⟩) a _).setCell (p:=⟨b,1,none⟩) a _).setCell (p:=⟨b,2,none⟩) a _).setCell (p:=⟨b,3,none⟩) a _).setCell (p:=⟨b,4,none⟩) a _).setCell (p:=⟨b,5,none⟩) a _).setCell (p:=⟨b,6,none⟩) a _).setCell (p:=⟨b,7,none⟩) a _,
  by simp [World.setCell]⟩
end
section
open Go.RowKit Go.ChangeShapes Mem Be Word Frm Go.Maps
def zqL(F:Nat->Prop)(X:List UInt8)(w:World)(e:Ending)(w':World):Prop:=
 (∃ (us:List EV) (A:Option Addr) (c:Nat) (AL:Option Addr) (cL:Nat) (R:Option Addr) (cR:Nat) (vs:List za3),zd3 (zar X).1=some (us.map Prod.fst)/\vs.map za1=(zar X).1/\
  e=.returned (.tuple #[.agg #[slice AL (zar X).2.1 cL,slice none 0 0,int i64 0,slice R vs.length cR,int i64 (vs.length:Int),slice A us.length c,slice A us.length c,slice none 0 0],int i64 ((X.length:Int) - ((zar X).2.1:Int)),int i64 0])/\
  us.length<=c/\EnN F w' A us/\RefL w' F AL cL none 0 R cR (X.take (zar X).2.1) [] vs/\Below w.heap.size w w')\/
 (zd3 (zar X).1=none/\e=.returned (.tuple #[.agg #[slice none 0 0,slice none 0 0,int i64 0,slice none 0 0,int i64 0,slice none 0 0,slice none 0 0,slice none 0 0],int i64 0,int i64 11])/\Below w.heap.size w w')
theorem zqM(F:Nat->Prop)(w:World):EnN F w none []:=⟨Or.inl rfl,fun x h=>by cases h⟩
theorem zai{F:Nat->Prop}{w:World}{b:Nat}(u0 u1 u2 u3 u4 u5 u6 u7:Value):Touch (zam F b) w (zaQ w b u0 u1 u2 u3 u4 u5 u6 u7):=
 ((((((((Touch.refl (zam F b) w).set_ (p:=⟨b,0,none⟩) (Or.inl (Or.inr rfl)) _).set_ (p:=⟨b,1,none⟩) (Or.inl (Or.inr rfl)) _).set_ (p:=⟨b,2,none⟩) (Or.inl (Or.inr rfl)) _).set_ (p:=⟨b,3,none⟩) (Or.inl (Or.inr rfl)) _).set_ (p:=⟨b,4,none⟩) (Or.inl (Or.inr rfl)) _).set_ (p:=⟨b,5,none⟩) (Or.inl (Or.inr rfl)) _).set_ (p:=⟨b,6,none⟩) (Or.inl (Or.inr rfl)) _).set_ (p:=⟨b,7,none⟩) (Or.inl (Or.inr rfl)) _
theorem zlP(F:Nat->Prop)(n c0:Nat)(A0:Option Addr)(X:List UInt8)(hn:n=X.length)(hc:n<=c0)(hl:n<=4194304)(w:World)(hF:∀ k,F k->k<w.heap.size)(h:Row w w.heap.size A0 (X.map zaa)) :
 Calls Tryz.prog 70 #[slice A0 n c0] w (zqL F X w):=by
 obtain⟨w0,bm⟩:∃ w0,w.alloc (cells #[slice none 0 0,slice none 0 0,int i64 0,slice none 0 0,int i64 0,slice none 0 0,slice none 0 0,slice none 0 0] 36)=w0:=⟨_,rfl⟩;have bj:Below w.heap.size w w0:=by rw [<-bm];exact zbl
 have bH:Blk w0 w.heap.size 36 #[slice none 0 0,slice none 0 0,int i64 0,slice none 0 0,int i64 0,slice none 0 0,slice none 0 0,slice none 0 0]:=by rw [<-bm];exact Blk.new _ _ _
 have aD:Hid (∀ k,zam F w.heap.size k->k<w0.heap.size):=zhd fun k J=>by
  have h1:=bH.lt;rcases J with J|J
  ·have:=hF k J;omega
  ·omega
 clear hF;have S:=zhd bj;have O:=zhd bH;have HN:=zhd hn;have cE:=zhd bm;have cj:=zhd (zgZ n c0 A0 X hn hc hl w0 ((h.below bj).more bj.size));have cM:=zfI X;have cZ:(n:Int)<=4194304:=by omega
 obtain⟨Q,hQ⟩:∃ Q,zd3 (zar X).1=Q:=⟨_,rfl⟩;have HQ:=zhd hQ;clear h bj bH bm hn;go_enter Tryz.func70,Tryz.ntmps70
 go_wp2_with fail
 rw [cE.out];refine cj.out.mono ?_;rintro e w2 ⟨AL,cL,g,R,cR,bl,rfl,bk,aU,bn,bv⟩;obtain⟨s,hs⟩:∃ s,(zar X).2.1=s:=⟨_,rfl⟩;have HS:=zhd hs;have bu:=zfH X;have bT:g.length<=4194304:=by
  have h1:=zd5 (rs:=g.map za1) (M:=n) (by rw [bl,zdt,List.length_take];have:=HN.out;omega);rw [List.length_map] at h1;omega
 rw [hs] at bk cM ⊢;simp only;rw [<-bl] at hQ bu;have bW:=zhd bT;have bI:Hid (∀ r∈g,r.2.2.1.length<=65536):=zhd fun r hr=>bu _ (List.mem_map_of_mem (f:=za1) hr);obtain⟨w3,bi⟩:∃ w3,w2.alloc (cells #[slice AL s cL,slice none 0 0,int i64 0,slice R g.length cR,int i64 (g.length:Int)] 32)=w3:=⟨_,rfl⟩;have ai:Below w2.heap.size w2 w3:=by rw [<-bi];exact zbl
 have bz:Blk w3 w2.heap.size 32 #[slice AL s cL,slice none 0 0,int i64 0,slice R g.length cR,int i64 (g.length:Int)]:=by rw [<-bi];exact Blk.new _ _ _
 obtain⟨b5,bK⟩:∃ b5,w2.heap.size=b5:=⟨_,rfl⟩;have aO:=zhd bK;have cr:g.length<=cR:=by
  obtain⟨A',c',he,h2,_⟩:=zat aU;injection he with _ _ he;omega
 have cf:s<=cL:=by
  obtain⟨A',c',he,h2,_⟩:=zat bk;injection he with _ _ he;omega
 have bQ:∀ r∈g,r.2.2.1.length<=r.2.2.2:=fun r hr=>by
  obtain⟨A',c',he,h2,_⟩:=zat (bn r hr);injection he with _ _ he;omega
 have cn:RefL w2 (zam F w.heap.size) AL cL none 0 R cR (X.take s) [] g:=by
  have cS:(X.take s).length=s:=by rw [List.length_take];omega
  refine⟨by rw [cS];exact cf,Nat.le_refl _,cr,zaF aD.out bk,Or.inl rfl,zaF aD.out aU,fun v hv=>zaF aD.out (bn v hv)⟩
 have cz:=zhd (zlO AL none R s cL 0 0 g.length cR g.length 0 g rfl (by omega) w3 (((zcz aU).below ai).more ai.size));have ch:=zhd fun(W:World) (hb:Below w3.heap.size w3 W)=>(((zcz aU).below (ai.trans (hb.mono ai.size))).more (ai.trans (hb.mono ai.size)).size);have ci:=zhd fun(W:World) (hb:Below w3.heap.size w3 W) (r:za3) (hr:r∈g)=>And.intro ((((Row.of_own (bn r hr)).below (ai.trans (hb.mono ai.size))).more (ai.trans (hb.mono ai.size)).size)) (bQ r hr);have bU:=zhd fun(W:World) (hb:Below w3.heap.size w3 W)=>cn.below (ai.trans (hb.mono ai.size));have cN:=zhd bi;have cx:=zhd (bv.trans (ai.mono bv.size));rw [bK] at bz;have bO:=zhd bz;have cb:=zhd bl;have db:(g.length:Int)<=4194304:=by omega
 have cH:=zhd hQ;clear bl bk aU bn bv hs bu bi ai bz bK bQ cj bT hQ cn cr cf;go_wp2_with fail
 rw [cN.out];rw [aO.out];refine cz.out.mono ?_;rintro e w4 ⟨⟨p,hp,rfl⟩,aB⟩;have bS:p=zbJ (g.map za1):=zfm hp (zd7 _);have HP:Hid (zbJ (g.map za1)=p):=zhd bS.symm;have cl:p<=g.length:=by have:=zgo (g.map za1);rw [List.length_map] at this;omega
 have cu:=zhd cl;have bp:=zhd fun(W:World) (hb:Below w4.heap.size w4 W)=>ch.out W (aB.trans (hb.mono aB.size));have bD:=zhd fun(W:World) (hb:Below w4.heap.size w4 W)=>ci.out W (aB.trans (hb.mono aB.size));have cd:=zhd fun(W:World) (hb:Below w4.heap.size w4 W)=>bU.out W (aB.trans (hb.mono aB.size));have bh:=zhd (bO.out.below aB bO.out.lt);have bC:=zhd (cx.out.trans (aB.mono cx.out.size));have ao:=cH.out;unfold zd3 at ao;rw [HP.out] at ao;clear hp bS cl aB ch ci bU cz;rcases p with _|q
 ·have aX:(((0:Nat):Int) - 1)=-1:=rfl;rw [aX];have bA:zbu (g.map za1) []=Q:=by
   rw [<-ao];simp [zdL,zlx,zcG,zkP,zcb]
  have cW:=zhd bA;clear ao bA aX;go_wp2_with fail
  go_loopw [8,14] (fun l i wr=>∃ (j:Nat) (m:List EV) (A:Option Addr) (c:Nat),j<=g.length/\l=slice A m.length c/\i=int i64 j/\Hid (m.length<=c/\EnN (zam F w.heap.size) wr A m/\OkT (m.map Prod.fst)/\m.length<=70000+j)/\Hid (zbu ((g.map za1).drop j) (m.map Prod.fst)=Q)/\Hid (Below w0.heap.size w0 wr)/\Hid (Below w4.heap.size w4 wr)) (fun _ i _=>g.length - (intOf i).toNat)
  case atStart=>exact⟨0,[],none,0,Nat.zero_le _,rfl,rfl,zhd ⟨Nat.le_refl _,zqM _ _,ziJ,by simp⟩,zhd (by rw [List.drop_zero];exact cW.out),bC,zhd (Below.refl _ _)⟩
  case round=>
   obtain⟨j,m,I,c8,hj,rfl,rfl,G,aJ,t,aa⟩:=hrel;have az:=zhd (bh.out.below aa.out bh.out.lt);have b0:=az.out.cell 0;have b1:=az.out.cell 1;have b2:=az.out.cell 2;have b3:=az.out.cell 3;have b4:=az.out.cell 4;by_cases am:j<g.length
   ·obtain⟨rb,o1,hR,-,hc⟩:=zcX (bp.out wr aa.out) (by omega);rw [hR] at b3;clear hR;obtain⟨k0,k1⟩:=hc j am;have L:=bD.out wr aa.out g[j] (List.getElem_mem am);have ax:=bI.out g[j] (List.getElem_mem am);obtain⟨⟨kd,A2,y,c2⟩,hy⟩:∃ y,g[j]=y:=⟨_,rfl⟩;rw [hy] at k0 k1 L ax;simp only at k0 k1 L ax;have B:=aJ.out;rw [zeT (by simpa using am)] at B;have aY:(g.map za1)[j]'(by simpa using am)=(kd,y):=by rw [List.getElem_map,hy];rfl
    rw [aY] at B;simp only at B;obtain⟨⟨x,er⟩,ab⟩:∃ z,zbT y=z:=⟨_,rfl⟩;have aA:okC (kd,y)↔kd=1/\er=0/\x.s≠0:=by unfold okC;rw [ab]
    have ay:=zhd (zeJ y.length c2 A2 y rfl (by omega) L.2 wr L.1);rw [<-ze7,ab] at ay;rw [ab] at B;simp only at B;have ah:=zhd ab;have cq:(0:Int)<=(j:Int):=by omega
    have bf:(j:Int)<(g.length:Int):=by omega
    clear hc aY L hy ab ax;go_wp2_with fail
    refine ay.out.mono ?_;rintro e w6 ⟨A3,c3,rfl,ag,aw⟩;simp only [zaT] at ag ⊢;obtain⟨D,al⟩:∃ D,w6.alloc (cells #[.string ⟨x.k.toArray⟩,int i64 x.s,int i64 x.u,int i64 x.o,bool x.has,slice A3 x.v.length c3] 46)=D:=⟨_,rfl⟩;have an:Below wr.heap.size wr D:=by rw [<-al];exact aw.alloc aw.size _
    have K:Blk D w6.heap.size 46 #[.string ⟨x.k.toArray⟩,int i64 x.s,int i64 x.u,int i64 x.o,bool x.has,slice A3 x.v.length c3]:=by rw [<-al];exact Blk.new _ _ _
    have aL:er=0->zi2 (zam F w.heap.size) D (x,A3,c3):=fun N=>zi2.below (w:=w6) ⟨zaF (fun k J=>Nat.lt_of_lt_of_le (aD.out k J) t.out.size) ag,by have:=(zah (zcy (b:=y) (by rw [ah.out];exact N)).1).2.2.1;rw [ah.out] at this;simp only at this ⊢;omega,(zbR ag).1⟩ (by rw [<-al];exact zbl);have aP:=zhd aL;have E:=zhd an;have d0:=K.cell 0;have d1:=K.cell 1;have d2:=K.cell 2;have d3:=K.cell 3;have d4:=K.cell 4;have d5:=K.cell 5;have bM:D.cell? ⟨rb,o1+j*2,none⟩=some (int .u8 (kd.toNat:Int)):=(an.cell (p:=⟨rb,o1+j*2,none⟩) (zaq k0)).trans k0;have bw:D.cell? ⟨b5,3,none⟩=some (slice (some ⟨rb,o1,none⟩) g.length cR):=(an.cell (p:=⟨b5,3,none⟩) (zaq b3)).trans b3;clear ag aw an K aL ay k0 k1 b0 b1 b2 b3 b4;by_cases N:er=0
    ·subst N;have e0:(((0:Int) != 0))=false:=rfl;by_cases au:kd=1
     ·have bq:((kd.toNat:Int) != 1)=false:=by subst au;rfl
      cases hsn:(x.s==0)
      ·have aE:x.s≠0:=by simpa using hsn
       rw [if_pos (aA.2 ⟨au,rfl,aE⟩)] at B;have bd:=zhd B;have aH:OkT (zhk (m.map Prod.fst) x):=zgJ G.out.2.2.1 (by have:=(zcy (b:=y) (by rw [ah.out])).1;rw [ah.out] at this;exact this);have aS:=zhd aH;have aj:=zeU (zam F w.heap.size) m.length c8 I m (x,A3,c3) rfl G.out.1 (by have:=G.out.2.2.2;have:=bW.out;omega) D (fun k J=>Nat.lt_of_lt_of_le (aD.out k J) (t.out.trans (E.out.mono t.out.size)).size) (G.out.2.1.below E.out) G.out.2.2.1.srt (aP.out rfl);unfold zaT at aj;have aV:=zhd aj;clear au aE B aA aH aj;go_wp2_with fail
       refine aV.out.mono ?_;rintro e w8 ⟨T,A9,c9,ak,rfl,aG,aK,aI⟩;have aT:Hid (T.length<=c9/\EnN (zam F w.heap.size) w8 A9 T/\OkT (T.map Prod.fst)/\T.length<=70000+(j+1)):=zhd ⟨aG,aK,by rw [ak];exact aS.out,by
        have h1:=congrArg List.length ak;have h2:=zeO (m.map Prod.fst) x;have h3:=G.out.2.2.2;simp only [List.length_map] at h1 h2;omega⟩
       have aR:Hid (zbu ((g.map za1).drop (j+1)) (T.map Prod.fst)=Q):=zhd (by rw [ak];exact bd.out);have aq:Below wr.heap.size wr w8:=E.out.trans (aI.mono E.out.size);have aQ:=zhd (t.out.trans (aq.mono t.out.size));have bg:=zhd (aa.out.trans (aq.mono aa.out.size));clear ak aG aK aI aq d0 d1 d2 d3 d4 d5 bM bw al;go_wp2;go_roundw
       case rel=>exact⟨j+1,T,A9,c9,by omega,rfl,by go_num,aT,aR,aQ,bg⟩
       case measure=>simp [intOf];omega
      ·have aE:¬ (x.s≠0):=by simpa using hsn
       have a:=zhd (O.out.below (t.out.trans (E.out.mono t.out.size)) O.out.lt);have d:=zhd (zay a.out (slice none 0 0) (slice none 0 0) (int i64 0) (slice none 0 0) (int i64 0) (slice none 0 0) (slice none 0 0) (slice none 0 0));have ae:=zhd ((t.out.trans (E.out.mono t.out.size)));have af:Hid (Q=none):=zhd (by rw [<-B,if_neg (fun h=>aE (aA.1 h).2.2)]);have HZ:w.heap.size<D.heap.size:=a.out.lt;have r0:=a.out.cell 0;have z0:=a.out.frozen 0;have r1:=a.out.cell 1;have z1:=a.out.frozen 1;have r2:=a.out.cell 2;have z2:=a.out.frozen 2;have r3:=a.out.cell 3;have z3:=a.out.frozen 3;have r4:=a.out.cell 4;have z4:=a.out.frozen 4;have r5:=a.out.cell 5;have z5:=a.out.frozen 5;have r6:=a.out.cell 6;have z6:=a.out.frozen 6;have r7:=a.out.cell 7;have z7:=a.out.frozen 7;go_wp2;obtain⟨W8,C⟩:∃ W,zaQ D w.heap.size (slice none 0 0) (slice none 0 0) (int i64 0) (slice none 0 0) (int i64 0) (slice none 0 0) (slice none 0 0) (slice none 0 0)=W:=⟨_,rfl⟩;rw [C] at d;unfold zaQ at C;rw [C];have U:=d.out.1.cell 0;have g1:=d.out.1.cell 1;have g2:=d.out.1.cell 2;have Z:=d.out.1.cell 3;have g4:=d.out.1.cell 4;have V:=d.out.1.cell 5;have Y:=d.out.1.cell 6;have g7:=d.out.1.cell 7
       (try simp only [Exit.inBlock,Exit.then])
       refine bodyPost_ret (v:=.tuple #[.agg #[slice none 0 0,slice none 0 0,int i64 0,slice none 0 0,int i64 0,slice none 0 0,slice none 0 0,slice none 0 0],int i64 0,int i64 11]) (by simp [results,Tryz.results70,go_sem,U,g1,g2,Z,g4,V,Y,g7]) rfl ?_;exact Or.inr ⟨HQ.out.trans af.out,rfl,d.out.2.2.1 _ (S.out.trans (ae.out.mono S.out.size)) (Nat.le_refl _)⟩
     ·have bq:((kd.toNat:Int) != 1)=true:=by
       simp only [bne_iff_ne,ne_eq];intro h;exact au (by apply UInt8.toNat_inj.1;have:(1:UInt8).toNat=1:=rfl;omega)
      have a:=zhd (O.out.below (t.out.trans (E.out.mono t.out.size)) O.out.lt);have d:=zhd (zay a.out (slice none 0 0) (slice none 0 0) (int i64 0) (slice none 0 0) (int i64 0) (slice none 0 0) (slice none 0 0) (slice none 0 0));have ae:=zhd ((t.out.trans (E.out.mono t.out.size)));have af:Hid (Q=none):=zhd (by rw [<-B,if_neg (fun h=>au (aA.1 h).1)]);have HZ:w.heap.size<D.heap.size:=a.out.lt;have r0:=a.out.cell 0;have z0:=a.out.frozen 0;have r1:=a.out.cell 1;have z1:=a.out.frozen 1;have r2:=a.out.cell 2;have z2:=a.out.frozen 2;have r3:=a.out.cell 3;have z3:=a.out.frozen 3;have r4:=a.out.cell 4;have z4:=a.out.frozen 4;have r5:=a.out.cell 5;have z5:=a.out.frozen 5;have r6:=a.out.cell 6;have z6:=a.out.frozen 6;have r7:=a.out.cell 7;have z7:=a.out.frozen 7;go_wp2;obtain⟨W8,C⟩:∃ W,zaQ D w.heap.size (slice none 0 0) (slice none 0 0) (int i64 0) (slice none 0 0) (int i64 0) (slice none 0 0) (slice none 0 0) (slice none 0 0)=W:=⟨_,rfl⟩;rw [C] at d;unfold zaQ at C;rw [C];have U:=d.out.1.cell 0;have g1:=d.out.1.cell 1;have g2:=d.out.1.cell 2;have Z:=d.out.1.cell 3;have g4:=d.out.1.cell 4;have V:=d.out.1.cell 5;have Y:=d.out.1.cell 6;have g7:=d.out.1.cell 7
      (try simp only [Exit.inBlock,Exit.then])
      refine bodyPost_ret (v:=.tuple #[.agg #[slice none 0 0,slice none 0 0,int i64 0,slice none 0 0,int i64 0,slice none 0 0,slice none 0 0,slice none 0 0],int i64 0,int i64 11]) (by simp [results,Tryz.results70,go_sem,U,g1,g2,Z,g4,V,Y,g7]) rfl ?_;exact Or.inr ⟨HQ.out.trans af.out,rfl,d.out.2.2.1 _ (S.out.trans (ae.out.mono S.out.size)) (Nat.le_refl _)⟩
    ·have e0:(er != 0)=true:=by simpa using N
     have a:=zhd (O.out.below (t.out.trans (E.out.mono t.out.size)) O.out.lt);have d:=zhd (zay a.out (slice none 0 0) (slice none 0 0) (int i64 0) (slice none 0 0) (int i64 0) (slice none 0 0) (slice none 0 0) (slice none 0 0));have ae:=zhd ((t.out.trans (E.out.mono t.out.size)));have af:Hid (Q=none):=zhd (by rw [<-B,if_neg (fun h=>N (aA.1 h).2.1)]);have HZ:w.heap.size<D.heap.size:=a.out.lt;have r0:=a.out.cell 0;have z0:=a.out.frozen 0;have r1:=a.out.cell 1;have z1:=a.out.frozen 1;have r2:=a.out.cell 2;have z2:=a.out.frozen 2;have r3:=a.out.cell 3;have z3:=a.out.frozen 3;have r4:=a.out.cell 4;have z4:=a.out.frozen 4;have r5:=a.out.cell 5;have z5:=a.out.frozen 5;have r6:=a.out.cell 6;have z6:=a.out.frozen 6;have r7:=a.out.cell 7;have z7:=a.out.frozen 7;go_wp2;obtain⟨W8,C⟩:∃ W,zaQ D w.heap.size (slice none 0 0) (slice none 0 0) (int i64 0) (slice none 0 0) (int i64 0) (slice none 0 0) (slice none 0 0) (slice none 0 0)=W:=⟨_,rfl⟩;rw [C] at d;unfold zaQ at C;rw [C];have U:=d.out.1.cell 0;have g1:=d.out.1.cell 1;have g2:=d.out.1.cell 2;have Z:=d.out.1.cell 3;have g4:=d.out.1.cell 4;have V:=d.out.1.cell 5;have Y:=d.out.1.cell 6;have g7:=d.out.1.cell 7
     (try simp only [Exit.inBlock,Exit.then])
     refine bodyPost_ret (v:=.tuple #[.agg #[slice none 0 0,slice none 0 0,int i64 0,slice none 0 0,int i64 0,slice none 0 0,slice none 0 0,slice none 0 0],int i64 0,int i64 11]) (by simp [results,Tryz.results70,go_sem,U,g1,g2,Z,g4,V,Y,g7]) rfl ?_;exact Or.inr ⟨HQ.out.trans af.out,rfl,d.out.2.2.1 _ (S.out.trans (ae.out.mono S.out.size)) (Nat.le_refl _)⟩
   ·obtain rfl:j=g.length:=by omega
    have B:=aJ.out;rw [List.drop_of_length_le (by rw [List.length_map];exact Nat.le_refl _)] at B;have aZ:Hid (Q=some (m.map Prod.fst)):=zhd B.symm;have bf:¬ (g.length:Int)<(g.length:Int):=by omega
    have a:=zhd (O.out.below t.out O.out.lt);have d:=zhd (zay a.out (slice AL s cL) (slice none 0 0) (int i64 0) (slice R g.length cR) (int i64 (g.length:Int)) (slice I m.length c8) (slice I m.length c8) (slice none 0 0));have HZ:w.heap.size<wr.heap.size:=a.out.lt;have r0:=a.out.cell 0;have z0:=a.out.frozen 0;have r1:=a.out.cell 1;have z1:=a.out.frozen 1;have r2:=a.out.cell 2;have z2:=a.out.frozen 2;have r3:=a.out.cell 3;have z3:=a.out.frozen 3;have r4:=a.out.cell 4;have z4:=a.out.frozen 4;have r5:=a.out.cell 5;have z5:=a.out.frozen 5;have r6:=a.out.cell 6;have z6:=a.out.frozen 6;have r7:=a.out.cell 7;have z7:=a.out.frozen 7;clear B;go_wp2;have aM:Hid (Touch (zam F w.heap.size) wr (zaQ wr w.heap.size (slice AL s cL) (slice none 0 0) (int i64 0) (slice R g.length cR) (int i64 (g.length:Int)) (slice I m.length c8) (slice I m.length c8) (slice none 0 0))):=zhd (zai _ _ _ _ _ _ _ _);obtain⟨W8,C⟩:∃ W,zaQ wr w.heap.size (slice AL s cL) (slice none 0 0) (int i64 0) (slice R g.length cR) (int i64 (g.length:Int)) (slice I m.length c8) (slice I m.length c8) (slice none 0 0)=W:=⟨_,rfl⟩;rw [C] at d aM;unfold zaQ at C;rw [C];have U:=d.out.1.cell 0;have g1:=d.out.1.cell 1;have g2:=d.out.1.cell 2;have Z:=d.out.1.cell 3;have g4:=d.out.1.cell 4;have V:=d.out.1.cell 5;have Y:=d.out.1.cell 6;have g7:=d.out.1.cell 7
    (try simp only [Exit.inBlock,Exit.then])
    refine bodyPost_ret (v:=.tuple #[.agg #[slice AL s cL,slice none 0 0,int i64 0,slice R g.length cR,int i64 (g.length:Int),slice I m.length c8,slice I m.length c8,slice none 0 0],int i64 ((X.length:Int) - (s:Int)),int i64 0]) (by simp [results,Tryz.results70,go_sem,U,g1,g2,Z,g4,V,Y,g7]) rfl ?_;refine Or.inl ⟨m,I,c8,AL,cL,R,cR,g,HQ.out.trans aZ.out,cb.out,?_,G.out.1,G.out.2.1.to (fun k J=>Or.inl (Or.inl J)) aM.out,?_,d.out.2.2.1 _ (S.out.trans (t.out.mono S.out.size)) (Nat.le_refl _)⟩
    ·rw [HS.out]
    ·rw [HS.out];exact(cd.out wr aa.out).step aM.out (fun k J=>Or.inl (Or.inl J))
 ·have aX:(((q+1:Nat):Int) - 1)=(q:Int):=by omega
  rw [aX];have bo:q<g.length:=by have:=cu.out;omega
  obtain⟨rb,o1,hR,-,hc⟩:=zcX (bp.out w4 (Below.refl _ _)) (by omega);obtain⟨k0,k1⟩:=hc q bo;have L:=bD.out w4 (Below.refl _ _) g[q] (List.getElem_mem bo);have ax:=bI.out g[q] (List.getElem_mem bo);have cg:zdL (g.map za1) (q+1)=g[q].2.2.1:=by
   simp only [zdL];rw [List.getElem?_map,List.getElem?_eq_getElem bo];rfl
  rw [cg] at ao;obtain⟨⟨kd,A2,y,c2⟩,hy⟩:∃ y,g[q]=y:=⟨_,rfl⟩;rw [hy] at k0 k1 L ax ao;simp only at k0 k1 L ax ao;obtain⟨⟨l,er⟩,aN⟩:∃ r,zcG za2 y=r:=⟨_,rfl⟩;unfold zlx at ao;rw [aN] at ao;simp only at ao;have ce:l.length<=65536:=by
   have:=zfh za2 y.length y;unfold zcG at aN;rw [aN] at this;simp only at this;omega
  have aj:∀ x∈l,x.length<=65536:=fun x hx=>ziZ y.length y x (by unfold zcG at aN;rw [aN];exact hx);have bx:=zkq w4.heap.size c2 y.length A2 y rfl w4 L.1 (Nat.le_refl _) (by omega) L.2;rw [aN] at bx;have bV:=zhd bx;have cP:=zhd (bh.out);have b3:=cP.out.cell 3;rw [hR] at b3;clear hR;have bA:(0:Int)<=(q:Int):=by omega
  have da:(q:Int)<(g.length:Int):=by omega
  have cJ:=zhd aj;have cO:=zhd ce;have bP:=zhd ao;clear aX hc L ax cg hy aN ce aj bx ao;go_wp2_with fail
  refine bV.out.mono ?_;rintro e w5 ⟨A6,c6,rows,rfl,aW,co,bG,bZ,bY⟩;simp only at aW ⊢;have cI:=zhd bG;have bJ:=zhd (bC.out.trans (bG.mono bC.out.size));have cw:rows.length<=65536:=by have h1:=congrArg List.length aW;rw [List.length_map] at h1;have:=cO.out;omega
  have cm:=zhd cw;have dc:(rows.length:Int)<=65536:=by omega
  have cY:=zhd fun(W:World) (hb:Below w5.heap.size w5 W)=>(((Row.of_own co).below hb).more hb.size);have HX:=zhd fun(W:World) (hb:Below w5.heap.size w5 W) (x:zb3) (hx:x∈rows)=>And.intro (((bZ x hx).below hb).more hb.size) (And.intro (bY x hx) (cJ.out x.2.1 (by rw [<-aW];exact List.mem_map_of_mem (f:=fun x:zb3=>x.2.1) hx)));have ca:=zhd aW;clear aW co bG bZ bY cw bV k0 k1 b3;by_cases N:er=0
  ·subst N;have e0:(((0:Int) != 0))=false:=rfl;obtain⟨Q1,br⟩:∃ Q1,zcb l []=Q1:=⟨_,rfl⟩;have cG:Hid (zcb l ((([]:List EV)).map Prod.fst)=Q1):=zhd br;have ck:Hid (Q1.bind (zbu ((g.map za1).drop (q+1)))=Q):=zhd (by have:=bP.out;rw [if_pos rfl,br] at this;exact this);clear br;go_wp2_with fail
   go_loopw [8,11] (fun l8 i wr=>∃ (j:Nat) (m:List EV) (A:Option Addr) (c:Nat),j<=rows.length/\l8=slice A m.length c/\i=int i64 j/\Hid (m.length<=c/\EnN (zam F w.heap.size) wr A m/\OkT (m.map Prod.fst)/\m.length<=j)/\Hid (zcb (l.drop j) (m.map Prod.fst)=Q1)/\Hid (Below w0.heap.size w0 wr)/\Hid (Below w4.heap.size w4 wr)/\Hid (Below w5.heap.size w5 wr)) (fun _ i _=>rows.length - (intOf i).toNat)
   case atStart=>exact⟨0,[],none,0,Nat.zero_le _,rfl,rfl,zhd ⟨Nat.le_refl _,zqM _ _,ziJ,by simp⟩,zhd (by rw [List.drop_zero];exact cG.out),bJ,cI,zhd (Below.refl _ _)⟩
   case round=>
    obtain⟨j,m,I,c8,hj,rfl,rfl,G,aJ,t,aa,aO⟩:=hrel;have ct:l.length=rows.length:=by have h1:=congrArg List.length ca.out;rw [List.length_map] at h1;exact h1.symm
    by_cases am:j<rows.length
    ·obtain⟨rb,o1,rfl,-,hc⟩:=(cY.out wr aO.out).open_ (by simp;omega);have k0:=hc j (by simpa using am);rw [List.getElem_map] at k0;have L:=HX.out wr aO.out rows[j] (List.getElem_mem am);have cD:l[j]'(by omega)=rows[j].2.1:=by have h1:=ca.out;subst h1;rw [List.getElem_map]
     have B:=aJ.out;rw [zgW (by omega),cD] at B;obtain⟨⟨A2,y,c2⟩,hy⟩:∃ y,rows[j]=y:=⟨_,rfl⟩;rw [hy] at k0 L B;unfold zbN at k0;simp only at k0 L B;obtain⟨⟨x,er⟩,ab⟩:∃ z,zbT y=z:=⟨_,rfl⟩;have ay:=zhd (zeJ y.length c2 A2 y rfl (by omega) L.2.1 wr L.1);rw [<-ze7,ab] at ay;rw [ab] at B;simp only at B;have ah:=zhd ab;have cq:(0:Int)<=(j:Int):=by omega
     have bf:(j:Int)<(rows.length:Int):=by omega
     clear hc L hy ab cD ct;go_wp2_with fail
     refine ay.out.mono ?_;rintro e w6 ⟨A3,c3,rfl,ag,aw⟩;simp only [zaT] at ag ⊢;obtain⟨D,al⟩:∃ D,w6.alloc (cells #[.string ⟨x.k.toArray⟩,int i64 x.s,int i64 x.u,int i64 x.o,bool x.has,slice A3 x.v.length c3] 46)=D:=⟨_,rfl⟩;have an:Below wr.heap.size wr D:=by rw [<-al];exact aw.alloc aw.size _
     have K:Blk D w6.heap.size 46 #[.string ⟨x.k.toArray⟩,int i64 x.s,int i64 x.u,int i64 x.o,bool x.has,slice A3 x.v.length c3]:=by rw [<-al];exact Blk.new _ _ _
     have aL:er=0->zi2 (zam F w.heap.size) D (x,A3,c3):=fun N=>zi2.below (w:=w6) ⟨zaF (fun k J=>Nat.lt_of_lt_of_le (aD.out k J) t.out.size) ag,by have:=(zah (zcy (b:=y) (by rw [ah.out];exact N)).1).2.2.1;rw [ah.out] at this;simp only at this ⊢;omega,(zbR ag).1⟩ (by rw [<-al];exact zbl);have aP:=zhd aL;have E:=zhd an;have d0:=K.cell 0;have d1:=K.cell 1;have d2:=K.cell 2;have d3:=K.cell 3;have d4:=K.cell 4;have d5:=K.cell 5;clear ag aw an K aL ay k0;by_cases N:er=0
     ·subst N;have e0:(((0:Int) != 0))=false:=rfl;rw [if_pos rfl] at B;have bd:=zhd B;have aH:OkT (zhk (m.map Prod.fst) x):=zgJ G.out.2.2.1 (by have:=(zcy (b:=y) (by rw [ah.out])).1;rw [ah.out] at this;exact this);have aS:=zhd aH;have aj:=zeU (zam F w.heap.size) m.length c8 I m (x,A3,c3) rfl G.out.1 (by have:=G.out.2.2.2;have:=cm.out;omega) D (fun k J=>Nat.lt_of_lt_of_le (aD.out k J) (t.out.trans (E.out.mono t.out.size)).size) (G.out.2.1.below E.out) G.out.2.2.1.srt (aP.out rfl);unfold zaT at aj;have aV:=zhd aj;clear B aH aj;go_wp2_with fail
      refine aV.out.mono ?_;rintro e w8 ⟨T,A9,c9,ak,rfl,aG,aK,aI⟩;have aT:Hid (T.length<=c9/\EnN (zam F w.heap.size) w8 A9 T/\OkT (T.map Prod.fst)/\T.length<=j+1):=zhd ⟨aG,aK,by rw [ak];exact aS.out,by
       have h1:=congrArg List.length ak;have h2:=zeO (m.map Prod.fst) x;have h3:=G.out.2.2.2;simp only [List.length_map] at h1 h2;omega⟩
      have aR:Hid (zcb (l.drop (j+1)) (T.map Prod.fst)=Q1):=zhd (by rw [ak];exact bd.out);have aq:Below wr.heap.size wr w8:=E.out.trans (aI.mono E.out.size);have aQ:=zhd (t.out.trans (aq.mono t.out.size));have bg:=zhd (aa.out.trans (aq.mono aa.out.size));have cQ:=zhd (aO.out.trans (aq.mono aO.out.size));clear ak aG aK aI aq d0 d1 d2 d3 d4 d5 al;go_wp2;go_roundw
      case rel=>exact⟨j+1,T,A9,c9,by omega,rfl,by go_num,aT,aR,aQ,bg,cQ⟩
      case measure=>simp [intOf];omega
     ·have e0:(er != 0)=true:=by simpa using N
      have a:=zhd (O.out.below (t.out.trans (E.out.mono t.out.size)) O.out.lt);have d:=zhd (zay a.out (slice none 0 0) (slice none 0 0) (int i64 0) (slice none 0 0) (int i64 0) (slice none 0 0) (slice none 0 0) (slice none 0 0));have ae:=zhd ((t.out.trans (E.out.mono t.out.size)));have af:Hid (Q=none):=zhd (by rw [<-ck.out,<-B,if_neg N];rfl);have HZ:w.heap.size<D.heap.size:=a.out.lt;have r0:=a.out.cell 0;have z0:=a.out.frozen 0;have r1:=a.out.cell 1;have z1:=a.out.frozen 1;have r2:=a.out.cell 2;have z2:=a.out.frozen 2;have r3:=a.out.cell 3;have z3:=a.out.frozen 3;have r4:=a.out.cell 4;have z4:=a.out.frozen 4;have r5:=a.out.cell 5;have z5:=a.out.frozen 5;have r6:=a.out.cell 6;have z6:=a.out.frozen 6;have r7:=a.out.cell 7;have z7:=a.out.frozen 7;go_wp2;obtain⟨W8,C⟩:∃ W,zaQ D w.heap.size (slice none 0 0) (slice none 0 0) (int i64 0) (slice none 0 0) (int i64 0) (slice none 0 0) (slice none 0 0) (slice none 0 0)=W:=⟨_,rfl⟩;rw [C] at d;unfold zaQ at C;rw [C];have U:=d.out.1.cell 0;have g1:=d.out.1.cell 1;have g2:=d.out.1.cell 2;have Z:=d.out.1.cell 3;have g4:=d.out.1.cell 4;have V:=d.out.1.cell 5;have Y:=d.out.1.cell 6;have g7:=d.out.1.cell 7
      (try simp only [Exit.inBlock,Exit.then])
      refine bodyPost_ret (v:=.tuple #[.agg #[slice none 0 0,slice none 0 0,int i64 0,slice none 0 0,int i64 0,slice none 0 0,slice none 0 0,slice none 0 0],int i64 0,int i64 11]) (by simp [results,Tryz.results70,go_sem,U,g1,g2,Z,g4,V,Y,g7]) rfl ?_;exact Or.inr ⟨HQ.out.trans af.out,rfl,d.out.2.2.1 _ (S.out.trans (ae.out.mono S.out.size)) (Nat.le_refl _)⟩
    ·obtain rfl:j=rows.length:=by omega
     have B:=aJ.out;rw [List.drop_of_length_le (by omega)] at B;have aZ:Hid (zbu ((g.map za1).drop (q+1)) (m.map Prod.fst)=Q):=zhd (by rw [<-ck.out,<-B];rfl);have bf:¬ (rows.length:Int)<(rows.length:Int):=by omega
     have cX:Hid (m.length<=c8/\EnN (zam F w.heap.size) wr I m/\OkT (m.map Prod.fst)/\m.length<=70000+(q+1)):=zhd ⟨G.out.1,G.out.2.1,G.out.2.2.1,by have:=G.out.2.2.2;have:=cm.out;omega⟩;clear B ct;go_wp2_with fail
     go_loopw [8,14] (fun l i wr=>∃ (j:Nat) (m:List EV) (A:Option Addr) (c:Nat),j<=g.length/\l=slice A m.length c/\i=int i64 j/\Hid (m.length<=c/\EnN (zam F w.heap.size) wr A m/\OkT (m.map Prod.fst)/\m.length<=70000+j)/\Hid (zbu ((g.map za1).drop j) (m.map Prod.fst)=Q)/\Hid (Below w0.heap.size w0 wr)/\Hid (Below w4.heap.size w4 wr)) (fun _ i _=>g.length - (intOf i).toNat)
     case atStart=>exact⟨q+1,m,I,c8,cu.out,rfl,by go_num,cX,aZ,t,aa⟩
     case round=>
      obtain⟨j,m,I,c8,hj,rfl,rfl,G,aJ,t,aa⟩:=hrel;have az:=zhd (bh.out.below aa.out bh.out.lt);have b0:=az.out.cell 0;have b1:=az.out.cell 1;have b2:=az.out.cell 2;have b3:=az.out.cell 3;have b4:=az.out.cell 4;by_cases am:j<g.length
      ·obtain⟨rb,o1,hR,-,hc⟩:=zcX (bp.out wr aa.out) (by omega);rw [hR] at b3;clear hR;obtain⟨k0,k1⟩:=hc j am;have L:=bD.out wr aa.out g[j] (List.getElem_mem am);have ax:=bI.out g[j] (List.getElem_mem am);obtain⟨⟨kd,A2,y,c2⟩,hy⟩:∃ y,g[j]=y:=⟨_,rfl⟩;rw [hy] at k0 k1 L ax;simp only at k0 k1 L ax;have B:=aJ.out;rw [zeT (by simpa using am)] at B;have aY:(g.map za1)[j]'(by simpa using am)=(kd,y):=by rw [List.getElem_map,hy];rfl
       rw [aY] at B;simp only at B;obtain⟨⟨x,er⟩,ab⟩:∃ z,zbT y=z:=⟨_,rfl⟩;have aA:okC (kd,y)↔kd=1/\er=0/\x.s≠0:=by unfold okC;rw [ab]
       have ay:=zhd (zeJ y.length c2 A2 y rfl (by omega) L.2 wr L.1);rw [<-ze7,ab] at ay;rw [ab] at B;simp only at B;have ah:=zhd ab;have cq:(0:Int)<=(j:Int):=by omega
       have bf:(j:Int)<(g.length:Int):=by omega
       clear hc aY L hy ab ax;go_wp2_with fail
       refine ay.out.mono ?_;rintro e w6 ⟨A3,c3,rfl,ag,aw⟩;simp only [zaT] at ag ⊢;obtain⟨D,al⟩:∃ D,w6.alloc (cells #[.string ⟨x.k.toArray⟩,int i64 x.s,int i64 x.u,int i64 x.o,bool x.has,slice A3 x.v.length c3] 46)=D:=⟨_,rfl⟩;have an:Below wr.heap.size wr D:=by rw [<-al];exact aw.alloc aw.size _
       have K:Blk D w6.heap.size 46 #[.string ⟨x.k.toArray⟩,int i64 x.s,int i64 x.u,int i64 x.o,bool x.has,slice A3 x.v.length c3]:=by rw [<-al];exact Blk.new _ _ _
       have aL:er=0->zi2 (zam F w.heap.size) D (x,A3,c3):=fun N=>zi2.below (w:=w6) ⟨zaF (fun k J=>Nat.lt_of_lt_of_le (aD.out k J) t.out.size) ag,by have:=(zah (zcy (b:=y) (by rw [ah.out];exact N)).1).2.2.1;rw [ah.out] at this;simp only at this ⊢;omega,(zbR ag).1⟩ (by rw [<-al];exact zbl);have aP:=zhd aL;have E:=zhd an;have d0:=K.cell 0;have d1:=K.cell 1;have d2:=K.cell 2;have d3:=K.cell 3;have d4:=K.cell 4;have d5:=K.cell 5;have bM:D.cell? ⟨rb,o1+j*2,none⟩=some (int .u8 (kd.toNat:Int)):=(an.cell (p:=⟨rb,o1+j*2,none⟩) (zaq k0)).trans k0;have bw:D.cell? ⟨b5,3,none⟩=some (slice (some ⟨rb,o1,none⟩) g.length cR):=(an.cell (p:=⟨b5,3,none⟩) (zaq b3)).trans b3;clear ag aw an K aL ay k0 k1 b0 b1 b2 b3 b4;by_cases N:er=0
       ·subst N;have e0:(((0:Int) != 0))=false:=rfl;by_cases au:kd=1
        ·have bq:((kd.toNat:Int) != 1)=false:=by subst au;rfl
         cases hsn:(x.s==0)
         ·have aE:x.s≠0:=by simpa using hsn
          rw [if_pos (aA.2 ⟨au,rfl,aE⟩)] at B;have bd:=zhd B;have aH:OkT (zhk (m.map Prod.fst) x):=zgJ G.out.2.2.1 (by have:=(zcy (b:=y) (by rw [ah.out])).1;rw [ah.out] at this;exact this);have aS:=zhd aH;have aj:=zeU (zam F w.heap.size) m.length c8 I m (x,A3,c3) rfl G.out.1 (by have:=G.out.2.2.2;have:=bW.out;omega) D (fun k J=>Nat.lt_of_lt_of_le (aD.out k J) (t.out.trans (E.out.mono t.out.size)).size) (G.out.2.1.below E.out) G.out.2.2.1.srt (aP.out rfl);unfold zaT at aj;have aV:=zhd aj;clear au aE B aA aH aj;go_wp2_with fail
          refine aV.out.mono ?_;rintro e w8 ⟨T,A9,c9,ak,rfl,aG,aK,aI⟩;have aT:Hid (T.length<=c9/\EnN (zam F w.heap.size) w8 A9 T/\OkT (T.map Prod.fst)/\T.length<=70000+(j+1)):=zhd ⟨aG,aK,by rw [ak];exact aS.out,by
           have h1:=congrArg List.length ak;have h2:=zeO (m.map Prod.fst) x;have h3:=G.out.2.2.2;simp only [List.length_map] at h1 h2;omega⟩
          have aR:Hid (zbu ((g.map za1).drop (j+1)) (T.map Prod.fst)=Q):=zhd (by rw [ak];exact bd.out);have aq:Below wr.heap.size wr w8:=E.out.trans (aI.mono E.out.size);have aQ:=zhd (t.out.trans (aq.mono t.out.size));have bg:=zhd (aa.out.trans (aq.mono aa.out.size));clear ak aG aK aI aq d0 d1 d2 d3 d4 d5 bM bw al;go_wp2;go_roundw
          case rel=>exact⟨j+1,T,A9,c9,by omega,rfl,by go_num,aT,aR,aQ,bg⟩
          case measure=>simp [intOf];omega
         ·have aE:¬ (x.s≠0):=by simpa using hsn
          have a:=zhd (O.out.below (t.out.trans (E.out.mono t.out.size)) O.out.lt);have d:=zhd (zay a.out (slice none 0 0) (slice none 0 0) (int i64 0) (slice none 0 0) (int i64 0) (slice none 0 0) (slice none 0 0) (slice none 0 0));have ae:=zhd ((t.out.trans (E.out.mono t.out.size)));have af:Hid (Q=none):=zhd (by rw [<-B,if_neg (fun h=>aE (aA.1 h).2.2)]);have HZ:w.heap.size<D.heap.size:=a.out.lt;have r0:=a.out.cell 0;have z0:=a.out.frozen 0;have r1:=a.out.cell 1;have z1:=a.out.frozen 1;have r2:=a.out.cell 2;have z2:=a.out.frozen 2;have r3:=a.out.cell 3;have z3:=a.out.frozen 3;have r4:=a.out.cell 4;have z4:=a.out.frozen 4;have r5:=a.out.cell 5;have z5:=a.out.frozen 5;have r6:=a.out.cell 6;have z6:=a.out.frozen 6;have r7:=a.out.cell 7;have z7:=a.out.frozen 7;go_wp2;obtain⟨W8,C⟩:∃ W,zaQ D w.heap.size (slice none 0 0) (slice none 0 0) (int i64 0) (slice none 0 0) (int i64 0) (slice none 0 0) (slice none 0 0) (slice none 0 0)=W:=⟨_,rfl⟩;rw [C] at d;unfold zaQ at C;rw [C];have U:=d.out.1.cell 0;have g1:=d.out.1.cell 1;have g2:=d.out.1.cell 2;have Z:=d.out.1.cell 3;have g4:=d.out.1.cell 4;have V:=d.out.1.cell 5;have Y:=d.out.1.cell 6;have g7:=d.out.1.cell 7
          (try simp only [Exit.inBlock,Exit.then])
          refine bodyPost_ret (v:=.tuple #[.agg #[slice none 0 0,slice none 0 0,int i64 0,slice none 0 0,int i64 0,slice none 0 0,slice none 0 0,slice none 0 0],int i64 0,int i64 11]) (by simp [results,Tryz.results70,go_sem,U,g1,g2,Z,g4,V,Y,g7]) rfl ?_;exact Or.inr ⟨HQ.out.trans af.out,rfl,d.out.2.2.1 _ (S.out.trans (ae.out.mono S.out.size)) (Nat.le_refl _)⟩
        ·have bq:((kd.toNat:Int) != 1)=true:=by
          simp only [bne_iff_ne,ne_eq];intro h;exact au (by apply UInt8.toNat_inj.1;have:(1:UInt8).toNat=1:=rfl;omega)
         have a:=zhd (O.out.below (t.out.trans (E.out.mono t.out.size)) O.out.lt);have d:=zhd (zay a.out (slice none 0 0) (slice none 0 0) (int i64 0) (slice none 0 0) (int i64 0) (slice none 0 0) (slice none 0 0) (slice none 0 0));have ae:=zhd ((t.out.trans (E.out.mono t.out.size)));have af:Hid (Q=none):=zhd (by rw [<-B,if_neg (fun h=>au (aA.1 h).1)]);have HZ:w.heap.size<D.heap.size:=a.out.lt;have r0:=a.out.cell 0;have z0:=a.out.frozen 0;have r1:=a.out.cell 1;have z1:=a.out.frozen 1;have r2:=a.out.cell 2;have z2:=a.out.frozen 2;have r3:=a.out.cell 3;have z3:=a.out.frozen 3;have r4:=a.out.cell 4;have z4:=a.out.frozen 4;have r5:=a.out.cell 5;have z5:=a.out.frozen 5;have r6:=a.out.cell 6;have z6:=a.out.frozen 6;have r7:=a.out.cell 7;have z7:=a.out.frozen 7;go_wp2;obtain⟨W8,C⟩:∃ W,zaQ D w.heap.size (slice none 0 0) (slice none 0 0) (int i64 0) (slice none 0 0) (int i64 0) (slice none 0 0) (slice none 0 0) (slice none 0 0)=W:=⟨_,rfl⟩;rw [C] at d;unfold zaQ at C;rw [C];have U:=d.out.1.cell 0;have g1:=d.out.1.cell 1;have g2:=d.out.1.cell 2;have Z:=d.out.1.cell 3;have g4:=d.out.1.cell 4;have V:=d.out.1.cell 5;have Y:=d.out.1.cell 6;have g7:=d.out.1.cell 7
         (try simp only [Exit.inBlock,Exit.then])
         refine bodyPost_ret (v:=.tuple #[.agg #[slice none 0 0,slice none 0 0,int i64 0,slice none 0 0,int i64 0,slice none 0 0,slice none 0 0,slice none 0 0],int i64 0,int i64 11]) (by simp [results,Tryz.results70,go_sem,U,g1,g2,Z,g4,V,Y,g7]) rfl ?_;exact Or.inr ⟨HQ.out.trans af.out,rfl,d.out.2.2.1 _ (S.out.trans (ae.out.mono S.out.size)) (Nat.le_refl _)⟩
       ·have e0:(er != 0)=true:=by simpa using N
        have a:=zhd (O.out.below (t.out.trans (E.out.mono t.out.size)) O.out.lt);have d:=zhd (zay a.out (slice none 0 0) (slice none 0 0) (int i64 0) (slice none 0 0) (int i64 0) (slice none 0 0) (slice none 0 0) (slice none 0 0));have ae:=zhd ((t.out.trans (E.out.mono t.out.size)));have af:Hid (Q=none):=zhd (by rw [<-B,if_neg (fun h=>N (aA.1 h).2.1)]);have HZ:w.heap.size<D.heap.size:=a.out.lt;have r0:=a.out.cell 0;have z0:=a.out.frozen 0;have r1:=a.out.cell 1;have z1:=a.out.frozen 1;have r2:=a.out.cell 2;have z2:=a.out.frozen 2;have r3:=a.out.cell 3;have z3:=a.out.frozen 3;have r4:=a.out.cell 4;have z4:=a.out.frozen 4;have r5:=a.out.cell 5;have z5:=a.out.frozen 5;have r6:=a.out.cell 6;have z6:=a.out.frozen 6;have r7:=a.out.cell 7;have z7:=a.out.frozen 7;go_wp2;obtain⟨W8,C⟩:∃ W,zaQ D w.heap.size (slice none 0 0) (slice none 0 0) (int i64 0) (slice none 0 0) (int i64 0) (slice none 0 0) (slice none 0 0) (slice none 0 0)=W:=⟨_,rfl⟩;rw [C] at d;unfold zaQ at C;rw [C];have U:=d.out.1.cell 0;have g1:=d.out.1.cell 1;have g2:=d.out.1.cell 2;have Z:=d.out.1.cell 3;have g4:=d.out.1.cell 4;have V:=d.out.1.cell 5;have Y:=d.out.1.cell 6;have g7:=d.out.1.cell 7
        (try simp only [Exit.inBlock,Exit.then])
        refine bodyPost_ret (v:=.tuple #[.agg #[slice none 0 0,slice none 0 0,int i64 0,slice none 0 0,int i64 0,slice none 0 0,slice none 0 0,slice none 0 0],int i64 0,int i64 11]) (by simp [results,Tryz.results70,go_sem,U,g1,g2,Z,g4,V,Y,g7]) rfl ?_;exact Or.inr ⟨HQ.out.trans af.out,rfl,d.out.2.2.1 _ (S.out.trans (ae.out.mono S.out.size)) (Nat.le_refl _)⟩
      ·obtain rfl:j=g.length:=by omega
       have B:=aJ.out;rw [List.drop_of_length_le (by rw [List.length_map];exact Nat.le_refl _)] at B;have aZ:Hid (Q=some (m.map Prod.fst)):=zhd B.symm;have bf:¬ (g.length:Int)<(g.length:Int):=by omega
       have a:=zhd (O.out.below t.out O.out.lt);have d:=zhd (zay a.out (slice AL s cL) (slice none 0 0) (int i64 0) (slice R g.length cR) (int i64 (g.length:Int)) (slice I m.length c8) (slice I m.length c8) (slice none 0 0));have HZ:w.heap.size<wr.heap.size:=a.out.lt;have r0:=a.out.cell 0;have z0:=a.out.frozen 0;have r1:=a.out.cell 1;have z1:=a.out.frozen 1;have r2:=a.out.cell 2;have z2:=a.out.frozen 2;have r3:=a.out.cell 3;have z3:=a.out.frozen 3;have r4:=a.out.cell 4;have z4:=a.out.frozen 4;have r5:=a.out.cell 5;have z5:=a.out.frozen 5;have r6:=a.out.cell 6;have z6:=a.out.frozen 6;have r7:=a.out.cell 7;have z7:=a.out.frozen 7;clear B;go_wp2;have aM:Hid (Touch (zam F w.heap.size) wr (zaQ wr w.heap.size (slice AL s cL) (slice none 0 0) (int i64 0) (slice R g.length cR) (int i64 (g.length:Int)) (slice I m.length c8) (slice I m.length c8) (slice none 0 0))):=zhd (zai _ _ _ _ _ _ _ _);obtain⟨W8,C⟩:∃ W,zaQ wr w.heap.size (slice AL s cL) (slice none 0 0) (int i64 0) (slice R g.length cR) (int i64 (g.length:Int)) (slice I m.length c8) (slice I m.length c8) (slice none 0 0)=W:=⟨_,rfl⟩;rw [C] at d aM;unfold zaQ at C;rw [C];have U:=d.out.1.cell 0;have g1:=d.out.1.cell 1;have g2:=d.out.1.cell 2;have Z:=d.out.1.cell 3;have g4:=d.out.1.cell 4;have V:=d.out.1.cell 5;have Y:=d.out.1.cell 6;have g7:=d.out.1.cell 7
       (try simp only [Exit.inBlock,Exit.then])
       refine bodyPost_ret (v:=.tuple #[.agg #[slice AL s cL,slice none 0 0,int i64 0,slice R g.length cR,int i64 (g.length:Int),slice I m.length c8,slice I m.length c8,slice none 0 0],int i64 ((X.length:Int) - (s:Int)),int i64 0]) (by simp [results,Tryz.results70,go_sem,U,g1,g2,Z,g4,V,Y,g7]) rfl ?_;refine Or.inl ⟨m,I,c8,AL,cL,R,cR,g,HQ.out.trans aZ.out,cb.out,?_,G.out.1,G.out.2.1.to (fun k J=>Or.inl (Or.inl J)) aM.out,?_,d.out.2.2.1 _ (S.out.trans (t.out.mono S.out.size)) (Nat.le_refl _)⟩
       ·rw [HS.out]
       ·rw [HS.out];exact(cd.out wr aa.out).step aM.out (fun k J=>Or.inl (Or.inl J))
  ·have e0:(er != 0)=true:=by simpa using N
   have a:=zhd (O.out.below bJ.out O.out.lt);have d:=zhd (zay a.out (slice none 0 0) (slice none 0 0) (int i64 0) (slice none 0 0) (int i64 0) (slice none 0 0) (slice none 0 0) (slice none 0 0));have ae:=zhd (bJ.out);have af:Hid (Q=none):=zhd (by have:=bP.out;rw [if_neg N] at this;exact this.symm);have HZ:w.heap.size<w5.heap.size:=a.out.lt;have r0:=a.out.cell 0;have z0:=a.out.frozen 0;have r1:=a.out.cell 1;have z1:=a.out.frozen 1;have r2:=a.out.cell 2;have z2:=a.out.frozen 2;have r3:=a.out.cell 3;have z3:=a.out.frozen 3;have r4:=a.out.cell 4;have z4:=a.out.frozen 4;have r5:=a.out.cell 5;have z5:=a.out.frozen 5;have r6:=a.out.cell 6;have z6:=a.out.frozen 6;have r7:=a.out.cell 7;have z7:=a.out.frozen 7;go_wp2;obtain⟨W8,C⟩:∃ W,zaQ w5 w.heap.size (slice none 0 0) (slice none 0 0) (int i64 0) (slice none 0 0) (int i64 0) (slice none 0 0) (slice none 0 0) (slice none 0 0)=W:=⟨_,rfl⟩;rw [C] at d;unfold zaQ at C;rw [C];have U:=d.out.1.cell 0;have g1:=d.out.1.cell 1;have g2:=d.out.1.cell 2;have Z:=d.out.1.cell 3;have g4:=d.out.1.cell 4;have V:=d.out.1.cell 5;have Y:=d.out.1.cell 6;have g7:=d.out.1.cell 7
   (try simp only [Exit.inBlock,Exit.then])
   refine bodyPost_ret (v:=.tuple #[.agg #[slice none 0 0,slice none 0 0,int i64 0,slice none 0 0,int i64 0,slice none 0 0,slice none 0 0,slice none 0 0],int i64 0,int i64 11]) (by simp [results,Tryz.results70,go_sem,U,g1,g2,Z,g4,V,Y,g7]) rfl ?_;exact Or.inr ⟨HQ.out.trans af.out,rfl,d.out.2.2.1 _ (S.out.trans (ae.out.mono S.out.size)) (Nat.le_refl _)⟩
end
section
open Go.RowKit Go.ChangeShapes Mem Be Word Frm Go.Maps
structure RefTR (w:World) (F:Nat->Prop) (S:St8) (AL:Option Addr) (cL:Nat) (AT:Option Addr) (cT:Nat) (R:Option Addr) (c:Nat) (vs:List za3) (AU:Option Addr) (cU:Nat) (us:List EV) (AV:Option Addr) (cV:Nat) (ls:List EV) (AC:Option Addr) (cC:Nat):Prop where
 rs:vs.map za1=S.rs
 log:RefL w F AL cL AT cT R c (zac (S.rs.take S.m)) (zac (S.rs.drop S.m)) vs
 un:us.map Prod.fst=S.N
 uc:us.length<=cU
 ue:EnN F w AU us
 ln:ls.map Prod.fst=S.L
 lc:ls.length<=cV
 le:EnN F w AV ls
 ar:zaK F w AC (zaE S.acks)
 ac:S.acks.length<=cC
section
variable {w w1 : World} {F F' : Nat → Prop} {S : St8} {AL AT R AU AV AC : Option Addr} {cL cT c cU cV cC : Nat} {vs : List za3} {us ls : List EV}
theorem RefTR.step(h:RefTR w F S AL cL AT cT R c vs AU cU us AV cV ls AC cC)(ht:Touch F w w1)(hf:∀ k,F' k->F k\/w.heap.size<=k):RefTR w1 F' S AL cL AT cT R c vs AU cU us AV cV ls AC cC:=
 ⟨h.rs,h.log.step ht hf,h.un,h.uc,h.ue.to hf ht,h.ln,h.lc,h.le.to hf ht,h.ar.grow hf ht,h.ac⟩
theorem RefTR.below(h:RefTR w F S AL cL AT cT R c vs AU cU us AV cV ls AC cC)(hb:Below w.heap.size w w1):RefTR w1 F S AL cL AT cT R c vs AU cU us AV cV ls AC cC:=h.step (Touch.ofBelow hb) fun k hk=>Or.inl hk
theorem RefTR.wide(h:RefTR w F S AL cL AT cT R c vs AU cU us AV cV ls AC cC)(hb:Below w.heap.size w w1){b:Nat}(hb2:w.heap.size<=b):RefTR w1 (zam F b) S AL cL AT cT R c vs AU cU us AV cV ls AC cC:=h.step (Touch.ofBelow hb) fun k hk=>by
 rcases hk with h1|h1
 ·exact Or.inl h1
 ·exact Or.inr (by omega)
end
def zbD(F:Nat->Prop)(S:St8)(q:Nat)(w:World)(v:Value):Prop:=
 ∃ (AL:Option Addr) (cL:Nat) (AT:Option Addr) (cT:Nat) (R:Option Addr) (c:Nat) (vs:List za3) (AU:Option Addr) (cU:Nat) (us:List EV) (AV:Option Addr) (cV:Nat) (ls:List EV) (AC:Option Addr) (cC:Nat),
  v=.agg #[slice AL (zac (S.rs.take S.m)).length cL,slice AT (zac (S.rs.drop S.m)).length cT,int i64 (q:Int),slice R vs.length c,int i64 (S.m:Int),slice AU us.length cU,slice AV ls.length cV,slice AC S.acks.length cC]/\
  RefTR w F S AL cL AT cT R c vs AU cU us AV cV ls AC cC
def zks(F:Nat->Prop)(f:Value->Value)(S:St8)(q:Nat)(w:World)(e:Ending)(w':World):Prop:=∃ v,e=.returned (f v)/\zbD F S q w' v/\Below w.heap.size w w'
theorem zuS(w:World)(h d a i b g c j:Value) :
 ∃ W1,(w.alloc (cells #[h,d,a,i,b,g,c,j] 36)).alloc (cells #[slice none 0 0,slice none 0 0,int i64 0,slice none 0 0,int i64 0,slice none 0 0,slice none 0 0,slice none 0 0] 36)=W1/\
 Below w.heap.size w W1/\Blk W1 w.heap.size 36 #[h,d,a,i,b,g,c,j]/\
 Blk W1 (w.heap.size+1) 36 #[slice none 0 0,slice none 0 0,int i64 0,slice none 0 0,int i64 0,slice none 0 0,slice none 0 0,slice none 0 0]:=by
 refine⟨_,rfl,(zbl).alloc (by simp) _,(Blk.new w _ _).alloc _,?_⟩;have:=Blk.new (w.alloc (cells #[h,d,a,i,b,g,c,j] 36)) 36 #[slice none 0 0,slice none 0 0,int i64 0,slice none 0 0,int i64 0,slice none 0 0,slice none 0 0,slice none 0 0];simp at this;exact this
theorem zqN{X:List UInt8}:zar (X.take (zar X).2.1)=((zar X).1,(zar X).2.1,0):=by
 have a:=zdt X;have c:=zfI X;have b:(X.take (zar X).2.1).length=(zar X).2.1:=by rw [List.length_take];omega
 rw [<-a,zsp _ (zfH X),a,b]
end
section
open Go.RowKit Mem
theorem zcF(key:ByteArray)(s u o:Int)(has:Bool)(A:Option Addr)(m c:Nat)(C:(m:Int)<=9223372036854775807)(D:(key.size:Int)<=9223372036854775807)(w:World) :
 Calls Tryz.prog 30 #[zaT key s u o has A m c] w (IsI (zav key.size m s u o has) w):=by
 have d:Hid (Below w.heap.size w (w.alloc (zhm key s u o has A m c))):=zhd (zbl);obtain⟨p,j⟩:=zwD key.size m has;rcases p with p|p|⟨p,x⟩
 ·clear j;go_enter Tryz.func30,Tryz.ntmps30
  go_wp2;go_ret;exact zal (zaP (by rintro⟨b,_⟩;omega)).symm d.out
 ·clear j;go_enter Tryz.func30,Tryz.ntmps30
  go_wp2;go_ret;exact zal (zaP (by rintro⟨_,b,_⟩;omega)).symm d.out
 rcases j with j|⟨j,rfl⟩|⟨j,rfl,rfl⟩|⟨j,B,rfl⟩
 ·go_enter Tryz.func30,Tryz.ntmps30
  go_wp2;go_ret;exact zal (zaP (by rintro⟨_,_,b,_⟩;omega)).symm d.out
 ·rcases zdY s u o with g|g
  ·have i:=zhd g;clear g;cases b:(s==0)
   ·have hq:(s==0)=false:=b;have q:Hid ((s==0)=false):=zhd b;clear b;go_enter Tryz.func30,Tryz.ntmps30
    go_wp2_with (go_at_call 57;refine(zaX _ _ _ _ (by assumption) _).mono ?_;rintro e k ⟨rfl,a⟩;obtain⟨hc,l⟩:=zdE a;have h:=zhd (d.out.trans (a.mono d.out.size));clear a)
    go_ret;exact zal ((zbt (by refine⟨by omega,by omega,by omega,by simp,?_⟩;rintro⟨b,r⟩;exact zgi q b)).trans i.out).symm h.out
   ·have q:Hid ((s==0)=true):=zhd b;go_enter Tryz.func30,Tryz.ntmps30
    go_wp2_with (go_at_call 57;refine(zaX _ _ _ _ (by assumption) _).mono ?_;rintro e k ⟨rfl,a⟩;obtain⟨hc,l⟩:=zdE a;have h:=zhd (d.out.trans (a.mono d.out.size));clear a)
    go_ret;exact zal (zaP (by rintro⟨b,r,y,v,z,t⟩;exact t ⟨zei q,rfl⟩)).symm h.out
  ·have i:=zhd g;clear g;go_enter Tryz.func30,Tryz.ntmps30
   go_wp2_with (go_at_call 57;refine(zaX _ _ _ _ (by assumption) _).mono ?_;rintro e k ⟨rfl,a⟩;obtain⟨hc,l⟩:=zdE a;have h:=zhd (d.out.trans (a.mono d.out.size));clear a)
   go_ret;exact zal (zaP (by rintro⟨_,_,_,_,b,_⟩;have:=i.out;omega)).symm h.out
 ·rcases zdY s u o with g|g
  ·have i:=zhd g;clear g;cases b:(s==0)
   all_goals
    go_enter Tryz.func30,Tryz.ntmps30
    go_wp2_with (go_at_call 57;refine(zaX _ _ _ _ (by assumption) _).mono ?_;rintro e k ⟨rfl,a⟩;obtain⟨hc,l⟩:=zdE a;have h:=zhd (d.out.trans (a.mono d.out.size));clear a)
    go_ret;exact zal ((zbt (by refine⟨by omega,by omega,by omega,by simp,?_⟩;rintro⟨b,r⟩;simp at r)).trans i.out).symm h.out
  ·have i:=zhd g;clear g;go_enter Tryz.func30,Tryz.ntmps30
   go_wp2_with (go_at_call 57;refine(zaX _ _ _ _ (by assumption) _).mono ?_;rintro e k ⟨rfl,a⟩;obtain⟨hc,l⟩:=zdE a;have h:=zhd (d.out.trans (a.mono d.out.size));clear a)
   go_ret;exact zal (zaP (by rintro⟨_,_,_,_,b,_⟩;have:=i.out;omega)).symm h.out
 ·go_enter Tryz.func30,Tryz.ntmps30
  go_wp2;go_ret;exact zal (zaP (by rintro⟨_,_,_,b,_⟩;simp at b;omega)).symm d.out
end
section
open Go.RowKit Go.ChangeShapes Mem Be Word Frm Go.Maps
theorem zs4(w:World)(o m l h b g d p k j i a q c:Value) :
 ∃ W1,((w.alloc (cells #[o,m,l,h,b,g,d,p] 36)).alloc (cells #[k,j,i,a,q,c] 46)).alloc (cells #[slice none 0 0,slice none 0 0,int i64 0,slice none 0 0,int i64 0,slice none 0 0,slice none 0 0,slice none 0 0] 36)=W1/\
 Below w.heap.size w W1/\Blk W1 w.heap.size 36 #[o,m,l,h,b,g,d,p]/\Blk W1 (w.heap.size+1) 46 #[k,j,i,a,q,c]/\
 Blk W1 (w.heap.size+1+1) 36 #[slice none 0 0,slice none 0 0,int i64 0,slice none 0 0,int i64 0,slice none 0 0,slice none 0 0,slice none 0 0]:=by
 refine⟨_,rfl,((zbl).alloc (by simp) _).alloc (by simp;omega) _,((Blk.new w _ _).alloc _).alloc _,?_,?_⟩
 ·have:=(Blk.new (w.alloc (cells #[o,m,l,h,b,g,d,p] 36)) 46 #[k,j,i,a,q,c]).alloc (cells #[slice none 0 0,slice none 0 0,int i64 0,slice none 0 0,int i64 0,slice none 0 0,slice none 0 0,slice none 0 0] 36);simp at this;exact this
 ·have:=Blk.new ((w.alloc (cells #[o,m,l,h,b,g,d,p] 36)).alloc (cells #[k,j,i,a,q,c] 46)) 36 #[slice none 0 0,slice none 0 0,int i64 0,slice none 0 0,int i64 0,slice none 0 0,slice none 0 0,slice none 0 0];simp at this;exact this
theorem zoi(F:Nat->Prop)(S:St8)(q:Nat)(x:EV)(who:Int)(Y:¬ zhr x.1 who)(am:(x.1.k.length:Int)<=9223372036854775807)(ai:(x.1.v.length:Int)<=9223372036854775807)(w:World)(hF:∀ k,F k->k<w.heap.size)(v:Value)(h:zbD F S q w v) :
 Calls Tryz.prog 64 #[v,.agg #[.string ⟨x.1.k.toArray⟩,int i64 x.1.s,int i64 x.1.u,int i64 x.1.o,bool x.1.has,slice x.2.1 x.1.v.length x.2.2],int i64 who] w (zks F (fun v=>.tuple #[v,int i64 2]) S q w):=by
 obtain⟨g,i,AT,j,R,c,D,B,l,z,A,t,y,p,r,rfl,h⟩:=h;obtain⟨W0,aq,ab,ah,ag,ak⟩:=zs4 w (slice g (zac (S.rs.take S.m)).length i) (slice AT (zac (S.rs.drop S.m)).length j) (int i64 (q:Int)) (slice R D.length c) (int i64 (S.m:Int)) (slice B z.length l) (slice A y.length t) (slice p S.acks.length r) (.string ⟨x.1.k.toArray⟩) (int i64 x.1.s) (int i64 x.1.u) (int i64 x.1.o) (bool x.1.has) (slice x.2.1 x.1.v.length x.2.2);have V:=h.wide ab (b:=w.heap.size+1+1) (by omega);have E:(⟨x.1.k.toArray⟩:ByteArray).size=x.1.k.length:=by show x.1.k.toArray.size=_;simp
 have U:=zcF ⟨x.1.k.toArray⟩ x.1.s x.1.u x.1.o x.1.has x.2.1 x.1.v.length x.2.2 ai (by rw [E];exact am) W0;rw [E] at U;obtain⟨er,ae⟩:∃ er,zav x.1.k.length x.1.v.length x.1.s x.1.u x.1.o x.1.has=er:=⟨_,rfl⟩;rw [ae] at U;unfold zaT at U;unfold zhr okE at Y;rw [ae] at Y;have ay:=zhd U;have aj:=zhd ab;have al:=zhd ah;have ao:=zhd ag;have an:=zhd ak;have ax:=zhd V;have aw:=zhd aq;have HM:=zhd Y;clear hF h ab ah ag ak V aq U ae E am ai Y;go_enter Tryz.func64,Tryz.ntmps64
 go_wp2_with fail
 rw [aw.out];refine ay.out.mono ?_;rintro e G ⟨rfl,T⟩;have I:=zhd (al.out.below T al.out.lt);have af:=zhd (ao.out.below T ao.out.lt);have d:=zhd (an.out.below T an.out.lt);have Z:=zhd (ax.out.below T);have a:=zhd (zay d.out (slice g (zac (S.rs.take S.m)).length i) (slice AT (zac (S.rs.drop S.m)).length j) (int i64 (q:Int)) (slice R D.length c) (int i64 (S.m:Int)) (slice B z.length l) (slice A y.length t) (slice p S.acks.length r));have J:Hid (Touch (zam F (w.heap.size+1+1)) G (zaQ G (w.heap.size+1+1) (slice g (zac (S.rs.take S.m)).length i) (slice AT (zac (S.rs.drop S.m)).length j) (int i64 (q:Int)) (slice R D.length c) (int i64 (S.m:Int)) (slice B z.length l) (slice A y.length t) (slice p S.acks.length r))):=zhd (zai _ _ _ _ _ _ _ _);have aa:=zhd (aj.out.trans (T.mono aj.out.size));have aD:w.heap.size<G.heap.size:=I.out.lt;have aA:w.heap.size+1<G.heap.size:=af.out.lt;have aB:w.heap.size+1+1<G.heap.size:=d.out.lt;have c1:=af.out.cell 1;have f0:=I.out.cell 0;have f1:=I.out.cell 1;have f2:=I.out.cell 2;have f3:=I.out.cell 3;have f4:=I.out.cell 4;have f5:=I.out.cell 5;have f6:=I.out.cell 6;have f7:=I.out.cell 7;have r0:=d.out.cell 0;have z0:=d.out.frozen 0;have r1:=d.out.cell 1;have z1:=d.out.frozen 1;have r2:=d.out.cell 2;have z2:=d.out.frozen 2;have r3:=d.out.cell 3;have z3:=d.out.frozen 3;have r4:=d.out.cell 4;have z4:=d.out.frozen 4;have r5:=d.out.cell 5;have z5:=d.out.frozen 5;have r6:=d.out.cell 6;have z6:=d.out.frozen 6;have r7:=d.out.cell 7;have z7:=d.out.frozen 7;clear T;by_cases V:er=0
 ·subst V;have e0:(((0:Int) != 0))=false:=rfl;cases hs:(x.1.s==0)
  ·by_cases X:who<0
   ·have b1:decide (who<0)=true:=by simpa using X
    clear X;go_wp2;obtain⟨W8,C⟩:∃ W,zaQ G (w.heap.size+1+1) (slice g (zac (S.rs.take S.m)).length i) (slice AT (zac (S.rs.drop S.m)).length j) (int i64 (q:Int)) (slice R D.length c) (int i64 (S.m:Int)) (slice B z.length l) (slice A y.length t) (slice p S.acks.length r)=W:=⟨_,rfl⟩;rw [C] at a J;unfold zaQ at C;rw [C];have K:=a.out.1.cell 0;have g1:=a.out.1.cell 1;have g2:=a.out.1.cell 2;have M:=a.out.1.cell 3;have O:=a.out.1.cell 4;have Q:=a.out.1.cell 5;have L:=a.out.1.cell 6;have N:=a.out.1.cell 7;refine bodyPost_ret (v:=.tuple #[.agg #[slice g (zac (S.rs.take S.m)).length i,slice AT (zac (S.rs.drop S.m)).length j,int i64 (q:Int),slice R D.length c,int i64 (S.m:Int),slice B z.length l,slice A y.length t,slice p S.acks.length r],int i64 2]) (by simp [results,Tryz.results64,go_sem,K,g1,g2,M,O,Q,L,N]) rfl ?_;exact⟨_,rfl,⟨g,i,AT,j,R,c,D,B,l,z,A,t,y,p,r,rfl,(Z.out.step J.out (F':=F) (fun k E=>Or.inl (Or.inl E)))⟩,a.out.2.2.1 _ aa.out (by omega)⟩
   ·have b1:decide (who<0)=false:=by simpa using X
    have au:(1048575:Int)<who:=by
     have:=HM.out;have az:x.1.s≠0:=by simpa using hs
     omega
    have b2:decide ((1048575:Int)<who)=true:=by simpa using au
    clear X au;go_wp2;obtain⟨W8,C⟩:∃ W,zaQ G (w.heap.size+1+1) (slice g (zac (S.rs.take S.m)).length i) (slice AT (zac (S.rs.drop S.m)).length j) (int i64 (q:Int)) (slice R D.length c) (int i64 (S.m:Int)) (slice B z.length l) (slice A y.length t) (slice p S.acks.length r)=W:=⟨_,rfl⟩;rw [C] at a J;unfold zaQ at C;rw [C];have K:=a.out.1.cell 0;have g1:=a.out.1.cell 1;have g2:=a.out.1.cell 2;have M:=a.out.1.cell 3;have O:=a.out.1.cell 4;have Q:=a.out.1.cell 5;have L:=a.out.1.cell 6;have N:=a.out.1.cell 7;refine bodyPost_ret (v:=.tuple #[.agg #[slice g (zac (S.rs.take S.m)).length i,slice AT (zac (S.rs.drop S.m)).length j,int i64 (q:Int),slice R D.length c,int i64 (S.m:Int),slice B z.length l,slice A y.length t,slice p S.acks.length r],int i64 2]) (by simp [results,Tryz.results64,go_sem,K,g1,g2,M,O,Q,L,N]) rfl ?_;exact⟨_,rfl,⟨g,i,AT,j,R,c,D,B,l,z,A,t,y,p,r,rfl,(Z.out.step J.out (F':=F) (fun k E=>Or.inl (Or.inl E)))⟩,a.out.2.2.1 _ aa.out (by omega)⟩
  ·skip;go_wp2;obtain⟨W8,C⟩:∃ W,zaQ G (w.heap.size+1+1) (slice g (zac (S.rs.take S.m)).length i) (slice AT (zac (S.rs.drop S.m)).length j) (int i64 (q:Int)) (slice R D.length c) (int i64 (S.m:Int)) (slice B z.length l) (slice A y.length t) (slice p S.acks.length r)=W:=⟨_,rfl⟩;rw [C] at a J;unfold zaQ at C;rw [C];have K:=a.out.1.cell 0;have g1:=a.out.1.cell 1;have g2:=a.out.1.cell 2;have M:=a.out.1.cell 3;have O:=a.out.1.cell 4;have Q:=a.out.1.cell 5;have L:=a.out.1.cell 6;have N:=a.out.1.cell 7;refine bodyPost_ret (v:=.tuple #[.agg #[slice g (zac (S.rs.take S.m)).length i,slice AT (zac (S.rs.drop S.m)).length j,int i64 (q:Int),slice R D.length c,int i64 (S.m:Int),slice B z.length l,slice A y.length t,slice p S.acks.length r],int i64 2]) (by simp [results,Tryz.results64,go_sem,K,g1,g2,M,O,Q,L,N]) rfl ?_;exact⟨_,rfl,⟨g,i,AT,j,R,c,D,B,l,z,A,t,y,p,r,rfl,(Z.out.step J.out (F':=F) (fun k E=>Or.inl (Or.inl E)))⟩,a.out.2.2.1 _ aa.out (by omega)⟩
 ·have e0:(er != 0)=true:=by simpa using V
  go_wp2;obtain⟨W8,C⟩:∃ W,zaQ G (w.heap.size+1+1) (slice g (zac (S.rs.take S.m)).length i) (slice AT (zac (S.rs.drop S.m)).length j) (int i64 (q:Int)) (slice R D.length c) (int i64 (S.m:Int)) (slice B z.length l) (slice A y.length t) (slice p S.acks.length r)=W:=⟨_,rfl⟩;rw [C] at a J;unfold zaQ at C;rw [C];have K:=a.out.1.cell 0;have g1:=a.out.1.cell 1;have g2:=a.out.1.cell 2;have M:=a.out.1.cell 3;have O:=a.out.1.cell 4;have Q:=a.out.1.cell 5;have L:=a.out.1.cell 6;have N:=a.out.1.cell 7;refine bodyPost_ret (v:=.tuple #[.agg #[slice g (zac (S.rs.take S.m)).length i,slice AT (zac (S.rs.drop S.m)).length j,int i64 (q:Int),slice R D.length c,int i64 (S.m:Int),slice B z.length l,slice A y.length t,slice p S.acks.length r],int i64 2]) (by simp [results,Tryz.results64,go_sem,K,g1,g2,M,O,Q,L,N]) rfl ?_;exact⟨_,rfl,⟨g,i,AT,j,R,c,D,B,l,z,A,t,y,p,r,rfl,(Z.out.step J.out (F':=F) (fun k E=>Or.inl (Or.inl E)))⟩,a.out.2.2.1 _ aa.out (by omega)⟩
end
section
open Go.RowKit Go.ChangeShapes Mem Be Word Frm Go.Maps
theorem zlR(F:Nat->Prop)(S:St8)(q:Nat)(x:EV)(who:Int)(T:zhr x.1 who)(hold:¬ 0<zeu x.1 (ofT S.N x.1.k))(ah:S.N.length<=1073741824)(aM:S.acks.length<=1466015503701)(w:World)(hF:∀ k,F k->k<w.heap.size)(v:Value)(h:zbD F S q w v) :
 Calls Tryz.prog 64 #[v,.agg #[.string ⟨x.1.k.toArray⟩,int i64 x.1.s,int i64 x.1.u,int i64 x.1.o,bool x.1.has,slice x.2.1 x.1.v.length x.2.2],int i64 who] w (zks F (fun v=>.tuple #[v,int i64 0]) (zdv S (zaW x.1 who)) q w):=by
 obtain⟨i1,aI,aB,aH,aO⟩:=info_parts zdP;obtain⟨D,G,AT,K,R,c,Q,r,j,i,I,M,O,AC,cC,rfl,h⟩:=h;obtain⟨d,aD,ao,az,ay,ai⟩:=zs4 w (slice D (zac (S.rs.take S.m)).length G) (slice AT (zac (S.rs.drop S.m)).length K) (int i64 (q:Int)) (slice R Q.length c) (int i64 (S.m:Int)) (slice r i.length j) (slice I O.length M) (slice AC S.acks.length cC) (.string ⟨x.1.k.toArray⟩) (int i64 x.1.s) (int i64 x.1.u) (int i64 x.1.o) (bool x.1.has) (slice x.2.1 x.1.v.length x.2.2);have h0:RefTR d (zam (zam F w.heap.size) (w.heap.size+1+1)) S D G AT K R c Q r j i I M O AC cC:=h.step (Touch.ofBelow ao) fun k a=>by
  rcases a with(a|a)|a
  ·exact Or.inl a
  ·exact Or.inr (by omega)
  ·exact Or.inr (by omega)
 have ax:∀ k,zam (zam F w.heap.size) (w.heap.size+1+1) k->k<d.heap.size:=fun k a=>by
  have h1:=ai.lt;rcases a with(a|a)|a
  ·have:=hF k a;omega
  ·omega
  ·omega
 have aV:=zah T.1;have a:(⟨x.1.k.toArray⟩:ByteArray).size=x.1.k.length:=by show x.1.k.toArray.size=_;simp
 have ae:=zcF ⟨x.1.k.toArray⟩ x.1.s x.1.u x.1.o x.1.has x.2.1 x.1.v.length x.2.2 (by omega) (by rw [a];omega) d;rw [a,show zav x.1.k.length x.1.v.length x.1.s x.1.u x.1.o x.1.has=0 from T.1] at ae;unfold zaT at ae;have bg:(x.1.s==0)=false:=by simpa using T.2.1
 have b1:decide (who<0)=false:=by have:=T.2.2.1;simp;omega
 have b2:decide ((1048575:Int)<who)=false:=by have:=T.2.2.2;simp;omega
 have aK:i.length<=1073741824:=by rw [<-h.un,List.length_map] at ah;exact ah
 obtain⟨E,hE⟩:∃ E,ofT S.N x.1.k=E:=⟨_,rfl⟩;rw [hE] at hold;unfold zeu at hold;obtain⟨cc,ag⟩:∃ cc,zdC x.1.s x.1.u x.1.o E.s E.u E.o=cc:=⟨_,rfl⟩;rw [ag] at hold;have aZ:=zhd ag;have bk:decide ((0:Int)<cc)=false:=by simpa using hold
 have aY:Hid (∀ W,Below d.heap.size d W->Calls Tryz.prog 18 #[slice r i.length j,.string ⟨x.1.k.toArray⟩] W (zv9 E W)):=zhd fun W L=>by
  have:=zdw i.length j r i x.1.k rfl aK W (h0.ue.below L).env;rw [h0.un,hE] at this;exact this
 have bd:=zhd ae;have aA:=zhd ao;have U:=zhd az;have ab:=zhd ay;have aL:=zhd ai;have aG:=zhd h0;have aP:=zhd aD;have aU:=zhd ax;have X:=zhd aM;clear hF h ao az ay ai h0 aD ae a T aV aK hE ag hold ah aM ax;go_enter Tryz.func64,Tryz.ntmps64
 go_wp2_with fail
 rw [aP.out];refine bd.out.mono ?_;rintro e w2 ⟨rfl,Y⟩;have bf:=zhd Y;have aj:Hid (Below d.heap.size d w2.drew):=zhd Y.drew;have ak:Hid (∀ w':World,Below d.heap.size d w'->w'.cell? ⟨w.heap.size,5,none⟩=some (slice r i.length j)/\w'.cell? ⟨w.heap.size+1,0,none⟩=some (.string ⟨x.1.k.toArray⟩)/\w'.cell? ⟨w.heap.size+1,1,none⟩=some (int i64 x.1.s)/\w'.cell? ⟨w.heap.size+1,2,none⟩=some (int i64 x.1.u)/\w'.cell? ⟨w.heap.size+1,3,none⟩=some (int i64 x.1.o)):=zhd fun W' hw=>by
  have ht:=U.out.below hw U.out.lt;have Z:=ab.out.below hw ab.out.lt;exact⟨ht.cell 5,Z.cell 0,Z.cell 1,Z.cell 2,Z.cell 3⟩
 obtain⟨s0,s1,s2,s3,s4⟩:=ak.out w2 Y;have e0:(((0:Int) != 0))=false:=rfl;clear Y;go_wp2_with fail
 go_region_held3 (fun w'=>w'.cell? ⟨w.heap.size,5,none⟩=some (slice r i.length j)/\w'.cell? ⟨w.heap.size+1,0,none⟩=some (.string ⟨x.1.k.toArray⟩)/\w'.cell? ⟨w.heap.size+1,1,none⟩=some (int i64 x.1.s)/\w'.cell? ⟨w.heap.size+1,2,none⟩=some (int i64 x.1.u)/\w'.cell? ⟨w.heap.size+1,3,none⟩=some (int i64 x.1.o))
  (first|go_keep|exact ak.out _ z.out|exact ak.out _ au.out)
  (first
   | (go_at_call 18;refine(aY.out _ aj.out).mono ?_;rintro e w3 ⟨A3,c3,rfl,_,L⟩;(have au:Hid (Below d.heap.size d w3):=zhd (aj.out.trans (L.mono aj.out.size)));(have bh:=zc0 ⟨E.k.toArray⟩ E.s E.u E.o E.has A3 E.v.length c3);clear L)
   | (go_at_call 22;refine(zcw _ _ _ _ _ _ _ aZ _).mono ?_;rintro e w4 ⟨rfl,L⟩;(have z:Hid (Below d.heap.size d w4):=zhd (au.out.trans (L.mono au.out.size)));clear L))
 have aT:=zhd (aG.out.below z.out);have t7:=(U.out.below z.out U.out.lt).cell 7;go_wp2_with (at_builtin;refine zaN (P:=Tryz.prog) (by rfl) _ _ _ (by rfl) w4.heap.size 130 i1 (.agg #[int i64 0,.string .empty,int i64 0,int i64 0,int i64 0]) 5 48 Tryz.underlying34 aI aB aH aO rfl (by decide) (slice none 0 0) 0 [] (by rfl) (World.ownsRow_nil _ _ _ _) w4.heap.size AC S.acks.length cC (zaE S.acks) (by rfl) (zcE _) (by exact aT.out.ar.row) (zdu _) (by have:=X.out;unfold maxLen;omega) (by have:=X.out;omega) (Nat.le_refl _) ?_)
 intro v' l B V _;have aq:Hid (Below w4.heap.size w4 l):=zhd ((Below.refl _ _).grown V (Nat.le_refl _) (fun g hg=>by simp [Value.ownBlock] at hg));obtain⟨A5,c5,rfl,_,_⟩:=zat B;have af:=zhd (ab.out.below (z.out.trans (aq.out.mono z.out.size)) ab.out.lt);have d0:=af.out.cell 0;have d1:=af.out.cell 1;have d2:=af.out.cell 2;have d3:=af.out.cell 3;have an:=(Below.refl l.heap.size l).alloc (Nat.le_refl _) (cells ⟨zdO (zaW x.1 who)⟩ 130);have aE:Hid ((l.alloc (cells ⟨zdO (zaW x.1 who)⟩ 130)).ownsRow w4.heap.size 130 5 (slice A5 S.acks.length c5) S.acks.length (zaE S.acks)):=zhd (zag B an);have aW:Hid (Row (l.alloc (cells ⟨zdO (zaW x.1 who)⟩ 130)) (l.heap.size+1) (some ⟨l.heap.size,0,none⟩) (zaE [zaW x.1 who])):=zhd (ziS (by exact Blk.new l 130 ⟨zdO (zaW x.1 who)⟩) (Nat.lt_succ_self _));have al:Hid (Below w4.heap.size w4 (l.alloc (cells ⟨zdO (zaW x.1 who)⟩ 130))):=zhd (aq.out.trans (an.mono aq.out.size));clear B V an t7;go_wp2_with (at_builtin;refine zaN (P:=Tryz.prog) (by rfl) _ _ _ (by rfl) w4.heap.size 130 i1 (.agg #[int i64 0,.string .empty,int i64 0,int i64 0,int i64 0]) 5 48 Tryz.underlying34 aI aB aH aO rfl (by decide) _ S.acks.length (zaE S.acks) (by rfl) (by exact aE.out) (l.heap.size+1) (some ⟨l.heap.size,0,none⟩) 1 1 (zaE [zaW x.1 who]) (by rfl) (by rfl) (by exact aW.out) (zdu _) (by have:=X.out;unfold maxLen;omega) (by have:=X.out;omega) (by exact al.out.size) ?_)
 intro v' J B V _;have aQ:=zhd (al.out.grown V al.out.size fun g hg=>(aE.out.lt g hg).1);rw [show zaE S.acks++zdO (zaW x.1 who)=zaE (S.acks++[zaW x.1 who]) by rw [zcY];simp [zaE]] at B;obtain⟨C,c6,rfl,aJ,_⟩:=zat B;have aX:=zhd B;have aR:Hid (S.acks.length+1<=c6):=zhd aJ;have aa:Below d.heap.size d J:=z.out.trans (aQ.out.mono z.out.size);have aN:=zhd aa;have y:=zhd (U.out.below aa U.out.lt);have b:=zhd (aL.out.below aa aL.out.lt);have bj:w.heap.size<J.heap.size:=y.out.lt;have bi:w.heap.size+1+1<J.heap.size:=b.out.lt;have bl:=y.out.frozen 7;have f0:=y.out.cell 0;have f1:=y.out.cell 1;have f2:=y.out.cell 2;have f3:=y.out.cell 3;have f4:=y.out.cell 4;have f5:=y.out.cell 5;have f6:=y.out.cell 6;have f7:=y.out.cell 7;have r0:=b.out.cell 0;have z0:=b.out.frozen 0;have r1:=b.out.cell 1;have z1:=b.out.frozen 1;have r2:=b.out.cell 2;have z2:=b.out.frozen 2;have r3:=b.out.cell 3;have z3:=b.out.frozen 3;have r4:=b.out.cell 4;have z4:=b.out.frozen 4;have r5:=b.out.cell 5;have z5:=b.out.frozen 5;have r6:=b.out.cell 6;have z6:=b.out.frozen 6;have r7:=b.out.cell 7;have z7:=b.out.frozen 7;have t:=zhd (zay (b.out.far (p:=⟨w.heap.size,7,none⟩) (by simp;omega) (slice C (S.acks.length+1) c6)) (slice D (zac (S.rs.take S.m)).length G) (slice AT (zac (S.rs.drop S.m)).length K) (int i64 (q:Int)) (slice R Q.length c) (int i64 (S.m:Int)) (slice r i.length j) (slice I O.length M) (slice C (S.acks.length+1) c6));have am:Hid (Touch (zam (zam F w.heap.size) (w.heap.size+1+1)) J (zaQ (J.setCell ⟨w.heap.size,7,none⟩ (slice C (S.acks.length+1) c6)) (w.heap.size+1+1) (slice D (zac (S.rs.take S.m)).length G) (slice AT (zac (S.rs.drop S.m)).length K) (int i64 (q:Int)) (slice R Q.length c) (int i64 (S.m:Int)) (slice r i.length j) (slice I O.length M) (slice C (S.acks.length+1) c6))):=zhd (((Touch.refl _ J).set_ (p:=⟨w.heap.size,7,none⟩) (Or.inl (Or.inl (Or.inr rfl))) _).trans (zai (F:=zam F w.heap.size) _ _ _ _ _ _ _ _) fun k a=>Or.inl a);clear B V aa d0 d1 d2 d3 aJ;go_wp2;obtain⟨W8,aw⟩:∃ W,zaQ (J.setCell ⟨w.heap.size,7,none⟩ (slice C (S.acks.length+1) c6)) (w.heap.size+1+1) (slice D (zac (S.rs.take S.m)).length G) (slice AT (zac (S.rs.drop S.m)).length K) (int i64 (q:Int)) (slice R Q.length c) (int i64 (S.m:Int)) (slice r i.length j) (slice I O.length M) (slice C (S.acks.length+1) c6)=W:=⟨_,rfl⟩;rw [aw] at t am;unfold zaQ at aw;rw [aw];have g0:=t.out.1.cell 0;have g1:=t.out.1.cell 1;have g2:=t.out.1.cell 2;have g3:=t.out.1.cell 3;have g4:=t.out.1.cell 4;have g5:=t.out.1.cell 5;have g6:=t.out.1.cell 6;have g7:=t.out.1.cell 7;refine bodyPost_ret (v:=.tuple #[.agg #[slice D (zac (S.rs.take S.m)).length G,slice AT (zac (S.rs.drop S.m)).length K,int i64 (q:Int),slice R Q.length c,int i64 (S.m:Int),slice r i.length j,slice I O.length M,slice C (S.acks.length+1) c6],int i64 0]) (by simp [results,Tryz.results64,go_sem,g0,g1,g2,g3,g4,g5,g6,g7]) rfl ?_;have A:=(aG.out.below aN.out).step am.out (F':=F) (fun k a=>Or.inl (Or.inl (Or.inl a)));have aS:=(zaF (F:=zam (zam F w.heap.size) (w.heap.size+1+1)) (fun k a=>Nat.lt_of_lt_of_le (aU.out k a) z.out.size) aX.out).grow (F':=F) (fun k a=>Or.inl (Or.inl (Or.inl a))) am.out;refine⟨_,rfl,⟨D,G,AT,K,R,c,Q,r,j,i,I,M,O,C,c6,?_,⟨A.rs,A.log,A.un,A.uc,A.ue,A.ln,A.lc,A.le,aS,?_⟩⟩,t.out.2.2.1 _ ((aA.out.trans (aN.out.mono aA.out.size)).setCell (p:=⟨w.heap.size,7,none⟩) (Nat.le_refl _) _) (by omega)⟩
 ·simp [zdv]
 ·simp [zdv];exact aR.out
end
end Go.Proofs.YtahnjkkgojfdmaaGreatDoor
