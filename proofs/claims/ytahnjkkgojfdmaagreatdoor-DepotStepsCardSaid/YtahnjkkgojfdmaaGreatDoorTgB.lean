import Derived.Test.YtahnjkkgojfdmaaGreatDoorTg
import Derived.Test.YtahnjkkgojfdmaaGreatDoorSeq
set_option maxRecDepth 10000
set_option maxHeartbeats 4000000
namespace Go.Proofs.YtahnjkkgojfdmaaGreatDoor
section
open Go.RowKit Mem Be
theorem zuk(bs:List UInt8):(zcK bs).2.1<=bs.length:=by
 obtain⟨⟨d,k1,C⟩,h⟩:∃ y,za2 bs=y:=⟨_,rfl⟩;obtain⟨⟨s,a,e2⟩,l⟩:∃ y,zcg 1099511627776 (bs.drop k1)=y:=⟨_,rfl⟩;obtain⟨⟨u,b,e3⟩,j⟩:∃ y,zcg 1048576 (bs.drop (k1+a))=y:=⟨_,rfl⟩;obtain⟨⟨o,c,p⟩,g⟩:∃ y,zcg 1048576 (bs.drop (k1+a+b))=y:=⟨_,rfl⟩;obtain⟨⟨has,k5,D⟩,k⟩:∃ y,zdj (bs.drop (k1+a+b+c))=y:=⟨_,rfl⟩;obtain⟨⟨r,E,z⟩,i⟩:∃ y,za2 (bs.drop (k1+a+b+c+k5))=y:=⟨_,rfl⟩;have m:zcK bs=if C≠0 then(zaA,0,C) else if e2≠0 then(zaA,0,e2) else if e3≠0 then(zaA,0,e3) else if p≠0 then(zaA,0,p) else if D≠0 then(zaA,0,D) else
  if has=true then(if z≠0 then(zaA,0,z) else if zav d.length r.length s u o true≠0 then(zaA,0,11) else(⟨d,s,u,o,true,r⟩,k1+a+b+c+k5+E,0))
  else(if zav d.length 0 s u o false≠0 then(zaA,0,11) else(⟨d,s,u,o,false,[]⟩,k1+a+b+c+k5,0)):=by
  unfold zcK;simp only [h,l,j,g,k,i]
 have t:=zdG bs;have x:=zb4 1099511627776 (bs.drop k1);have A:=zb4 1048576 (bs.drop (k1+a));have v:=zb4 1048576 (bs.drop (k1+a+b));have B:=zgf (bs.drop (k1+a+b+c));have q:=zdG (bs.drop (k1+a+b+c+k5));rw [h] at t;rw [l] at x;rw [j] at A;rw [g] at v;rw [k] at B;rw [i] at q;simp only [List.length_drop] at t x A v B q;rw [m];clear m h l j g k i
 repeat' split
 all_goals (first|exact Nat.zero_le _|(simp only;omega))
def zbe(x:EntP):List UInt8:=zit x.k x.s x.u x.o x.has x.v
def okE(x:EntP):Prop:=zav x.k.length x.v.length x.s x.u x.o x.has=0
theorem zmI{x:EntP}(h:okE x):0<=x.s/\x.s<=1099511627775/\0<=x.u/\x.u<=1048575/\0<=x.o/\x.o<=1048575:=by
 have d:=(zah h).2.2.2.2.1;cases g1:inR x.s 1099511627775
 ·rw [zim g1] at d;exact absurd d (by decide)
 cases g2:inR x.u 1048575
 ·rw [zin g2] at d;exact absurd d (by decide)
 cases g3:inR x.o 1048575
 ·rw [zio g3] at d;exact absurd d (by decide)
 have a:=zfA g1;have b:=zfA g2;have c:=zfA g3;omega
theorem ziw(m n:Int)(d:0<=n)(c:n<m)(b:m<=1099511627776)(more:List UInt8):zcg m (zbj n++more)=(n,(zbj n).length,0):=by
 have a:zrF n:=by unfold zrF;omega
 unfold zcg;rw [zmt n a more];rw [if_neg (by simp;omega)]
theorem znH(t:Bool)(more:List UInt8):zdj (za9 t++more)=(t,1,0):=by cases t<;>rfl
theorem zsc(x:EntP)(h:okE x)(more:List UInt8):zcK (zbe x++more)=(x,(zbe x).length,0):=by
 obtain⟨k,s,u,o,has,v⟩:=x;have y:=zmI h;have a:=zah h;simp only at y a;have e:zbe ⟨k,s,u,o,has,v⟩++more=zbx k++(zbj s++(zbj u++(zbj o++(za9 has++((if has=true then zbx v else [])++more))))):=by
  unfold zbe zit zlc;simp only [List.append_assoc]
 rw [e];have j:=zil k (zbj s++(zbj u++(zbj o++(za9 has++((if has=true then zbx v else [])++more))))) (by omega);have t:=ziw 1099511627776 s (by omega) (by omega) (by omega) (zbj u++(zbj o++(za9 has++((if has=true then zbx v else [])++more))));have p:=ziw 1048576 u (by omega) (by omega) (by omega) (zbj o++(za9 has++((if has=true then zbx v else [])++more)));have g:=ziw 1048576 o (by omega) (by omega) (by omega) (za9 has++((if has=true then zbx v else [])++more));have q:=znH has ((if has=true then zbx v else [])++more);have d1:(zbx k++(zbj s++(zbj u++(zbj o++(za9 has++((if has=true then zbx v else [])++more)))))).drop (zbx k).length=zbj s++(zbj u++(zbj o++(za9 has++((if has=true then zbx v else [])++more)))):=List.drop_left;have d2:(zbx k++(zbj s++(zbj u++(zbj o++(za9 has++((if has=true then zbx v else [])++more)))))).drop ((zbx k).length+(zbj s).length)=zbj u++(zbj o++(za9 has++((if has=true then zbx v else [])++more))):=by
  rw [<-List.drop_drop,d1,List.drop_left]
 have c:(zbx k++(zbj s++(zbj u++(zbj o++(za9 has++((if has=true then zbx v else [])++more)))))).drop ((zbx k).length+(zbj s).length+(zbj u).length)=zbj o++(za9 has++((if has=true then zbx v else [])++more)):=by
  rw [<-List.drop_drop,d2,List.drop_left]
 have b:(zbx k++(zbj s++(zbj u++(zbj o++(za9 has++((if has=true then zbx v else [])++more)))))).drop ((zbx k).length+(zbj s).length+(zbj u).length+(zbj o).length)=za9 has++((if has=true then zbx v else [])++more):=by
  rw [<-List.drop_drop,c,List.drop_left]
 have r:(zbx k++(zbj s++(zbj u++(zbj o++(za9 has++((if has=true then zbx v else [])++more)))))).drop ((zbx k).length+(zbj s).length+(zbj u).length+(zbj o).length+1)=(if has=true then zbx v else [])++more:=by
  rw [<-List.drop_drop,b];cases has<;>rfl
 unfold zcK;simp only [j,d1,t,d2,p,c,g,b,q,r];have d:zav k.length v.length s u o has=0:=h;have i:(zbe ⟨k,s,u,o,has,v⟩).length=(zbx k).length+(zbj s).length+(zbj u).length+(zbj o).length+1+(if has=true then zbx v else []).length:=by
  unfold zbe zit zlc za9;simp only [List.length_append,List.length_cons,List.length_nil];omega
 rw [i];cases has
 ·have z:v=[]:=by rcases a.2.2.2.1 with h|h;exact absurd h (by decide);exact List.eq_nil_of_length_eq_zero h
  subst z;have l:zav k.length 0 s u o false=0:=d;simp [l]
 ·have m:=zil v more (by omega);simp [m,d]
end
section
open Go.RowKit Mem Be
theorem zgD{m:Int}{bs:List UInt8}{n:Int}{k:Nat}(h:zcg m bs=(n,k,0)):k<=bs.length/\bs.take k=zbj n:=by
 rcases zb4 m bs with⟨_,_,_,_,_,e⟩|⟨_,_,e⟩
 ·rw [h] at e;exact(zjq bs n k e.symm).2
 ·rw [h] at e;simp only at e;omega
theorem zjJ{bs x:List UInt8}{k:Nat}(h:za2 bs=(x,k,0)):k<=bs.length/\bs.take k=zbx x:=by
 obtain⟨⟨n,k1,e⟩,a⟩:∃ y,zbP bs=y:=⟨_,rfl⟩;unfold za2 at h;rw [a] at h;simp only at h;split at h
 ·rename_i i;simp only [Prod.mk.injEq] at h;omega
 rename_i i;have c:e=0:=by omega
 subst c;split at h
 ·simp only [Prod.mk.injEq] at h;omega
 split at h
 ·simp only [Prod.mk.injEq] at h;omega
 rename_i j l;simp only [Prod.mk.injEq,and_true] at h;obtain⟨b,g⟩:=h;obtain⟨_,hl,ht⟩:=zjq bs n k1 a;have d:x.length=n.toNat:=by rw [<-b,List.length_take,List.length_drop];omega
 refine⟨by omega,?_⟩;rw [<-g,List.take_add,b,ht];unfold zbx;rw [d,Int.toNat_of_nonneg (by omega)]
theorem zpm{bs:List UInt8}{t:Bool}{k:Nat}(h:zdj bs=(t,k,0)):k<=bs.length/\bs.take k=za9 t:=by
 match bs,h with
 | [],h=>exact absurd h (by simp [zdj])
 | b :: rest,h=>
  unfold zdj at h;rw [if_neg (by simp)] at h;split at h
  ·simp at h
  ·rename_i c;simp only [Prod.mk.injEq,List.headD_cons,and_true] at h c;obtain⟨d,g⟩:=h;subst g;refine⟨by simp,?_⟩;have:b=0\/b=1:=by
    have a:b.toNat=0\/b.toNat=1:=by omega
    rcases a with a|a
    ·left;exact UInt8.toNat_inj.1 a
    ·right;exact UInt8.toNat_inj.1 a
   rcases this with a|a<;>subst a<;>subst d<;>rfl
theorem zpn{bs:List UInt8}{x:EntP}{q:Nat}(h:zcK bs=(x,q,0)):okE x/\q<=bs.length/\bs.take q=zbe x:=by
 obtain⟨⟨a,k1,v⟩,E⟩:∃ y,za2 bs=y:=⟨_,rfl⟩;obtain⟨⟨s,b,e2⟩,C⟩:∃ y,zcg 1099511627776 (bs.drop k1)=y:=⟨_,rfl⟩;obtain⟨⟨u,c,e3⟩,G⟩:∃ y,zcg 1048576 (bs.drop (k1+b))=y:=⟨_,rfl⟩;obtain⟨⟨o,i,t⟩,D⟩:∃ y,zcg 1048576 (bs.drop (k1+b+c))=y:=⟨_,rfl⟩;obtain⟨⟨has,k5,p⟩,I⟩:∃ y,zdj (bs.drop (k1+b+c+i))=y:=⟨_,rfl⟩;obtain⟨⟨k,L,l⟩,F⟩:∃ y,za2 (bs.drop (k1+b+c+i+k5))=y:=⟨_,rfl⟩;have M:zcK bs=if v≠0 then(zaA,0,v) else if e2≠0 then(zaA,0,e2) else if e3≠0 then(zaA,0,e3) else if t≠0 then(zaA,0,t) else if p≠0 then(zaA,0,p) else
  if has=true then(if l≠0 then(zaA,0,l) else if zav a.length k.length s u o true≠0 then(zaA,0,11) else(⟨a,s,u,o,true,k⟩,k1+b+c+i+k5+L,0))
  else(if zav a.length 0 s u o false≠0 then(zaA,0,11) else(⟨a,s,u,o,false,[]⟩,k1+b+c+i+k5,0)):=by
  unfold zcK;simp only [E,C,G,D,I,F]
 have m:=zuk bs;rw [h] at m;rw [M] at h;by_cases d:v=0
 case neg=>rw [if_pos d] at h;simp only [Prod.mk.injEq] at h;omega
 by_cases g:e2=0
 case neg=>rw [if_neg (by simp [d]),if_pos g] at h;simp only [Prod.mk.injEq] at h;omega
 by_cases j:e3=0
 case neg=>rw [if_neg (by simp [d]),if_neg (by simp [g]),if_pos j] at h;simp only [Prod.mk.injEq] at h;omega
 by_cases r:t=0
 case neg=>rw [if_neg (by simp [d]),if_neg (by simp [g]),if_neg (by simp [j]),if_pos r] at h;simp only [Prod.mk.injEq] at h;omega
 by_cases A:p=0
 case neg=>rw [if_neg (by simp [d]),if_neg (by simp [g]),if_neg (by simp [j]),if_neg (by simp [r]),if_pos A] at h;simp only [Prod.mk.injEq] at h;omega
 subst d;subst g;subst j;subst r;subst A;rw [if_neg (by simp),if_neg (by simp),if_neg (by simp),if_neg (by simp),if_neg (by simp)] at h;obtain⟨_,K⟩:=zjJ E;obtain⟨_,J⟩:=zgD C;obtain⟨_,t3⟩:=zgD G;obtain⟨_,t4⟩:=zgD D;obtain⟨_,t5⟩:=zpm I;have B:bs.take (k1+b+c+i+k5)=zbx a++(zbj s++(zbj u++(zbj o++za9 has))):=by
  rw [List.take_add,List.take_add,List.take_add,List.take_add,K,J,t3,t4,t5];simp only [List.append_assoc]
 cases has
 ·rw [if_neg (by simp)] at h;by_cases hq:zav a.length 0 s u o false=0
  case neg=>rw [if_pos hq] at h;simp only [Prod.mk.injEq] at h;omega
  rw [if_neg (by rw [hq];simp)] at h;simp only [Prod.mk.injEq,and_true] at h;obtain⟨rfl,rfl⟩:=h;refine⟨hq,m,?_⟩;rw [B];unfold zbe zit zlc;simp
 ·rw [if_pos (by simp)] at h;by_cases z:l=0
  case neg=>rw [if_pos z] at h;simp only [Prod.mk.injEq] at h;omega
  subst z;rw [if_neg (by simp)] at h;by_cases hq:zav a.length k.length s u o true=0
  case neg=>rw [if_pos hq] at h;simp only [Prod.mk.injEq] at h;omega
  rw [if_neg (by rw [hq];simp)] at h;simp only [Prod.mk.injEq,and_true] at h;obtain⟨rfl,rfl⟩:=h;obtain⟨_,N⟩:=zjJ F;refine⟨hq,m,?_⟩;rw [List.take_add,B,N];unfold zbe zit zlc;simp
theorem zjK(x:EntP)(h:okE x):zbT (zbe x)=(x,0):=by
 have:=zsc x h [];rw [List.append_nil] at this;rw [ze7];unfold zda;rw [this];simp
theorem znI{bs:List UInt8}{x:EntP}{e:Int}(h:zbT bs=(x,e)):(e≠0/\x=zaA)\/(e=0/\okE x/\zbe x=bs):=by
 rw [ze7] at h;obtain⟨⟨y,q,f⟩,a⟩:∃ y,zcK bs=y:=⟨_,rfl⟩;unfold zda at h;rw [a] at h;simp only at h;split at h
 ·rename_i g;left;simp only [Prod.mk.injEq] at h;exact⟨by omega,h.1.symm⟩
 ·rename_i g;have d:f=0:=by omega
  subst d;obtain⟨c,i,b⟩:=zpn a;split at h
  ·left;simp only [Prod.mk.injEq] at h;exact⟨by omega,h.1.symm⟩
  ·right
   simp only [Prod.mk.injEq] at h;obtain⟨rfl,rfl⟩:=h;exact⟨rfl,c,by rw [<-b];exact List.take_of_length_le (by omega)⟩
end
end Go.Proofs.YtahnjkkgojfdmaaGreatDoor
