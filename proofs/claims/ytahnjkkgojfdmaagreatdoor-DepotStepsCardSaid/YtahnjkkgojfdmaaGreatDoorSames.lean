import Derived.Test.YtahnjkkgojfdmaaGreatDoorCore
set_option maxRecDepth 10000
set_option maxHeartbeats 1000000
namespace Go.Proofs.YtahnjkkgojfdmaaGreatDoor
section
open Go.RowKit Mem
def iV(x:Int):Value:=.int .i64 x
theorem zaU(w:World)(n B:Nat):Below B w (w.drewN n):=⟨rfl,rfl,rfl,Nat.le_refl _,fun _ _=>rfl⟩
def zss(v:Value)(w:World)(e:Ending)(w':World):Prop:=e=.returned v/\∃ q,w'=w.drewN q
theorem zcW{w w':World}{B:Nat}{A:Option Addr}{a:List Value}(h:Row w B A a)(hq:∃ q,w'=w.drewN q):Row w' B A a:=by
 obtain⟨q,rfl⟩:=hq;exact h
theorem zlw{w w':World}{B:Nat}(hq:∃ q,w'=w.drewN q):Below B w w':=by
 obtain⟨q,rfl⟩:=hq;exact zaU w q B
end
end Go.Proofs.YtahnjkkgojfdmaaGreatDoor
