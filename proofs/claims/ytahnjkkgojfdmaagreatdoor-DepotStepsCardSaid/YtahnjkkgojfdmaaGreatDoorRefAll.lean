import Derived.Test.YtahnjkkgojfdmaaGreatDoorPk
import Derived.Test.YtahnjkkgojfdmaaGreatDoorSeq
import Derived.Test.YtahnjkkgojfdmaaGreatDoorSames
set_option maxRecDepth 10000
set_option maxHeartbeats 1000000
namespace Go.Proofs.YtahnjkkgojfdmaaGreatDoor
section
open Go.RowKit Mem Be
theorem ztL:(Tryz.prog.info? 27).map (fun i=>(i.zero,i.size,i.bytes))=some (some (.slice none 0 0),1,24):=by kernel_rfl
theorem zfg:Be.Good za2:=fun bs c=>by
 rcases zdG bs with⟨_,b,a⟩|⟨_,_,h⟩
 ·exact⟨b,a⟩
 ·omega
theorem zpP(w:World)(t:TypeId)(v:Value):Row (w.alloc (.cells #[v] t)) (w.heap.size+1) (some ⟨w.heap.size,0,none⟩) [v]:=by
 refine Or.inr ⟨w.heap.size,0,rfl,by omega,fun j a=>?_⟩;have:=cell_of_row (w.alloc (.cells #[v] t)) w.heap.size j #[v] t (0,0) (heap_alloc_new w _);rw [Nat.zero_add,this];have:j=0:=by simpa using a
 subst this;rfl
def zvO(r:List (List UInt8)×Int)(w:World)(e:Ending)(w':World):Prop:=
 ∃ (A:Option Addr) (c:Nat) (rs:List zb3),e=.returned (.tuple #[.slice A rs.length c,.int .i64 r.2])/\rs.map (fun x=>x.2.1)=r.1/\w'.ownsRow w.heap.size 27 1 (.slice A rs.length c) rs.length (rs.map zbN)/\Below w.heap.size w w'/\
  ∀ x∈rs,Row w' w'.heap.size x.1 (x.2.1.map zaa)
theorem zpQ{r:List (List UInt8)×Int}{rs:List zb3}{e:Int}(i:(rs.map (fun x=>x.2.1),e)=r){w w1:World}{v:Value}{n:Nat}{B:Nat}(j:w.heap.size<=B)(a:w1.ownsRow B 27 1 v n (rs.map zbN))(c:Below w.heap.size w w1)
 (d:∀ x∈rs,Row w1 w1.heap.size x.1 (x.2.1.map zaa)):zvO r w (.returned (.tuple #[v,.int .i64 e])) w1:=by
 subst i;have b:n=rs.length:=by have:=a.1;simp at this;exact this.symm
 subst b;rcases a.2 with⟨rfl,b⟩|⟨g,cap,h,rfl,k,rest⟩
 ·have:rs=[]:=List.eq_nil_of_length_eq_zero b;subst this;exact⟨none,0,[],rfl,rfl,World.ownsRow_nil _ _ _ _,c,by simp⟩
 ·exact⟨_,cap,rs,rfl,rfl,⟨a.1,Or.inr ⟨g,cap,h,rfl,by omega,rest⟩⟩,c,d⟩
theorem zmU(x:zb3):∀ u∈[zbN x],u.oneCell'=true:=by intro u a;simp at a;subst a;rfl
end
end Go.Proofs.YtahnjkkgojfdmaaGreatDoor
