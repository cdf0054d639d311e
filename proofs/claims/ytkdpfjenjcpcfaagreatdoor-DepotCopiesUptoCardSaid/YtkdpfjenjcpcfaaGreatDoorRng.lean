/- Points of a ring in their order, each once; who follows a word; a node more, a node less. No dump is imported here. -/
import Derived.WalkKit
namespace Go.Proofs.YtkdpfjenjcpcfaaGreatDoor
set_option maxRecDepth 10000
namespace Rg
abbrev Pt := Nat × Int
def ltP (p q : Pt) : Prop := p.1 < q.1 ∨ (p.1 = q.1 ∧ p.2 < q.2)
instance (p q : Pt) : Decidable (ltP p q) := inferInstanceAs (Decidable (_ ∨ _))
end Rg
end Go.Proofs.YtkdpfjenjcpcfaaGreatDoor
