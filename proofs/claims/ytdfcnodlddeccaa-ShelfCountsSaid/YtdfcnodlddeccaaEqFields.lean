/- A struct held against itself, field by field. -/
import Derived.Test.YtdfcnodlddeccaaOctets
import Derived.Laws.StructEq
namespace Go.Proofs.Ytdfcnodlddeccaa
open Go.RowKit
theorem eqFields_same {P : Program} {d : Nat} {cs : Array Value} {W : World} : ∀ fs : List Field, (∀ f ∈ fs, f.name ≠ "_" ∧ ∃ v, (part f.type cs f.offset).run P W = .ok v W ∧ (Op.equalIn d f.type v v).run P W = .ok true W) → (Op.eqFields d cs cs fs).run P W = .ok true W
  | [], _ => by simp [Op.eqFields]
  | f :: fs, h => by
    obtain ⟨h1, v, h2, h3⟩ := h f (by simp)
    have ih := eqFields_same (P := P) (d := d) (cs := cs) (W := W) fs (fun g hg => h g (by simp [hg]))
    simp only [Op.eqFields, Sem.run_bind, h1, h2, h3, Result.andThen_ok, Sem.run_ite, Sem.run_pure, ne_eq, not_false_eq_true, if_true, ih]
    rfl
end Go.Proofs.Ytdfcnodlddeccaa
