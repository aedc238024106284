/- Two hosts held against each other. -/
import Derived.Test.YtcookddgaomkiaaHostRow
namespace Go.Proofs.Ytcookddgaomkiaa
open Go.RowKit
theorem own_base {w : World} {B B' n : Nat} {t : TypeId} {v : Value} {xs : List Value} (h : w.ownsRow B' t 1 v n xs) (hb : B ≤ B') : w.ownsRow B t 1 v n xs := by
  refine ⟨h.1, ?_⟩
  rcases h.2 with k | ⟨g, cap, cur, e, hg, r⟩
  · exact .inl k
  · exact .inr ⟨g, cap, cur, e, Nat.le_trans hb hg, r⟩
theorem eql_host (h g : Hst.Host) (hh : h.addr.length = 16) (hg : g.addr.length = 16) (W : World) :
    (binOp .eql 25 (.agg (hostA h)) (.agg (hostA g))).run Try.prog W = .ok (.bool (decide (h = g))) W := by
  rw [run_eql_struct, eq_host h g hh hg W]; rfl
theorem neq_host (h g : Hst.Host) (hh : h.addr.length = 16) (hg : g.addr.length = 16) (W : World) :
    (binOp .neq 25 (.agg (hostA h)) (.agg (hostA g))).run Try.prog W = .ok (.bool (!decide (h = g))) W := by
  rw [run_neq_struct, eq_host h g hh hg W]; rfl
end Go.Proofs.Ytcookddgaomkiaa
