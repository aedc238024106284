/- What addresses are written as. No program is named here. -/
import Derived.Test.YtcookddgaomkiaaNoughtPlain
namespace Go.Proofs.Ytcookddgaomkiaa
namespace Adr
/-- Groups with a colon between each two. -/
def rowT (g : List UInt16) : List UInt8 := Lib.join (g.map fun x => hexT x.toNat) [58]
theorem joinTail_length (sep : List UInt8) (hs : sep.length = 1) (m : Nat) : ∀ r : List (List UInt8), (∀ p ∈ r, p.length ≤ m) → (Lib.joinTail sep r).length ≤ (m + 1) * r.length
  | [], _ => by simp [Lib.joinTail]
  | p :: r, h => by
    have ih := joinTail_length sep hs m r (fun q hq => h q (by simp [hq]))
    have hp := h p (by simp)
    unfold Lib.joinTail at ih ⊢
    simp only [List.map_cons, List.flatten_cons, List.length_append, List.length_cons]
    rw [Nat.mul_add]
    omega
theorem join_length (sep : List UInt8) (hs : sep.length = 1) (m : Nat) (r : List (List UInt8)) (h : ∀ p ∈ r, p.length ≤ m) : (Lib.join r sep).length ≤ (m + 1) * r.length := by
  cases r with
  | nil => simp [Lib.join_nil]
  | cons p r =>
    rw [Lib.join_cons, List.length_append, List.length_cons]
    have h1 := joinTail_length sep hs m r (fun q hq => h q (by simp [hq]))
    have h2 := h p (by simp)
    rw [Nat.mul_add]
    omega
theorem hexes_small (g : List UInt16) : ∀ p ∈ g.map fun x => hexT x.toNat, p.length ≤ 4 := by
  intro p hp
  obtain ⟨x, _, rfl⟩ := List.mem_map.1 hp
  exact (hexT_length _).2
theorem rowT_length (g : List UInt16) : (rowT g).length ≤ 5 * g.length := by
  have := join_length [58] rfl 4 (g.map fun x => hexT x.toNat) (hexes_small g)
  rw [List.length_map] at this
  exact this
end Adr
namespace Adr
/-- What an address's groups are written as. -/
def tx6 (g : List UInt16) : List UInt8 := if nf g = nt g then rowT g else rowT (g.take (nf g)) ++ 58 :: 58 :: rowT (g.drop (nt g))
end Adr
namespace Adr
/-- Four numbers with points between. -/
def tx4 (l : List UInt8) : List UInt8 := Lib.join (l.map fun c => Lib.decDigits c.toNat) [46]
theorem decT_length (n : Nat) (h : n < 256) : (Lib.decDigits n).length ≤ 3 := by
  unfold Lib.decDigits
  split
  · simp
  · unfold Lib.decDigits
    split
    · simp
    · unfold Lib.decDigits
      split
      · simp
      · omega
theorem decs_small (l : List UInt8) : ∀ p ∈ l.map fun c => Lib.decDigits c.toNat, p.length ≤ 3 := by
  intro p hp
  obtain ⟨c, _, rfl⟩ := List.mem_map.1 hp
  exact decT_length _ c.toNat_lt
end Adr
end Go.Proofs.Ytcookddgaomkiaa
