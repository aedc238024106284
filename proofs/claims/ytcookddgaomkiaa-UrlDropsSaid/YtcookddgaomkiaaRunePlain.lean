/- Plain lemmas on runes: what is read of bytes beyond the first 128 holds such bytes alone, and what is written of such a rune ends with one. No program is named here. -/
import Derived.Laws.RangeAny
import Derived.Lib.IndexAny
import Derived.Test.YtcookddgaomkiaaPlain
namespace Go.Proofs.Ytcookddgaomkiaa
namespace Rune
theorem get_byte (s : ByteArray) (k : Nat) (h : k < s.size) : s.get! k = s[k]'h := by
  simp [ByteArray.get!, getElem!_pos, h]
  rfl
theorem cont_high {n : Nat} (h : n / 64 = 2) : 128 ≤ n := by omega
/-- Where a byte beyond 127 stands, all bytes of the rune are such. -/
theorem decode_skip (s : ByteArray) (pos : Nat) (h : pos < s.size) (ha : 128 ≤ (s[pos]'h).toNat) :
    ∀ k, pos ≤ k → k < pos + (Utf8.decode s pos).2 → ∃ hk : k < s.size, 128 ≤ (s[k]'hk).toNat := by
  have hn : ¬ (s[pos]'h).toNat < 128 := by omega
  have one : ∀ k, pos ≤ k → k < pos + 1 → ∃ hk : k < s.size, 128 ≤ (s[k]'hk).toNat := by
    intro k h1 h2
    obtain rfl : k = pos := by omega
    exact ⟨h, ha⟩
  have more : ∀ j, (decide (pos + j < s.size) && ((s.get! (pos + j)).toNat / 64 == 2)) = true → ∃ hk : pos + j < s.size, 128 ≤ (s[pos + j]'hk).toNat := by
    intro j hj
    rw [Bool.and_eq_true, decide_eq_true_eq, beq_iff_eq] at hj
    refine ⟨hj.1, ?_⟩
    rw [get_byte s _ hj.1] at hj
    exact cont_high hj.2
  simp only [Utf8.decode, get_at s pos h, hn, if_false]
  split
  · rename_i hc
    rw [Bool.and_eq_true] at hc
    have m1 := more 1 hc.2
    split
    · intro k h1 h2
      rcases Nat.lt_or_ge k (pos + 1) with hk | hk
      · exact one k h1 hk
      · obtain rfl : k = pos + 1 := by simp at h2; omega
        exact m1
    · exact one
  · split
    · rename_i hc
      rw [Bool.and_eq_true, Bool.and_eq_true] at hc
      have m1 := more 1 hc.1.2
      have m2 := more 2 hc.2
      split
      · intro k h1 h2
        rcases Nat.lt_or_ge k (pos + 1) with hk | hk
        · exact one k h1 hk
        · rcases Nat.lt_or_ge k (pos + 2) with hk2 | hk2
          · obtain rfl : k = pos + 1 := by omega
            exact m1
          · obtain rfl : k = pos + 2 := by simp at h2; omega
            exact m2
      · exact one
    · split
      · rename_i hc
        rw [Bool.and_eq_true, Bool.and_eq_true, Bool.and_eq_true] at hc
        have m1 := more 1 hc.1.1.2
        have m2 := more 2 hc.1.2
        have m3 := more 3 hc.2
        split
        · intro k h1 h2
          rcases Nat.lt_or_ge k (pos + 1) with hk | hk
          · exact one k h1 hk
          · rcases Nat.lt_or_ge k (pos + 2) with hk2 | hk2
            · obtain rfl : k = pos + 1 := by omega
              exact m1
            · rcases Nat.lt_or_ge k (pos + 3) with hk3 | hk3
              · obtain rfl : k = pos + 2 := by omega
                exact m2
              · obtain rfl : k = pos + 3 := by simp at h2; omega
                exact m3
        · exact one
      · exact one
theorem high_byte (n : Nat) : 128 ≤ (UInt8.ofNat (128 + n % 64)).toNat := by rw [UInt8.toNat_ofNat']; omega
/-- What is written of a rune beyond 127: two bytes or more, the last one beyond 127. -/
theorem encode_high (r : Int) (h : 128 ≤ r) : ∃ n c, (Utf8.encode r).size = n + 2 ∧ n ≤ 2 ∧ (Utf8.encode r).data.toList[n + 1]? = some c ∧ 128 ≤ c.toNat := by
  unfold Utf8.encode
  have hc : ¬ (if Utf8.valid r then r.toNat else Utf8.runeError) < 128 := by
    split
    · omega
    · decide
  generalize (if Utf8.valid r then r.toNat else Utf8.runeError) = c at hc
  simp only [hc, if_false]
  split
  · exact ⟨0, _, rfl, by omega, rfl, high_byte _⟩
  · split
    · exact ⟨1, _, rfl, by omega, rfl, high_byte _⟩
    · exact ⟨2, _, rfl, by omega, rfl, high_byte _⟩
theorem any_skip {s chars : List UInt8} {i j : Nat} (hi : Lib.NoAny s chars i) (hm : ∀ (k : Nat) b, i ≤ k → k < j → s[k]? = some b → chars.contains b = false) : Lib.NoAny s chars j := by
  intro k b hk hb
  rcases Nat.lt_or_ge k i with h | h
  · exact hi k b h hb
  · exact hm k b h hk hb
theorem low_free {chars : List UInt8} {b : UInt8} (hch : ∀ c ∈ chars, c.toNat < 128) (hb : 128 ≤ b.toNat) : chars.contains b = false := by
  cases e : chars.contains b with
  | false => rfl
  | true =>
    have := hch b (List.contains_iff_mem.1 e)
    omega
/-- Bytes below 128 hold none beyond. -/
theorem no_byte {c : UInt8} (hc : 128 ≤ c.toNat) : ∀ {l : List UInt8}, (∀ b ∈ l, b.toNat < 128) → Lib.indexByte l c = -1
  | [], _ => rfl
  | x :: r, h => by
    have hne : x ≠ c := fun e => by have := h x (by simp); rw [e] at this; omega
    have ih := no_byte hc (l := r) fun b hb => h b (by simp [hb])
    show (if x == c then 0 else if Lib.indexByte r c == -1 then -1 else Lib.indexByte r c + 1) = -1
    rw [ih, beq_eq_false_iff_ne.2 hne]; rfl
end Rune
end Go.Proofs.Ytcookddgaomkiaa
