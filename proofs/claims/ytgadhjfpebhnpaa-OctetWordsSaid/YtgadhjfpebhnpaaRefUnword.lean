/- The walk of the reference's Unword. -/
import Derived.Test.YtgadhjfpebhnpaaUnword
import Derived.Test.YtgadhjfpebhnpaaRefWord
import Derived.Test.YtgadhjfpebhnpaaLower
import Derived.Test.YtgadhjfpebhnpaaLaw
namespace Go.Proofs.Ytgadhjfpebhnpaa
open Go.RowKit
namespace Oct
theorem word_one (b : UInt8) : word [b] = wordOf b := by simp [word]
/-- The form of b lies at k just where the next byte is b. -/
theorem fit_yes {l : List UInt8} {k n : Nat} {b : UInt8} (h : next (l.drop k) = (b, n)) (hn : n ≠ 0) : (l.drop k).take (wordOf b).length = wordOf b ∧ (wordOf b).length = n ∧ n ≤ l.length - k := by
  have h1 := wordOf_next h hn
  have h2 := next_le (l.drop k)
  rw [h, List.length_drop] at h2
  refine ⟨?_, h1.2.symm, h2.1⟩
  conv => lhs; rw [h1.1]
  exact List.take_left
theorem fit_no {l : List UInt8} {k n : Nat} {b d : UInt8} (h : next (l.drop k) = (d, n)) (hb : n = 0 ∨ b ≠ d) : (l.drop k).take (wordOf b).length ≠ wordOf b := by
  intro e
  have h1 := next_wordOf b ((l.drop k).drop (wordOf b).length)
  have h2 : wordOf b ++ (l.drop k).drop (wordOf b).length = l.drop k := by
    conv => lhs; lhs; rw [← e]
    exact List.take_append_drop _ _
  rw [h2, h] at h1
  obtain ⟨rfl, rfl⟩ := Prod.mk.inj h1
  rcases hb with hb | hb
  · have := wordOf_length d; omega
  · exact hb rfl
end Oct
theorem own_keep {w w' : World} {B n : Nat} {t : TypeId} {v : Value} {xs : List Value} (h : w.ownsRow B t 1 v n xs) (hb : Below w.heap.size w w') : w'.ownsRow B t 1 v n xs := by
  refine h.kept (row := none) ⟨hb.os, hb.tape, hb.output, hb.size, fun i hi _ => hb.block i hi⟩ ?_
  cases hv : v.ownBlock
  · exact .inl rfl
  · exact .inr (by simp)
/-- The word of one byte, its size, and whether it lies at k of the text s. -/
theorem one_word (s : ByteArray) (k : Nat) (b : UInt8) : ∃ x : ByteArray, x.data.toList = Oct.wordOf b ∧ x.size = (Oct.wordOf b).length ∧
    (∀ W, Calls Try.prog 29 #[.string ⟨#[b]⟩] W fun e w' => e = .returned (.string x) ∧ Below W.heap.size W w') ∧
    ((s.extract k (k + x.size)).toList == x.toList) = decide ((s.data.toList.drop k).take (Oct.wordOf b).length = Oct.wordOf b) := by
  have hz : (⟨(Oct.wordOf b).toArray⟩ : ByteArray).size = (Oct.wordOf b).length := List.size_toArray
  refine ⟨⟨(Oct.wordOf b).toArray⟩, rfl, hz, fun W => ?_, ?_⟩
  · have := refWord_calls ⟨#[b]⟩ W (by show 1 ≤ _; omega)
    unfold NewText at this
    rw [show (⟨#[b]⟩ : ByteArray).data.toList = [b] from rfl, Oct.word_one] at this
    exact this
  · rw [Oct.bytes_data, Oct.bytes_data, Lib.extract_data, hz, show k + (Oct.wordOf b).length - k = (Oct.wordOf b).length by omega, Bool.eq_iff_iff]
    simp

theorem one_byte {n : Nat} (h : n < 256) : ∃ b : UInt8, n = b.toNat := ⟨UInt8.ofNat n, by rw [UInt8.toNat_ofNat']; omega⟩
/-- In the search for the next byte d, whose form has n bytes: not found yet, or found. -/
def Looking (w : World) (k n : Nat) (d : UInt8) (acc : List UInt8) (v i f c : Value) (wi : World) : Prop :=
  ∃ cc : Nat, cc ≤ 256 ∧ c = .int .i64 cc ∧ Below w.heap.size w wi ∧
    ((f = .bool false ∧ i = .int .i64 k ∧ cc ≤ d.toNat ∧ wi.ownsRow w.heap.size 5 1 v acc.length (acc.map byteV)) ∨
     (f = .bool true ∧ i = .int .i64 ((k + n : Nat) : Int) ∧ wi.ownsRow w.heap.size 5 1 v (acc ++ [d]).length ((acc ++ [d]).map byteV)))

set_option maxRecDepth 100000 in
set_option maxHeartbeats 4000000 in
theorem refUnword_calls (s : ByteArray) (w : World) (hs : s.size ≤ 1099511627776) :
    Calls Try.prog 27 #[.string s] w (NewTextIf w.heap.size (Oct.unword s.data.toList) (Oct.isWord s.data.toList) w) := by
  obtain ⟨i0, hi, hz0, hz1, hz2⟩ := info_parts infoByte
  by_cases h37 : s.data.toList = [37]
  · have hE : (s.toList == [37]) = true := by rw [Oct.bytes_data, h37]; rfl
    have HU := Lib.hid (Oct.unword_one h37)
    clear h37
    go_enter Try.func27, Try.ntmps27
    go_wp2
    go_ret2
    exact ⟨ret_two (val_str (by rw [HU.out.1])) (val_bool HU.out.2.symm), Below.refl _ _⟩
  · have hE : (s.toList == [37]) = false := by rw [Oct.bytes_data, beq_eq_false_iff_ne]; exact h37
    have H37 := Lib.hid h37
    clear h37
    go_enter Try.func27, Try.ntmps27
    go_wp2
    go_loopw [4, 5] (fun v i wr => ∃ (k : Nat) (acc : List UInt8), k ≤ s.size ∧ i = .int .i64 k ∧ wr.ownsRow w.heap.size 5 1 v acc.length (acc.map byteV) ∧ Oct.Read s.data.toList k acc ∧ Below w.heap.size w wr) (fun _ i _ => s.size - (intOf i).toNat)
    case atStart => exact ⟨0, [], Nat.zero_le _, rfl, World.ownsRow_made w #[] 0 (Nat.le_refl _) (Nat.zero_le _) rfl, Oct.Read.start _, (Below.refl _ _).alloc (Nat.le_refl _) _⟩
    case round =>
      obtain ⟨k, acc, hk, rfl, hown0, hr, hb0⟩ := hrel
      obtain ⟨wo, rfl⟩ : ∃ wo : World, wo = wr := ⟨_, rfl⟩
      have hfew := hr.few
      have HR := Lib.hid hr
      clear hr
      by_cases hlt : k < s.size
      · have hnl := Oct.next_le (s.data.toList.drop k)
        rw [List.length_drop, Oct.length_bytes] at hnl
        have HK := Lib.hid (show k < s.data.toList.length from by rw [Oct.length_bytes]; exact hlt)
        rcases hcn : Oct.next (s.data.toList.drop k) with ⟨d, n⟩
        rw [hcn] at hnl
        have HCN := Lib.hid hcn
        simp only [] at hnl
        clear hcn
        by_cases hn : n = 0
        · subst hn
          have HU := Lib.hid (Oct.unword_none H37.out (HR.out.stop HK.out HCN.out))
          clear hnl
          go_wp2
          go_loopw [4, 5, 6, 7] (fun v i f c wi => ∃ cc : Nat, cc ≤ 256 ∧ c = .int .i64 cc ∧ f = .bool false ∧ i = .int .i64 k ∧ wi.ownsRow w.heap.size 5 1 v acc.length (acc.map byteV) ∧ Below w.heap.size w wi) (fun _ _ _ c _ => 256 - (intOf c).toNat)
          case atStart => exact ⟨0, by omega, rfl, rfl, rfl, hown0, hb0⟩
          case round =>
            obtain ⟨cc, hcc, rfl, rfl, rfl, hown, hb⟩ := hrel
            by_cases hc : cc < 256
            · obtain ⟨b, rfl⟩ := one_byte hc
              obtain ⟨x, hx, hxz, hX, hfit⟩ := one_word s k b
              rw [decide_eq_false (Oct.fit_no HCN.out (.inl rfl))] at hfit
              have hw := Oct.wordOf_length b
              rw [← hxz] at hw
              have HX := Lib.hid hX
              have hone := one_string wr b
              have hbs := hb.size
              clear hx hxz hX hcc
              by_cases hle : x.size ≤ s.size - k
              all_goals
                go_wp2_with (go_at_call 29; refine (HX.out _).mono ?_; rintro e w2 ⟨rfl, hb2⟩)
                go_roundw
                case rel => exact ⟨b.toNat + 1, by omega, by go_num, rfl, rfl, own_keep (hown.alloc _) hb2, hb.trans (((Below.refl _ wr).alloc hbs _).trans (hb2.mono (by simp; omega)))⟩
                case measure => simp [intOf]; omega
            · have : cc = 256 := by omega
              subst this
              clear hc hcc
              go_wp2
              go_ret2
              exact ⟨ret_two (val_str (by rw [HU.out.1])) (val_bool HU.out.2.symm), hb⟩
        · have HM := Lib.hid (HR.out.more HK.out HCN.out hn)
          have hn1 : 1 ≤ n := by omega
          have HN := Lib.hid hn
          have hd : d.toNat < 256 := d.toNat_lt
          clear hn
          go_wp2
          go_loopw [4, 5, 6, 7] (fun v i f c wi => Looking w k n d acc v i f c wi) (fun _ _ _ c _ => 256 - (intOf c).toNat)
          case atStart => exact ⟨0, by omega, rfl, hb0, .inl ⟨rfl, rfl, by omega, hown0⟩⟩
          case round =>
            obtain ⟨cc, hcc, rfl, hb, hcase⟩ := hrel
            rcases hcase with ⟨rfl, rfl, hcd, hown⟩ | ⟨rfl, rfl, hown⟩
            · obtain ⟨b, rfl⟩ := one_byte (n := cc) (by omega)
              obtain ⟨x, hx, hxz, hX, hfit⟩ := one_word s k b
              have hw := Oct.wordOf_length b
              rw [← hxz] at hw
              have HX := Lib.hid hX
              have hone := one_string wr b
              have hbs := hb.size
              have hb256 : b.toNat < 256 := b.toNat_lt
              by_cases hbd : b = d
              · subst hbd
                have hf := Oct.fit_yes HCN.out HN.out
                rw [decide_eq_true hf.1] at hfit
                have HXN := Lib.hid (hxz.trans hf.2.1)
                have hle : x.size ≤ s.size - k := by rw [hxz, hf.2.1]; have := hf.2.2; rw [Oct.length_bytes] at this; exact this
                clear hf hx hxz hX hcc hcd
                go_wp2_with (first
                  | (go_at_call 29; refine (HX.out _).mono ?_; rintro e w2 ⟨rfl, hb2⟩; have hown2 := own_keep (hown.alloc _) hb2; have hzz := hb2.size; simp only [World.size_alloc] at hzz)
                  | (at_builtin; refine wpList_append_own _ rfl _ _ 37 rfl w.heap.size 5 i0 (.int .u8 0) 1 1 Try.underlying37 hi hz0 hz1 hz2 rfl (by decide) _ _ _ rfl (hown2.alloc _) ⟨w2.heap.size, 0, none⟩ 1 1 [.int .u8 (b.toNat : Int)] rfl rfl (cell_one_new _ _ _) ?c1a ?c1b ?c1c ?c1d ?_))
                case c1a => intro u hu; simp at hu; subst hu; rfl
                case c1b => simp only [maxLen]; omega
                case c1c => omega
                case c1d => simp; omega
                · intro v' w3 hown' hgrow _
                  have R : w3.ownsRow w.heap.size 5 1 v' (acc ++ [b]).length ((acc ++ [b]).map byteV) := by rw [List.length_append, List.map_append]; exact hown'
                  have B := hb.trans ((((Below.refl _ wr).alloc hbs _).trans (hb2.mono (by simp; omega))).trans (((Below.refl _ w2).alloc (by omega) _).grown hgrow (by simp; omega) (fun g hg => (hown2.lt g hg).1)))
                  have HB := Lib.hid B
                  clear hown' hgrow hown hown2 hfit hone
                  go_wp2
                  go_roundw
                  case rel => exact ⟨b.toNat + 1, by omega, by go_num, HB.out, .inr ⟨rfl, val_int (by rw [HXN.out]; omega), R⟩⟩
                  case measure => simp [intOf]; omega
              · rw [decide_eq_false (Oct.fit_no HCN.out (.inr hbd))] at hfit
                have hne : b.toNat ≠ d.toNat := fun e => hbd (Oct.eq_of_toNat e)
                have hcd2 : b.toNat < d.toNat := by omega
                clear hx hxz hX hcc hcd hbd hne
                by_cases hle : x.size ≤ s.size - k
                all_goals
                  go_wp2_with (go_at_call 29; refine (HX.out _).mono ?_; rintro e w2 ⟨rfl, hb2⟩)
                  go_roundw
                  case rel => exact ⟨b.toNat + 1, by omega, by go_num, hb.trans (((Below.refl _ wr).alloc hbs _).trans (hb2.mono (by simp; omega))), .inl ⟨rfl, rfl, by omega, own_keep (hown.alloc _) hb2⟩⟩
                  case measure => simp [intOf]; omega
            · by_cases hc : cc < 256
              all_goals
                go_wp2
                go_roundw
                case rel => exact ⟨k + n, _, by omega, rfl, hown, HM.out, hb⟩
                case measure => simp [intOf]; omega
      · have HU := Lib.hid (Oct.unword_some H37.out (HR.out.done (by rw [Oct.length_bytes]; omega)))
        obtain ⟨A, c, hv, hconv⟩ := own_string_any hown0
        rw [hv] at hconv
        rw [hv]
        by_cases h0 : acc.length = 0
        · have hl0 : acc.length ≤ 0 := by omega
          have HD := Lib.hid (show decide (0 < acc.length) = false from decide_eq_false (by omega))
          clear h0 hv hown0
          go_wp2
          go_ret2
          exact ⟨ret_two (val_str (by rw [HU.out.1])) (val_bool (by rw [HU.out.2, HD.out])), hb0⟩
        · have hl0 : 0 < acc.length := by omega
          have HD := Lib.hid (show decide (0 < acc.length) = true from decide_eq_true (by omega))
          clear h0 hv hown0
          go_wp2
          go_ret2
          exact ⟨ret_two (val_str (by rw [HU.out.1])) (val_bool (by rw [HU.out.2, HD.out])), hb0⟩
end Go.Proofs.Ytgadhjfpebhnpaa
