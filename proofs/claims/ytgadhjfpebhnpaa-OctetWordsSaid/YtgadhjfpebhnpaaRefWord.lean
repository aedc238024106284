/- The walk of the reference's Word. -/
import Derived.Test.YtgadhjfpebhnpaaWord
import Derived.Test.YtgadhjfpebhnpaaSame
namespace Go.Proofs.Ytgadhjfpebhnpaa
open Go.RowKit
namespace Oct
theorem plain_yes {c : UInt8} (h : plainB c = true) : (33 : Int) ≤ (c.toNat : Int) ∧ (c.toNat : Int) ≤ 126 ∧ ((c.toNat : Int) != 37) = true := by
  unfold plainB at h
  have := of_decide_eq_true h
  refine ⟨by omega, by omega, ?_⟩
  rw [bne_iff_ne]; omega
theorem plain_no {c : UInt8} (h : plainB c = false) : ¬ (33 : Int) ≤ (c.toNat : Int) ∨ ((33 : Int) ≤ (c.toNat : Int) ∧ ¬ (c.toNat : Int) ≤ 126) ∨ ((33 : Int) ≤ (c.toNat : Int) ∧ (c.toNat : Int) ≤ 126 ∧ ((c.toNat : Int) != 37) = false) := by
  unfold plainB at h
  have := of_decide_eq_false h
  by_cases h1 : (33 : Int) ≤ (c.toNat : Int)
  · by_cases h2 : (c.toNat : Int) ≤ 126
    · refine .inr (.inr ⟨h1, h2, ?_⟩)
      rw [bne_eq_false_iff_eq]; omega
    · exact .inr (.inl ⟨h1, h2⟩)
  · exact .inl h1
theorem word_out (s : ByteArray) (k : Nat) (h : s.size ≤ k) (h0 : 0 < s.size) : word s.data.toList = out s.data.toList k := (out_all s k h h0).symm
theorem high_wrap (n : Nat) (h : n < 256) : IntKind.i64.wrap ((IntKind.i64.wrap (n : Int)).tdiv 16) = ((n / 16 : Nat) : Int) := by
  rw [IntWalk.i64_in (n : Int) ⟨by omega, by omega⟩, Int.tdiv_eq_ediv_of_nonneg (by omega), IntWalk.i64_in _ ⟨by omega, by omega⟩]; omega
theorem low_wrap (n : Nat) (h : n < 256) : (IntKind.i64.wrap (n : Int)).tmod 16 = ((n % 16 : Nat) : Int) := by
  rw [IntWalk.i64_in (n : Int) ⟨by omega, by omega⟩, Int.tmod_eq_emod_of_nonneg (by omega)]; omega
end Oct
theorem high_digit (n : Nat) (h : n < 256) (w : World) : Calls Try.prog 36 #[.int .i64 (IntKind.i64.wrap ((IntKind.i64.wrap (n : Int)).tdiv 16))] w fun e w' => e = .returned (.int .u8 ((Oct.hexd (n / 16)).toNat : Int)) ∧ w = w' := by
  rw [Oct.high_wrap n h]
  have := refDigit_calls ((n / 16 : Nat) : Int) w (by omega) (by omega)
  rw [Int.toNat_natCast] at this
  exact this
theorem low_digit (n : Nat) (h : n < 256) (w : World) : Calls Try.prog 36 #[.int .i64 ((IntKind.i64.wrap (n : Int)).tmod 16)] w fun e w' => e = .returned (.int .u8 ((Oct.hexd (n % 16)).toNat : Int)) ∧ w = w' := by
  rw [Oct.low_wrap n h]
  have := refDigit_calls ((n % 16 : Nat) : Int) w (by omega) (by omega)
  rw [Int.toNat_natCast] at this
  exact this
set_option maxRecDepth 100000 in
set_option maxHeartbeats 4000000 in
theorem refWord_calls (s : ByteArray) (w : World) (hs : s.size ≤ 1099511627776) :
    Calls Try.prog 29 #[.string s] w (NewText w.heap.size (Oct.word s.data.toList) w) := by
  obtain ⟨i0, hi, hz0, hz1, hz2⟩ := info_parts infoByte
  go_enter Try.func29, Try.ntmps29
  go_wp2
  go_loopw [3, 4] (fun v i wr => ∃ k : Nat, k ≤ s.size ∧ i = .int .i64 k ∧ wr.ownsRow w.heap.size 5 1 v (Oct.out s.data.toList k).length ((Oct.out s.data.toList k).map byteV) ∧ v ≠ .slice none 0 0 ∧ Below w.heap.size w wr) (fun _ i _ => s.size - (intOf i).toNat)
  case atStart => exact ⟨0, Nat.zero_le _, rfl, World.ownsRow_made w #[] 0 (Nat.le_refl _) (Nat.zero_le _) rfl, by simp, (Below.refl _ _).alloc (Nat.le_refl _) _⟩
  case round =>
    obtain ⟨k, hk, rfl, hown, hnn, hb⟩ := hrel
    have hm := Oct.out_length s k hk
    by_cases hlt : k < s.size
    · have hc : s[k].toNat < 256 := s[k].toNat_lt
      cases hpl : Oct.plainB s[k] with
      | true =>
        have HO := Lib.hid (Oct.out_plain s k hlt hpl)
        obtain ⟨q1, q2, q3⟩ := Oct.plain_yes hpl
        generalize Oct.out s.data.toList k = ws at *
        go_wp2_with (at_builtin; refine wpList_append_own _ rfl _ _ 37 rfl w.heap.size 5 i0 (.int .u8 0) 1 1 Try.underlying37 hi hz0 hz1 hz2 rfl (by decide) _ _ _ rfl (hown.alloc _) ⟨wr.heap.size, 0, none⟩ 1 1 [.int .u8 (s[k].toNat : Int)] rfl rfl (cell_one_new _ _ _) ?c1a ?c1b ?c1c ?c1d ?_)
        case c1a => intro u hu; simp at hu; subst hu; rfl
        case c1b => simp only [maxLen]; omega
        case c1c => omega
        case c1d => have := hb.size; simp; omega
        · intro v' w1 hown' hgrow hnil
          have R : w1.ownsRow w.heap.size 5 1 v' (Oct.out s.data.toList (k + 1)).length ((Oct.out s.data.toList (k + 1)).map byteV) := by rw [HO.out, List.length_append, List.map_append]; exact hown'
          have B := hb.trans (((Below.refl _ wr).alloc hb.size _).grown hgrow (by have := hb.size; simp; omega) (fun g hg => (hown.lt g hg).1))
          have N : v' ≠ .slice none 0 0 := by first | exact hnil | exact fun e => hnn (hnil.1 e).1
          clear hown' hgrow hown hnil hnn
          go_wp2
          go_roundw
          case rel => exact ⟨k + 1, by omega, by go_num, R, N, B⟩
          case measure => simp [intOf]; omega
      | false =>
        have HO := Lib.hid (Oct.out_hex s k hlt hpl)
        have hx0 : (0 : Int) ≤ (s[k].toNat : Int) / 16 := by omega
        have hx1 : (s[k].toNat : Int) / 16 < 16 := by omega
        have hy0 : (0 : Int) ≤ (s[k].toNat : Int) % 16 := by omega
        have hy1 : (s[k].toNat : Int) % 16 < 16 := by omega
        have hno := Oct.plain_no hpl
        have HH := Lib.hid fun W => high_digit s[k].toNat hc W
        have HL := Lib.hid fun W => low_digit s[k].toNat hc W
        generalize Oct.out s.data.toList k = ws at *
        rcases hno with q | ⟨q, q2⟩ | ⟨q, q2, q3⟩
        all_goals
          go_wp2_with fail
          go_region_held3 (fun _ => True) (trivial) ((first | (go_at_call 36; (with_reducible refine (HH.out _).mono ?_); rintro e w' ⟨rfl, rfl⟩) | (go_at_call 36; (with_reducible refine (HL.out _).mono ?_); rintro e w' ⟨rfl, rfl⟩) | (refine step_append_lies _ (by rfl) _ _ _ (by rfl) w.heap.size 5 i0 _ 1 1 Try.underlying37 hi hz0 hz1 hz2 rfl (by omega) _ _ _ (by rfl) ((hown.alloc _).drew) ⟨wr.heap.size, 0, none⟩ 3 3 [.int .u8 37, .int .u8 ((Oct.hexd (s[k].toNat / 16)).toNat : Int), .int .u8 ((Oct.hexd (s[k].toNat % 16)).toNat : Int)] (by rfl) (by rfl) (World.news_of_block (t := 5) (fr := (0, 0)) (heap_alloc_new wr _)) (by simp [Value.oneCell']) (by omega) (by simp only [maxLen]; omega) (by omega) (by have := hb.size; simp; omega) (wr.heap.size + 1) (by simp) ?_; intro g cap w1 hown1 hgrow hat hlt2)))
          all_goals
            have R : w1.ownsRow w.heap.size 5 1 (.slice (some ⟨g, 0, none⟩) (ws.length + 3) cap) (Oct.out s.data.toList (k + 1)).length ((Oct.out s.data.toList (k + 1)).map byteV) := by rw [HO.out, List.length_append, List.map_append]; exact hown1
            have B := hb.trans ((((Below.refl _ wr).alloc hb.size _).drew).grown hgrow (by have := hb.size; simp; omega) (fun g hg => (hown.lt g hg).1))
            clear hown1 hgrow hown hat
            go_wp2
            go_roundw
            case rel => exact ⟨k + 1, by omega, by go_num, R, by simp, B⟩
            case measure => simp [intOf]; omega
    · have hke : s.size ≤ k := by omega
      by_cases h0 : s.size = 0
      · have hw0 : (Oct.out s.data.toList k).length = 0 := by
          unfold Oct.out; rw [(Oct.nil_size s).2 h0]; simp
        have HW := Lib.hid (show Oct.word s.data.toList = [37] from by unfold Oct.word; rw [if_pos ((Oct.nil_size s).2 h0)])
        rw [hw0] at hown
        rcases own_any hown with ⟨A, c, rfl, _⟩
        clear hown hw0 hm hnn
        go_wp2
        go_ret
        exact ⟨ret_str (by rw [HW.out]), hb⟩
      · have hz := Oct.out_all s k hke (by omega)
        have hpos : 0 < (Oct.out s.data.toList k).length := by omega
        have HZ := Lib.hid hz
        clear hz
        generalize Oct.out s.data.toList k = ws at *
        obtain ⟨g, cap, hv, _, _⟩ := hown.form hpos
        subst hv
        have hconv := own_string hown
        clear hnn hke h0
        go_wp2
        go_ret
        exact ⟨ret_str (by rw [HZ.out]), hb⟩
end Go.Proofs.Ytgadhjfpebhnpaa
