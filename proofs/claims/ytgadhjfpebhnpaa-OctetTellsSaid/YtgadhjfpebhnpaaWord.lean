/- The walk of Word. -/
import Derived.Test.YtgadhjfpebhnpaaSmall
import Derived.Deep.RegionHeld3
import Derived.Deep.AppendLies
import Derived.Laws.BitsAllLaws
namespace Go.Proofs.Ytgadhjfpebhnpaa
open Go.RowKit
theorem infoByte : (Try.prog.info? 5).map (fun i => (i.zero, i.size, i.bytes)) = some (some (.int .u8 0), 1, 1) := by kernel_rfl
/-- A text, and new memory. -/
def NewText (B : Nat) (l : List UInt8) (w : World) (e : Ending) (w' : World) : Prop := e = .returned (.string ⟨l.toArray⟩) ∧ Below B w w'
/-- The text of bytes that the call owns. -/
theorem own_string {w : World} {B g cap n : Nat} {l : List UInt8} (h : w.ownsRow B 5 1 (.slice (some ⟨g, 0, none⟩) n cap) n (l.map byteV)) :
    (convert 37 9 (.slice (some ⟨g, 0, none⟩) n cap)).run Try.prog w = .ok (.string ⟨l.toArray⟩) w := by
  have hl : l.length = n := by have := h.1; rw [List.length_map] at this; omega
  subst hl
  refine run_convert_bytes_back w 37 9 5 ⟨g, 0, none⟩ cap l Try.underlying37 Try.underlying5 Try.underlying9 (fun j hj => ?_)
  exact h.cells (g := g) rfl j _ (by rw [List.getElem?_map, List.getElem?_eq_getElem hj]; rfl)

set_option maxRecDepth 100000 in
set_option maxHeartbeats 2000000 in
theorem word_calls (s : ByteArray) (w : World) (hs : s.size ≤ 1099511627776) :
    Calls Try.prog 28 #[.string s] w (NewText w.heap.size (Oct.word s.data.toList) w) := by
  obtain ⟨i0, hi, hz0, hz1, hz2⟩ := info_parts infoByte
  by_cases h0 : s.size = 0
  · have hE : s.toList.isEmpty = true := by rw [Oct.bytes_data, List.isEmpty_iff]; exact (Oct.nil_size s).2 h0
    have HW := Lib.hid (show Oct.word s.data.toList = [37] from by unfold Oct.word; rw [if_pos ((Oct.nil_size s).2 h0)])
    clear h0
    go_enter Try.func28, Try.ntmps28
    go_wp2
    go_ret
    exact ⟨ret_str (by rw [HW.out]), Below.refl _ _⟩
  · have hp : 0 < s.size := by omega
    have hE : s.toList.isEmpty = false := by
      rw [Oct.bytes_data, Bool.eq_false_iff]; intro e; rw [List.isEmpty_iff] at e; exact h0 ((Oct.nil_size s).1 e)
    clear h0
    go_enter Try.func28, Try.ntmps28
    go_wp2
    go_loopw [3, 10] (fun v i wr => ∃ k : Nat, k ≤ s.size ∧ i = .int .i64 k ∧ wr.ownsRow w.heap.size 5 1 v (Oct.out s.data.toList k).length ((Oct.out s.data.toList k).map byteV) ∧ Below w.heap.size w wr) (fun _ i _ => s.size - (intOf i).toNat)
    case atStart => exact ⟨0, Nat.zero_le _, rfl, World.ownsRow_nil _ _ _ _, Below.refl _ _⟩
    case round =>
      obtain ⟨k, hk, rfl, hown, hb⟩ := hrel
      have hm := Oct.out_length s k hk
      by_cases hlt : k < s.size
      · have hc : s[k].toNat < 256 := s[k].toNat_lt
        cases hpl : Oct.plainB s[k] with
        | true =>
          have HO := Lib.hid (Oct.out_plain s k hlt hpl)
          generalize Oct.out s.data.toList k = ws at *
          go_wp2_with (first | (go_at_call 35; refine (plain_calls _ _).mono ?_; rintro e w' ⟨rfl, rfl⟩) | (at_builtin; refine wpList_append_own _ rfl _ _ 37 rfl w.heap.size 5 i0 (.int .u8 0) 1 1 Try.underlying37 hi hz0 hz1 hz2 rfl (by decide) _ _ _ rfl (hown.alloc _) ⟨wr.heap.size, 0, none⟩ 1 1 [.int .u8 (s[k].toNat : Int)] rfl rfl (cell_one_new _ _ _) ?c1a ?c1b ?c1c ?c1d ?_))
          case c1a => intro u hu; simp at hu; subst hu; rfl
          case c1b => simp only [maxLen]; omega
          case c1c => omega
          case c1d => have := hb.size; simp; omega
          · intro v' w1 hown' hgrow _
            have R : w1.ownsRow w.heap.size 5 1 v' (Oct.out s.data.toList (k + 1)).length ((Oct.out s.data.toList (k + 1)).map byteV) := by rw [HO.out, List.length_append, List.map_append]; exact hown'
            have B := hb.trans (((Below.refl _ wr).alloc hb.size _).grown hgrow (by have := hb.size; simp; omega) (fun g hg => (hown.lt g hg).1))
            clear hown' hgrow hown
            go_wp2
            go_roundw
            case rel => exact ⟨k + 1, by omega, by go_num, R, B⟩
            case measure => simp [intOf]; omega
        | false =>
          have HO := Lib.hid (Oct.out_hex s k hlt hpl)
          have hand : bits .and .u8 (s[k].toNat : Int) 15 = ((s[k].toNat % 16 : Nat) : Int) := by rw [← nat_mask4]; exact u8_and_nat _ 15 hc (by omega)
          have hy : s[k].toNat % 16 < 16 := Nat.mod_lt _ (by omega)
          have hx : s[k].toNat / 16 < 16 := by omega
          have hx0 : (0 : Int) ≤ (s[k].toNat : Int) / 16 := by omega
          have hx1 : (s[k].toNat : Int) / 16 < 16 := by omega
          have hy0 : (0 : Int) ≤ (s[k].toNat : Int) % 16 := by omega
          have hy1 : (s[k].toNat : Int) % 16 < 16 := by omega
          have ex : ((s[k].toNat : Int) / 16).toNat = s[k].toNat / 16 := by omega
          have ey : ((s[k].toNat : Int) % 16).toNat = s[k].toNat % 16 := by omega
          have hg1 := Oct.digit_at _ hx
          have hg2 := Oct.digit_at _ hy
          generalize Oct.out s.data.toList k = ws at *
          go_wp2_with (go_at_call 35; refine (plain_calls _ _).mono ?_; rintro e w' ⟨rfl, rfl⟩)
          go_region_held3 (fun _ => True) (trivial) ((refine step_append_lies _ (by rfl) _ _ _ (by rfl) w.heap.size 5 i0 _ 1 1 Try.underlying37 hi hz0 hz1 hz2 rfl (by omega) _ _ _ (by rfl) ((hown.alloc _).drew) ⟨wr.heap.size, 0, none⟩ 3 3 [.int .u8 37, .int .u8 ((Oct.hexd (s[k].toNat / 16)).toNat : Int), .int .u8 ((Oct.hexd (s[k].toNat % 16)).toNat : Int)] (by rfl) (by rfl) (World.news_of_block (t := 5) (fr := (0, 0)) (heap_alloc_new wr _)) (by simp [Value.oneCell']) (by omega) (by simp only [maxLen]; omega) (by omega) (by have := hb.size; simp; omega) (wr.heap.size + 1) (by simp) ?_; intro g cap w1 hown1 hgrow hat hlt2))
          all_goals
            have R : w1.ownsRow w.heap.size 5 1 (.slice (some ⟨g, 0, none⟩) (ws.length + 3) cap) (Oct.out s.data.toList (k + 1)).length ((Oct.out s.data.toList (k + 1)).map byteV) := by rw [HO.out, List.length_append, List.map_append]; exact hown1
            have B := hb.trans ((((Below.refl _ wr).alloc hb.size _).drew).grown hgrow (by have := hb.size; simp; omega) (fun g hg => (hown.lt g hg).1))
            clear hown1 hgrow hown hand hg1 hg2 hat
            go_wp2
            go_roundw
            case rel => exact ⟨k + 1, by omega, by go_num, R, B⟩
            case measure => simp [intOf]; omega
      · have hz := Oct.out_all s k (by omega) hp
        have hpos : 0 < (Oct.out s.data.toList k).length := by omega
        have HZ := Lib.hid hz
        clear hz
        generalize Oct.out s.data.toList k = ws at *
        obtain ⟨g, cap, hv, _, _⟩ := hown.form hpos
        subst hv
        have hconv := own_string hown
        go_wp2
        go_ret
        exact ⟨ret_str (by rw [HZ.out]), hb⟩
end Go.Proofs.Ytgadhjfpebhnpaa
