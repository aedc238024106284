/- The walks of readMonth and of the reference's month. -/
import Derived.Test.YtpimaobejjpffaaGreatDoorReadTime
import Derived.Test.YtpimaobejjpffaaGreatDoorOctets
namespace Go.Proofs.YtpimaobejjpffaaGreatDoor
open Go.RowKit
namespace Dt
/-- The place of a name among those from the k-th on. -/
def mfind (x : List UInt8) (k : Nat) : Option Nat := ((names.drop k).idxOf? x).map (· + k)
theorem mfind_start (x : List UInt8) : names.idxOf? x = mfind x 0 := by
  unfold mfind
  rw [List.drop_zero]
  cases names.idxOf? x <;> rfl
theorem mfind_yes {x n : List UInt8} {k : Nat} (hk : names[k]? = some n) (h : n = x) : mfind x k = some k := by
  subst h
  obtain ⟨hl, e⟩ := List.getElem?_eq_some_iff.1 hk
  unfold mfind
  rw [List.drop_eq_getElem_cons hl, List.idxOf?_cons, e]
  simp
theorem mfind_no {x n : List UInt8} {k : Nat} (hk : names[k]? = some n) (h : n ≠ x) : mfind x k = mfind x (k + 1) := by
  obtain ⟨hl, e⟩ := List.getElem?_eq_some_iff.1 hk
  unfold mfind
  rw [List.drop_eq_getElem_cons hl, List.idxOf?_cons, e, if_neg (by simpa using h), Option.map_map]
  congr 1
  funext i
  show i + 1 + k = i + (k + 1)
  omega
theorem mfind_end {x : List UInt8} {k : Nat} (h : 12 ≤ k) : mfind x k = none := by
  unfold mfind
  rw [List.drop_eq_nil_of_le (by exact h)]
  rfl
theorem names_low : names = mnames.map (·.map Oct.low) := by decide
theorem name_at {k : Nat} (h : k < 12) : ∃ n, mnames[k]? = some n ∧ names[k]? = some (n.map Oct.low) ∧ n.length = 3 := by
  have hl : k < mnames.length := h
  refine ⟨mnames[k], List.getElem?_eq_getElem hl, ?_, ?_⟩
  · rw [names_low, List.getElem?_map, List.getElem?_eq_getElem hl]; rfl
  · have : ∀ n ∈ mnames, n.length = 3 := by decide
    exact this _ (List.getElem_mem hl)
theorem month_short {s : List UInt8} (h : s.length < 3) : month s = 0 := if_neg (by omega)
theorem month_yes {s : List UInt8} {k : Nat} (h : 3 ≤ s.length) (hi : names.idxOf? ((s.take 3).map Oct.low) = some k) : month s = k + 1 := by unfold month; rw [if_pos h, hi]
theorem month_no {s : List UInt8} (h : 3 ≤ s.length) (hi : names.idxOf? ((s.take 3).map Oct.low) = none) : month s = 0 := by unfold month; rw [if_pos h, hi]
end Dt
theorem infoNames : (Tryz.prog.info? 85).map (·.size) = some (textsA Dt.mnames).size := by kernel_rfl
theorem index_name_0 (W : World) : (Instr.index 85 (.agg (textsA Dt.mnames)) (.int .i64 0)).run Tryz.prog W = .ok (strV [74, 97, 110]) W := by kernel_rfl
theorem index_name_1 (W : World) : (Instr.index 85 (.agg (textsA Dt.mnames)) (.int .i64 1)).run Tryz.prog W = .ok (strV [70, 101, 98]) W := by kernel_rfl
theorem index_name_2 (W : World) : (Instr.index 85 (.agg (textsA Dt.mnames)) (.int .i64 2)).run Tryz.prog W = .ok (strV [77, 97, 114]) W := by kernel_rfl
theorem index_name_3 (W : World) : (Instr.index 85 (.agg (textsA Dt.mnames)) (.int .i64 3)).run Tryz.prog W = .ok (strV [65, 112, 114]) W := by kernel_rfl
theorem index_name_4 (W : World) : (Instr.index 85 (.agg (textsA Dt.mnames)) (.int .i64 4)).run Tryz.prog W = .ok (strV [77, 97, 121]) W := by kernel_rfl
theorem index_name_5 (W : World) : (Instr.index 85 (.agg (textsA Dt.mnames)) (.int .i64 5)).run Tryz.prog W = .ok (strV [74, 117, 110]) W := by kernel_rfl
theorem index_name_6 (W : World) : (Instr.index 85 (.agg (textsA Dt.mnames)) (.int .i64 6)).run Tryz.prog W = .ok (strV [74, 117, 108]) W := by kernel_rfl
theorem index_name_7 (W : World) : (Instr.index 85 (.agg (textsA Dt.mnames)) (.int .i64 7)).run Tryz.prog W = .ok (strV [65, 117, 103]) W := by kernel_rfl
theorem index_name_8 (W : World) : (Instr.index 85 (.agg (textsA Dt.mnames)) (.int .i64 8)).run Tryz.prog W = .ok (strV [83, 101, 112]) W := by kernel_rfl
theorem index_name_9 (W : World) : (Instr.index 85 (.agg (textsA Dt.mnames)) (.int .i64 9)).run Tryz.prog W = .ok (strV [79, 99, 116]) W := by kernel_rfl
theorem index_name_10 (W : World) : (Instr.index 85 (.agg (textsA Dt.mnames)) (.int .i64 10)).run Tryz.prog W = .ok (strV [78, 111, 118]) W := by kernel_rfl
theorem index_name_11 (W : World) : (Instr.index 85 (.agg (textsA Dt.mnames)) (.int .i64 11)).run Tryz.prog W = .ok (strV [68, 101, 99]) W := by kernel_rfl
theorem index_name {k : Nat} (hk : k < 12) {n : List UInt8} (hn : Dt.mnames[k]? = some n) (W : World) : (Instr.index 85 (.agg (textsA Dt.mnames)) (.int .i64 (k : Int))).run Tryz.prog W = .ok (strV n) W := by
  have : k = 0 ∨ k = 1 ∨ k = 2 ∨ k = 3 ∨ k = 4 ∨ k = 5 ∨ k = 6 ∨ k = 7 ∨ k = 8 ∨ k = 9 ∨ k = 10 ∨ k = 11 := by omega
  rcases this with rfl | rfl | rfl | rfl | rfl | rfl | rfl | rfl | rfl | rfl | rfl | rfl
  · have e := Option.some.inj hn; rw [← e]; exact index_name_0 W
  · have e := Option.some.inj hn; rw [← e]; exact index_name_1 W
  · have e := Option.some.inj hn; rw [← e]; exact index_name_2 W
  · have e := Option.some.inj hn; rw [← e]; exact index_name_3 W
  · have e := Option.some.inj hn; rw [← e]; exact index_name_4 W
  · have e := Option.some.inj hn; rw [← e]; exact index_name_5 W
  · have e := Option.some.inj hn; rw [← e]; exact index_name_6 W
  · have e := Option.some.inj hn; rw [← e]; exact index_name_7 W
  · have e := Option.some.inj hn; rw [← e]; exact index_name_8 W
  · have e := Option.some.inj hn; rw [← e]; exact index_name_9 W
  · have e := Option.some.inj hn; rw [← e]; exact index_name_10 W
  · have e := Option.some.inj hn; rw [← e]; exact index_name_11 W
def MonthPost (m : Nat) (w : World) (e : Ending) (w' : World) : Prop := e = .returned (.tuple #[.int .i64 (m : Int), .bool (decide (0 < m))]) ∧ Below w.heap.size w w'
theorem month_post {m n : Nat} {b : Bool} (h : m = n) (hb : decide (0 < n) = b) {w w' : World} (hB : Below w.heap.size w w') : MonthPost m w (.returned (.tuple #[.int .i64 (n : Int), .bool b])) w' := by subst h hb; exact ⟨rfl, hB⟩
set_option maxRecDepth 100000 in
set_option maxHeartbeats 4000000 in
theorem readMonth_calls (s : ByteArray) (w : World) (hw : Cal w) (hs : s.size ≤ maxLen) :
    Calls Tryz.prog 76 #[.string s] w (MonthPost (Dt.month s.data.toList) w) := by
  unfold maxLen at hs
  have hl := Oct.length_bytes s
  by_cases h3 : s.size < 3
  · have HR := Lib.hid (month_post (Dt.month_short (s := s.data.toList) (by omega)) (by decide : decide (0 < 0) = false) (Below.refl w.heap.size w))
    generalize MonthPost (Dt.month s.data.toList) w = post at *
    have h3i : (s.size : Int) < 3 := by omega
    go_enter Tryz.func76, Tryz.ntmps76
    go_wp2
    exact HR.out
  · have HY := Lib.hid (fun k (h : Dt.names.idxOf? ((s.data.toList.take 3).map Oct.low) = some k) w' (hb : Below w.heap.size w w') => month_post (b := true) (Dt.month_yes (s := s.data.toList) (by omega) h) (decide_eq_true (by omega)) hb)
    have HN := Lib.hid (fun (h : Dt.names.idxOf? ((s.data.toList.take 3).map Oct.low) = none) w' (hb : Below w.heap.size w w') => month_post (b := false) (Dt.month_no (s := s.data.toList) (by omega) h) (decide_eq_false (by omega)) hb)
    generalize hpost : MonthPost (Dt.month s.data.toList) w = post at *
    clear hpost
    have hx : ((s.extract 0 3).data.toList).map Oct.low = (s.data.toList.take 3).map Oct.low := by rw [Lib.extract_data, List.drop_zero, Nat.sub_zero]
    have hxs : (s.extract 0 3).size ≤ maxLen := by rw [ByteArray.size_extract]; unfold maxLen; omega
    have HC : Hid (∀ (n : List UInt8) W, Calls Tryz.prog 25 #[.string (s.extract 0 3), strV n] W (BoolDrawn (decide ((s.data.toList.take 3).map Oct.low = n.map Oct.low)) W)) := Lib.hid (fun n W => by
      have := same_calls (s.extract 0 3) ⟨n.toArray⟩ W hxs
      unfold Oct.sameB at this
      rw [hx] at this
      exact this)
    have HST := Lib.hid (Dt.mfind_start ((s.data.toList.take 3).map Oct.low))
    clear hx hxs hl
    generalize (s.data.toList.take 3).map Oct.low = x at *
    obtain ⟨t, fr, hrow⟩ := hw.row
    have h3i : ¬ (s.size : Int) < 3 := by omega
    go_enter Tryz.func76, Tryz.ntmps76
    go_wp2_with (refine at_slot 9 rfl ?_; refine wpList_load_row rfl 85 _ rfl 2 rfl t _ fr _ hrow Tryz.underlying85 rfl infoNames ?_)
    clear hrow
    go_loopw [10] (fun i wr => ∃ k : Nat, k ≤ 12 ∧ i = .int .i64 k ∧ Dt.names.idxOf? x = Dt.mfind x k ∧ Drawn w wr) (fun i _ => 12 - (intOf i).toNat)
    case atStart => exact ⟨0, Nat.zero_le _, rfl, HST.out, Drawn.refl _⟩
    case round =>
      obtain ⟨k, hk, rfl, hm, hd⟩ := hrel
      have HM := Lib.hid hm
      clear hm
      by_cases hlt : k < 12
      · obtain ⟨n, n1, n2, n3⟩ := Dt.name_at hlt
        have hidx := index_name hlt n1
        have hki : (k : Int) < 12 := by omega
        have HCn := Lib.hid (HC.out n)
        unfold BoolDrawn strV at HCn
        unfold strV at hidx
        generalize hnb : (⟨n.toArray⟩ : ByteArray) = nb at *
        clear hnb n1
        by_cases hx : n.map Oct.low = x
        · have HR := Lib.hid (HY.out k (HM.out.trans (Dt.mfind_yes n2 hx)))
          have e1 : decide (x = n.map Oct.low) = true := decide_eq_true hx.symm
          rw [e1] at HCn
          clear hx n2 e1
          go_wp2_with fail
          refine (HCn.out _).mono ?_
          rintro e w2 ⟨rfl, d2⟩
          have hD := ((hd.below w.heap.size).trans (d2.below w.heap.size))
          have HRR := Lib.hid (HR.out w2 hD)
          go_wp2
          exact HRR.out
        · have HMM := Lib.hid (HM.out.trans (Dt.mfind_no n2 hx))
          have e1 : decide (x = n.map Oct.low) = false := decide_eq_false (fun h => hx h.symm)
          rw [e1] at HCn
          clear hx n2 e1
          go_wp2_with fail
          refine (HCn.out _).mono ?_
          rintro e w2 ⟨rfl, d2⟩
          have hD : Drawn w w2 := by
            obtain ⟨a, rfl⟩ := hd
            obtain ⟨b, rfl⟩ := d2
            exact ⟨a + b, World.drewN_drewN _ _ _⟩
          go_wp2
          go_roundw
          case rel => exact ⟨k + 1, by omega, by go_num, HMM.out, hD⟩
          case measure => simp [intOf]; omega
      · have HR := Lib.hid (HN.out (HM.out.trans (Dt.mfind_end (by omega))) wr (hd.below _))
        have hki : ¬ (k : Int) < 12 := by omega
        go_wp2
        exact HR.out
end Go.Proofs.YtpimaobejjpffaaGreatDoor
