/- The walks of host's Tail and Under. -/
import Derived.Test.YtkgcblhhindiaaaDoorHostRight
import Derived.Test.YtkgcblhhindiaaaDoorTextPlain
namespace Go.Proofs.YtkgcblhhindiaaaDoor
open Go.RowKit
namespace Hst
theorem labels_length (h : Host) : (labels h).length ≤ h.name.length + 1 := by
  unfold labels
  split
  · exact Oct.split_length 46 h.name
  · simp
theorem labels_small (h : Host) : ∀ p ∈ labels h, p.length ≤ h.name.length := by
  unfold labels
  split
  · exact Oct.split_small 46 h.name
  · simp
theorem tail_length (h : Host) (n : Int) : (host (tailOf h n)).addr.length = 16 := by
  unfold tailOf
  split <;> rfl
/-- The name of the last labels is short. -/
theorem tail_name_length (h : Host) (n : Int) : (host (tailOf h n)).name.length ≤ h.name.length := by
  by_cases hn : 1 ≤ n ∧ n ≤ ((labels h).length : Int)
  · obtain ⟨k, rfl⟩ : ∃ k : Nat, n = k := ⟨n.toNat, by omega⟩
    have hl : labels h ≠ [] := by intro e; rw [e] at hn; simp at hn; omega
    obtain ⟨_, _, _, e⟩ := labels_good hl
    rw [tail_ending (by omega) (by omega)]
    show (ending h.name k).length ≤ _
    rcases Nat.lt_or_ge k (Oct.split 46 h.name).length with a | a
    · exact Nat.le_of_lt (ending_length (by omega) a)
    · rw [ending_whole (by rw [e] at hn; omega)]; exact Nat.le_refl _
  · rw [tail_none hn]; simp [host, zero]
end Hst
/-- The last k texts of a list, joined. -/
theorem join_last {w : World} {B g cap L : Nat} {ps : List (List UInt8)} (hL : ps.length = L) (hown : w.ownsRow B 9 1 (.slice (some ⟨g, 0, none⟩) L cap) L (ps.map strV)) (m : Nat) (hm : ∀ p ∈ ps, p.length ≤ m) (hm1 : m ≤ 1048576) (hn : L ≤ 1048577) (k : Nat) (hk : k ≤ L) :
    Calls Tryd.prog 28 #[.slice (some ⟨g, L - k, none⟩) k (cap - (L - k)), .string ⟨#[46]⟩] w fun e w' => e = .returned (.string ⟨(Lib.join (ps.drop (L - k)) [46]).toArray⟩) ∧ Below w.heap.size w w' := by
  subst hL
  have hdl : (ps.drop (ps.length - k)).length = k := by rw [List.length_drop]; omega
  have hl := Adr.join_length [46] rfl m (ps.drop (ps.length - k)) (fun p hp => hm p (List.mem_of_mem_drop hp))
  rw [hdl] at hl
  have h2 : (m + 1) * k ≤ 1048577 * 1048577 := Nat.mul_le_mul (by omega) (by omega)
  have e1 : (((ps.drop (ps.length - k)).map fun p => (⟨p.toArray⟩ : ByteArray)).map (·.data.toList)) = ps.drop (ps.length - k) := by rw [List.map_map]; exact List.map_id _
  have e2 : (⟨#[46]⟩ : ByteArray).data.toList = [46] := rfl
  have hcap := own_cap hown
  have hlt : g < w.heap.size := (hown.lt g rfl).2
  have h := Tryd.strings_Join g (ps.length - k) (cap - (ps.length - k)) ((ps.drop (ps.length - k)).map fun p => ⟨p.toArray⟩) ⟨#[46]⟩ w (fun j x hx => by
    rw [List.getElem?_map, List.getElem?_drop] at hx
    cases hp : ps[ps.length - k + j]? with
    | none => rw [hp] at hx; cases hx
    | some p => rw [hp] at hx; exact own_text hown hp (Option.some.inj hx).symm) hlt (by rw [List.length_map, hdl]; omega) (by rw [List.length_map, hdl]; omega) (by rw [e1, e2]; omega)
  rw [List.length_map, e1, e2, hdl] at h
  exact h
/-- A host, and whether there is one. -/
def TailHost (o : Option Hst.Host) (w : World) (e : Ending) (w' : World) : Prop := e = .returned (.tuple #[.agg (hostA (Hst.host o)), .bool o.isSome]) ∧ Below w.heap.size w w'
set_option maxRecDepth 100000 in
set_option maxHeartbeats 2000000 in
theorem tail_calls (h : Hst.Host) (ha : h.addr.length = 16) (hs : h.name.length ≤ 1048576) (n : Int) (w : World) (hw : Std w) :
    Calls Tryd.prog 12 #[.agg (hostA h), .int .i64 n] w (TailHost (Hst.tailOf h n) w) := by
  have z0 := zeroHost
  have HZ0 := Lib.hid (show (hostA Hst.zero).size = 18 from rfl)
  have HH := Lib.hid (hostA_size h ha)
  have H1 := Lib.hid (fun W hW => labels_calls h ha hs W hW)
  have hll := Hst.labels_length h
  have HSM := Lib.hid (Hst.labels_small h)
  by_cases hn : 1 ≤ n ∧ n ≤ ((Hst.labels h).length : Int)
  · obtain ⟨k, rfl⟩ : ∃ k : Nat, n = k := ⟨n.toNat, by omega⟩
    have HT : Hid (Hst.tailOf h k = some ⟨1, Lib.join ((Hst.labels h).drop ((Hst.labels h).length - k)) [46], Hst.nil16⟩) := Lib.hid (by unfold Hst.tailOf; rw [if_pos hn]; rfl)
    rw [HT.out]
    clear HT
    generalize Hst.labels h = ps at *
    obtain ⟨L, hL⟩ : ∃ L, ps.length = L := ⟨_, rfl⟩
    rw [hL] at hn hll ⊢
    have HJ := Lib.hid (fun W B g cap ho => join_last (w := W) (B := B) (g := g) (cap := cap) hL ho h.name.length HSM.out hs (by omega) k (by omega))
    unfold NewTexts at H1
    rw [hL] at H1
    obtain ⟨u, hu⟩ : ∃ u : ByteArray, u = ⟨(Lib.join (ps.drop (L - k)) [46]).toArray⟩ := ⟨_, rfl⟩
    have hul : Lib.join (ps.drop (L - k)) [46] = u.data.toList := by rw [hu]
    rw [← hu] at HJ
    rw [hul]
    have HB := Lib.hid (built_name 1 u)
    clear hul hu
    generalize u.data.toList = ul at *
    have HXZ := Lib.hid (hostA_size ⟨1, ul, Hst.nil16⟩ rfl)
    have HPOST : Hid (∀ w', Below w.heap.size w w' → TailHost (some ⟨1, ul, Hst.nil16⟩) w (.returned (.tuple #[.agg (hostA ⟨1, ul, Hst.nil16⟩), .bool true])) w') := Lib.hid (fun w' hb => ⟨rfl, hb⟩)
    generalize TailHost (some ⟨1, ul, Hst.nil16⟩) w = post at *
    generalize hostA h = H at *
    have hz : ((L : Int) - (k : Int)).toNat = L - k := by omega
    have hk1 : L - (L - k) = k := by omega
    have hn1 : ¬ (k : Int) < 1 := by omega
    have hn2 : ¬ (L : Int) < (k : Int) := by omega
    have hLk : 1 ≤ k ∧ k ≤ L := by omega
    clear hn HSM hL ha
    have R0 := Row.new w 25 H
    have B0 := (Below.refl w.heap.size w).alloc (Nat.le_refl _) (.cells H 25)
    go_enter Tryd.func12, Tryd.ntmps12
    go_wp2_with (refine at_slot 8 rfl ?_; refine load_row rfl 25 _ rfl w.heap.size rfl (R0.alloc _) Tryd.underlying25 rfl (by rw [HH.out]; exact infoHost) ?_)
    have hN : (w.alloc (.cells H 25)).heap.size = w.heap.size + 1 := by simp
    generalize w.alloc (.cells H 25) = w0 at *
    have T0 := Row.new w0 25 (hostA Hst.zero)
    have C0 := B0.alloc B0.size (.cells (hostA Hst.zero) 25)
    have s0 : w.heap.size ≤ w.heap.size + 1 := by omega
    generalize w0.alloc (.cells (hostA Hst.zero) 25) = x0 at *
    rw [hN] at T0
    clear hN
    refine (H1.out _ (hw.below C0)).mono ?_
    rintro e v1 ⟨v, rfl, hown, d1⟩
    rcases hown.2 with ⟨_, h0⟩ | ⟨g, cap, cur, rfl, hg, _⟩
    · omega
    have T1 := T0.stays d1
    have C1 := C0.trans (d1.mono C0.size)
    have hcap := own_cap hown
    have HO := Lib.hid hown
    clear hown T0 C0 d1 R0 B0
    go_wp2_with fail
    refine (HJ.out _ _ _ _ HO.out).mono ?_
    rintro e v2 ⟨rfl, d2⟩
    have T2 := T1.stays d2
    have C2 := C1.trans (d2.mono C1.size)
    go_wp2_with (first
      | (refine at_slot 27 rfl ?_; refine build_two rfl 25 0 1 _ _ rfl _ _ rfl rfl (hostA ⟨1, ul, Hst.nil16⟩) HB.out ?_)
      | (refine wpList_store_row rfl 25 _ _ rfl (w.heap.size + 1) (hostA ⟨1, ul, Hst.nil16⟩) rfl rfl 25 _ T2 (by rw [HXZ.out]; exact infoHost) rfl (hostA_one _) ?_))
    exact bodyPost_ret (v := .tuple #[.agg (hostA ⟨1, ul, Hst.nil16⟩), .bool true]) (results_cell_two rfl _ _ (w.heap.size + 1) _ _ _ rfl _ rfl (T2.whole _) Tryd.underlying25 rfl (by rw [HXZ.out]; exact infoHost)) rfl (HPOST.out _ (below_setRow C2 s0 _))
  · have HT : Hid (Hst.tailOf h n = none) := Lib.hid (Hst.tail_none hn)
    rw [HT.out]
    clear HT
    generalize Hst.labels h = ps at *
    obtain ⟨L, hL⟩ : ∃ L, ps.length = L := ⟨_, rfl⟩
    rw [hL] at hn hll
    unfold NewTexts at H1
    rw [hL] at H1
    have HPOST : Hid (∀ w', Below w.heap.size w w' → TailHost none w (.returned (.tuple #[.agg (hostA Hst.zero), .bool false])) w') := Lib.hid (fun w' hb => ⟨rfl, hb⟩)
    generalize TailHost none w = post at *
    generalize hostA h = H at *
    clear HSM hL ha
    have R0 := Row.new w 25 H
    have B0 := (Below.refl w.heap.size w).alloc (Nat.le_refl _) (.cells H 25)
    go_enter Tryd.func12, Tryd.ntmps12
    go_wp2_with (refine at_slot 8 rfl ?_; refine load_row rfl 25 _ rfl w.heap.size rfl (R0.alloc _) Tryd.underlying25 rfl (by rw [HH.out]; exact infoHost) ?_)
    have hN : (w.alloc (.cells H 25)).heap.size = w.heap.size + 1 := by simp
    generalize w.alloc (.cells H 25) = w0 at *
    have T0 := Row.new w0 25 (hostA Hst.zero)
    have C0 := B0.alloc B0.size (.cells (hostA Hst.zero) 25)
    have s0 : w.heap.size ≤ w.heap.size + 1 := by omega
    generalize w0.alloc (.cells (hostA Hst.zero) 25) = x0 at *
    rw [hN] at T0
    clear hN
    refine (H1.out _ (hw.below C0)).mono ?_
    rintro e v1 ⟨v, rfl, hown, d1⟩
    have T1 := T0.stays d1
    have C1 := C0.trans (d1.mono C0.size)
    have hnn : n < 1 ∨ (¬ n < 1 ∧ (L : Int) < n) := by omega
    rcases hown.2 with ⟨rfl, h0⟩ | ⟨g, cap, cur, rfl, hg, _⟩
    · subst h0
      clear hown d1 hn
      rcases hnn with h1 | ⟨h1, h2⟩
      all_goals
        go_wp2_with (first
          | (refine wpList_store_row rfl 25 _ _ rfl (w.heap.size + 1) (hostA Hst.zero) rfl rfl 25 _ T1 (by rw [HZ0.out]; exact infoHost) rfl (hostA_one _) ?_))
        exact bodyPost_ret (v := .tuple #[.agg (hostA Hst.zero), .bool false]) (results_cell_two rfl _ _ (w.heap.size + 1) _ _ _ rfl _ rfl (T1.whole _) Tryd.underlying25 rfl (by rw [HZ0.out]; exact infoHost)) rfl (HPOST.out _ (below_setRow C1 s0 _))
    · clear hown d1 hn
      rcases hnn with h1 | ⟨h1, h2⟩
      all_goals
        go_wp2_with (first
          | (refine wpList_store_row rfl 25 _ _ rfl (w.heap.size + 1) (hostA Hst.zero) rfl rfl 25 _ T1 (by rw [HZ0.out]; exact infoHost) rfl (hostA_one _) ?_))
        exact bodyPost_ret (v := .tuple #[.agg (hostA Hst.zero), .bool false]) (results_cell_two rfl _ _ (w.heap.size + 1) _ _ _ rfl _ rfl (T1.whole _) Tryd.underlying25 rfl (by rw [HZ0.out]; exact infoHost)) rfl (HPOST.out _ (below_setRow C1 s0 _))
end Go.Proofs.YtkgcblhhindiaaaDoor
