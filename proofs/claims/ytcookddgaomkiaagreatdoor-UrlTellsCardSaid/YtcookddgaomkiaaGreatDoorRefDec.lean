/- The walk of the reference's decimal. -/
import Derived.Test.YtcookddgaomkiaaGreatDoorRefGroup
import Derived.Test.YtcookddgaomkiaaGreatDoorOctets
import Derived.Test.YtcookddgaomkiaaGreatDoorPlains
namespace Go.Proofs.YtcookddgaomkiaaGreatDoor
open Go.RowKit
namespace Adr
theorem dec_one {n : Nat} (h : n < 10) : Lib.decDigits n = [UInt8.ofNat (48 + n)] := by unfold Lib.decDigits; rw [dif_pos h]
theorem dec_more {n : Nat} (h : ¬ n < 10) : Lib.decDigits n = Lib.decDigits (n / 10) ++ [UInt8.ofNat (48 + n % 10)] := by
  conv => lhs; unfold Lib.decDigits
  rw [dif_neg h]
theorem dec_u8 (k : Nat) (h : k < 10) : (UInt8.ofNat (48 + k)).toNat = 48 + k := by rw [UInt8.toNat_ofNat']; omega
end Adr
def DecText (n : Nat) (w : World) (e : Ending) (w' : World) : Prop := e = .returned (.string ⟨(Lib.decDigits n).toArray⟩) ∧ Below w.heap.size w w'
theorem byte_string (w w' : World) (c : UInt8) (hc : w'.cell? ⟨w.heap.size, 0, none⟩ = some (.int .u8 (c.toNat : Int))) :
    (convert 53 9 (.slice (some ⟨w.heap.size, 0, none⟩) 1 1)).run Tryz.prog w' = .ok (.string ⟨#[c]⟩) w' := by
  refine run_convert_bytes_back w' 53 9 5 ⟨w.heap.size, 0, none⟩ 1 [c] Tryz.underlying53 Tryz.underlying5 Tryz.underlying9 (fun j hj => ?_)
  have : j = 0 := by simp at hj; exact hj
  subst this
  exact hc
set_option maxRecDepth 100000 in
set_option maxHeartbeats 1000000 in
theorem refDec_one (n : Nat) (h : n < 10) (w : World) : Calls Tryz.prog 56 #[.int .i64 (n : Int)] w (DecText n w) := by
  have HT := Lib.hid (Adr.dec_one h)
  have hu := Adr.dec_u8 n h
  have hcv := one_string w (UInt8.ofNat (48 + n))
  generalize UInt8.ofNat (48 + n) = c at *
  rw [hu] at hcv
  have e1 : ((48 + n : Nat) : Int) = 48 + (n : Int) := by omega
  rw [e1] at hcv
  go_enter Tryz.func56, Tryz.ntmps56
  go_wp2
  go_ret
  exact ⟨ret_str (by rw [HT.out]), (Below.refl w.heap.size w).alloc (Nat.le_refl _) _⟩

set_option maxRecDepth 100000 in
set_option maxHeartbeats 2000000 in
theorem refDec_more (n : Nat) (h : ¬ n < 10) (hn : n < 1000) (ih : ∀ w, Calls Tryz.prog 56 #[.int .i64 ((n / 10 : Nat) : Int)] w (DecText (n / 10) w)) (hx : (Lib.decDigits (n / 10)).length ≤ 3) (w : World) :
    Calls Tryz.prog 56 #[.int .i64 (n : Int)] w (DecText n w) := by
  have hd : n % 10 < 10 := by omega
  obtain ⟨X, hX⟩ : ∃ X : ByteArray, X = ⟨(Lib.decDigits (n / 10)).toArray⟩ := ⟨_, rfl⟩
  obtain ⟨c, hc⟩ : ∃ c : UInt8, c = UInt8.ofNat (48 + n % 10) := ⟨_, rfl⟩
  have HR := Lib.hid (show X ++ ⟨#[c]⟩ = ⟨(Lib.decDigits n).toArray⟩ by rw [hX, Adr.dec_more h, hc]; apply ByteArray.ext; simp [ByteArray.data_append])
  have hXs : X.size ≤ 3 := by rw [hX]; show (List.toArray _).size ≤ 3; rw [List.size_toArray]; exact hx
  have hu := Adr.dec_u8 (n % 10) hd
  rw [← hc] at hu
  have hu' : (c.toNat : Int) = 48 + (n : Int) % 10 := by omega
  have q1 : IntKind.i64.wrap ((n : Int).tdiv 10) = ((n / 10 : Nat) : Int) := by rw [Int.tdiv_eq_ediv_of_nonneg (by omega), IntKind.wrap_i64]; omega
  have q2 : (n : Int).tmod 10 = (n : Int) % 10 := Int.tmod_eq_emod_of_nonneg (by omega)
  have m0 : 0 ≤ (n : Int) % 10 := by omega
  have m1 : (n : Int) % 10 < 10 := by omega
  have q3 : IntKind.i64.wrap (48 + (n : Int) % 10) = 48 + (n : Int) % 10 := by rw [IntKind.wrap_i64]; omega
  have q4 : IntKind.u8.wrap (48 + (n : Int) % 10) = 48 + (n : Int) % 10 := by rw [IntKind.wrap_u8]; omega
  have q7 : (⟨#[c]⟩ : ByteArray).size = 1 := rfl
  have q8 : ¬ 9223372036854775807 < X.size + 1 := by omega
  have HC : Hid (∀ W, Calls Tryz.prog 56 #[.int .i64 (IntKind.i64.wrap ((n : Int).tdiv 10))] W fun e w' => e = .returned (.string X) ∧ Below W.heap.size W w') := Lib.hid fun W => by rw [q1, hX]; exact ih W
  have hcv := fun W => one_string W c
  rw [hu'] at hcv
  have hcd : (convert 53 9 (.slice (some ⟨w.heap.size, 0, none⟩) 1 1)).run Tryz.prog (w.alloc (.cells #[.int .u8 (48 + (n : Int) % 10)] 5)).drew = .ok (.string ⟨#[c]⟩) (w.alloc (.cells #[.int .u8 (48 + (n : Int) % 10)] 5)).drew := hcv w.drew
  clear ih hX hu hc
  go_enter Tryz.func56, Tryz.ntmps56
  go_wp2_with fail
  refine wp_region_held_drew (S := Below w.heap.size w) (by kernel_rfl) ((Below.refl w.heap.size w).drew) (fun _ => ?_)
  refine wpAnyH_take (i := 0) (v := ?_) rfl (by kernel_rfl) (by kernel_rfl) (by kernel_rfl) (fun _ _ _ h => h) (Or.inl ⟨by rfl, ?_⟩) (by assumption) ?_
  rotate_left
  · intro _ _; go_simp; with_reducible rfl
  simp only [Act.put, List.setIfInBounds_toArray, List.set_cons_zero, List.set_cons_succ, List.getElem_toArray, List.getElem_cons_zero]
  refine wpAnyH_take (i := 1) (v := ?_) rfl (by kernel_rfl) (by kernel_rfl) (by kernel_rfl) (fun _ _ _ h => h) (Or.inl ⟨by rfl, ?_⟩) (by assumption) ?_
  rotate_left
  · intro _ _; go_simp; with_reducible rfl
  simp only [Act.put, List.setIfInBounds_toArray, List.set_cons_zero, List.set_cons_succ, List.getElem_toArray, List.getElem_cons_zero, List.getElem_cons_succ]
  refine wpAnyH_take (i := 3) (v := ?_) rfl (by kernel_rfl) (by kernel_rfl) (by kernel_rfl) (fun _ _ _ h => h) (Or.inl ⟨by rfl, ?_⟩) (by assumption) ?_
  rotate_left
  · intro _ _; go_simp; with_reducible rfl
  simp only [Act.put, List.setIfInBounds_toArray, List.set_cons_zero, List.set_cons_succ, List.getElem_toArray, List.getElem_cons_zero, List.getElem_cons_succ]
  refine wpAnyH_take (i := 4) (v := ?_) rfl (by kernel_rfl) (by kernel_rfl) (by kernel_rfl) (fun _ _ _ h => h) (Or.inl ⟨by rfl, ?_⟩) (by assumption) ?_
  rotate_left
  · intro _ _; go_simp; with_reducible rfl
  simp only [Act.put, List.setIfInBounds_toArray, List.set_cons_zero, List.set_cons_succ, List.getElem_toArray, List.getElem_cons_zero, List.getElem_cons_succ]
  refine wpAnyH_take (i := 5) (v := ?_) rfl (by kernel_rfl) (by kernel_rfl) (by kernel_rfl) (fun _ _ _ h => h) (Or.inl ⟨by rfl, ?_⟩) (by assumption) ?_
  rotate_left
  · intro _ _; go_simp; with_reducible rfl
  simp only [Act.put, List.setIfInBounds_toArray, List.set_cons_zero, List.set_cons_succ, List.getElem_toArray, List.getElem_cons_zero, List.getElem_cons_succ]
  refine wpAnyH_take (i := 6) (v := ?_) rfl (by kernel_rfl) (by kernel_rfl) (by kernel_rfl) (fun _ _ _ h => h) (Or.inl ⟨by rfl, ?_⟩) (by assumption) ?_
  rotate_left
  · intro _ _; go_simp; with_reducible rfl
  simp only [Act.put, List.setIfInBounds_toArray, List.set_cons_zero, List.set_cons_succ, List.getElem_toArray, List.getElem_cons_zero, List.getElem_cons_succ]
  refine wpAnyH_ready (rs := [2, 7]) (by kernel_rfl) (by simp) (AllReadyH.cons rfl (fun K hK => ?_) (AllReadyH.cons rfl (fun K hK => ?_) AllReadyH.nil))
  · rw [if_pos (by rfl)]
    go_simp
    refine (HC.out _).mono ?_
    rintro e w4 ⟨rfl, b4⟩
    have S4 : Below w.heap.size w w4 := Below.trans (by assumption) (b4.mono (Below.size (by assumption)))
    go_wp2_with fail
    refine hK.out _ _ S4 (fun _ => ?_)
    clear hK K
    refine wpAnyH_ready (rs := [7]) (by kernel_rfl) (by simp) (AllReadyH.cons rfl (fun K hK => ?_) AllReadyH.nil)
    rw [if_pos (by rfl)]
    go_simp
    have S5 : Below w.heap.size w ((w4).alloc (.cells #[.int .u8 (48 + (n : Int) % 10)] 5)) := Below.alloc (by assumption) (Below.size (by assumption)) _
    refine hK.out _ _ S5 (fun _ => ?_)
    clear hK K
    refine wpAnyH_ready (rs := [8]) (by kernel_rfl) (by simp) (AllReadyH.cons rfl (fun K hK => ?_) AllReadyH.nil)
    rw [if_pos (by rfl)]
    go_simp
    refine hK.out _ _ S5 (fun _ => ?_)
    clear hK K
    refine wpAnyH_take (i := 9) (v := ?_) rfl (by kernel_rfl) (by kernel_rfl) (by kernel_rfl) (fun _ _ _ h => h) (Or.inl ⟨by rfl, ?_⟩) (by assumption) ?_
    rotate_left
    · intro _ _; go_simp; with_reducible rfl
    simp only [Act.put, List.setIfInBounds_toArray, List.set_cons_zero, List.set_cons_succ, List.getElem_toArray, List.getElem_cons_zero, List.getElem_cons_succ]
    refine wpAnyH_take (i := 10) (v := ?_) rfl (by kernel_rfl) (by kernel_rfl) (by kernel_rfl) (fun _ _ _ h => h) (Or.inl ⟨by rfl, ?_⟩) (by assumption) ?_
    rotate_left
    · intro _ _; go_simp; with_reducible rfl
    simp only [Act.put, List.setIfInBounds_toArray, List.set_cons_zero, List.set_cons_succ, List.getElem_toArray, List.getElem_cons_zero, List.getElem_cons_succ]
    refine wpAnyH_done (by kernel_rfl) ?_ _
    go_wp2
    go_ret
    exact ⟨ret_str HR.out, by assumption⟩
  · rw [if_pos (by rfl)]
    go_simp
    have S5 : Below w.heap.size w ((w.drew).alloc (.cells #[.int .u8 (48 + (n : Int) % 10)] 5)) := Below.alloc (by assumption) (Below.size (by assumption)) _
    refine hK.out _ _ S5 (fun _ => ?_)
    clear hK K
    refine wpAnyH_ready (rs := [2, 8]) (by kernel_rfl) (by simp) (AllReadyH.cons rfl (fun K hK => ?_) (AllReadyH.cons rfl (fun K hK => ?_) AllReadyH.nil))
    · rw [if_pos (by rfl)]
      go_simp
      refine (HC.out _).mono ?_
      rintro e w4 ⟨rfl, b4⟩
      have S4 : Below w.heap.size w w4 := Below.trans (by assumption) (b4.mono (Below.size (by assumption)))
      go_wp2_with fail
      refine hK.out _ _ S4 (fun _ => ?_)
      clear hK K
      have hcw := byte_string w w4 c ((b4.cell (by simp)).trans (by rw [hu']; exact cell_one_new w.drew (.int .u8 (48 + (n : Int) % 10)) 5 0 _ rfl))
      refine wpAnyH_ready (rs := [8]) (by kernel_rfl) (by simp) (AllReadyH.cons rfl (fun K hK => ?_) AllReadyH.nil)
      rw [if_pos (by rfl)]
      go_simp
      refine hK.out _ _ S4 (fun _ => ?_)
      clear hK K
      refine wpAnyH_take (i := 9) (v := ?_) rfl (by kernel_rfl) (by kernel_rfl) (by kernel_rfl) (fun _ _ _ h => h) (Or.inl ⟨by rfl, ?_⟩) (by assumption) ?_
      rotate_left
      · intro _ _; go_simp; with_reducible rfl
      simp only [Act.put, List.setIfInBounds_toArray, List.set_cons_zero, List.set_cons_succ, List.getElem_toArray, List.getElem_cons_zero, List.getElem_cons_succ]
      refine wpAnyH_take (i := 10) (v := ?_) rfl (by kernel_rfl) (by kernel_rfl) (by kernel_rfl) (fun _ _ _ h => h) (Or.inl ⟨by rfl, ?_⟩) (by assumption) ?_
      rotate_left
      · intro _ _; go_simp; with_reducible rfl
      simp only [Act.put, List.setIfInBounds_toArray, List.set_cons_zero, List.set_cons_succ, List.getElem_toArray, List.getElem_cons_zero, List.getElem_cons_succ]
      refine wpAnyH_done (by kernel_rfl) ?_ _
      go_wp2
      go_ret
      exact ⟨ret_str HR.out, by assumption⟩
    · rw [if_pos (by rfl)]
      go_simp
      refine hK.out _ _ S5 (fun _ => ?_)
      clear hK K
      refine wpAnyH_ready (rs := [2]) (by kernel_rfl) (by simp) (AllReadyH.cons rfl (fun K hK => ?_) AllReadyH.nil)
      rw [if_pos (by rfl)]
      go_simp
      refine (HC.out _).mono ?_
      rintro e w4 ⟨rfl, b4⟩
      have S4 : Below w.heap.size w w4 := Below.trans (by assumption) (b4.mono (Below.size (by assumption)))
      go_wp2_with fail
      refine hK.out _ _ S4 (fun _ => ?_)
      clear hK K
      refine wpAnyH_take (i := 9) (v := ?_) rfl (by kernel_rfl) (by kernel_rfl) (by kernel_rfl) (fun _ _ _ h => h) (Or.inl ⟨by rfl, ?_⟩) (by assumption) ?_
      rotate_left
      · intro _ _; go_simp; with_reducible rfl
      simp only [Act.put, List.setIfInBounds_toArray, List.set_cons_zero, List.set_cons_succ, List.getElem_toArray, List.getElem_cons_zero, List.getElem_cons_succ]
      refine wpAnyH_take (i := 10) (v := ?_) rfl (by kernel_rfl) (by kernel_rfl) (by kernel_rfl) (fun _ _ _ h => h) (Or.inl ⟨by rfl, ?_⟩) (by assumption) ?_
      rotate_left
      · intro _ _; go_simp; with_reducible rfl
      simp only [Act.put, List.setIfInBounds_toArray, List.set_cons_zero, List.set_cons_succ, List.getElem_toArray, List.getElem_cons_zero, List.getElem_cons_succ]
      refine wpAnyH_done (by kernel_rfl) ?_ _
      go_wp2
      go_ret
      exact ⟨ret_str HR.out, by assumption⟩

theorem refDec_calls (n : Nat) (hn : n < 256) (w : World) : Calls Tryz.prog 56 #[.int .i64 (n : Int)] w (DecText n w) := by
  by_cases h : n < 10
  · exact refDec_one n h w
  · have h2 : ∀ m : Nat, m < 100 → ∀ w, Calls Tryz.prog 56 #[.int .i64 (m : Int)] w (DecText m w) := fun m hm w => by
      by_cases h : m < 10
      · exact refDec_one m h w
      · exact refDec_more m h (by omega) (fun w => refDec_one _ (by omega) w) (Adr.decT_length _ (by omega)) w
    exact refDec_more n h (by omega) (fun w => h2 _ (by omega) w) (Adr.decT_length _ (by omega)) w
end Go.Proofs.YtcookddgaomkiaaGreatDoor
