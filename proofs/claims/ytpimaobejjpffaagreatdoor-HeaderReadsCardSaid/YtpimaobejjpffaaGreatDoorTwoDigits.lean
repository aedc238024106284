/- The walks of twoDigits and timeText, and of the reference's two. -/
import Derived.Test.YtpimaobejjpffaaGreatDoorCal
import Derived.Test.YtpimaobejjpffaaGreatDoorQuiet
import Derived.Test.YtpimaobejjpffaaGreatDoorOctets
import Derived.Deep.RegionHeld
namespace Go.Proofs.YtpimaobejjpffaaGreatDoor
open Go.RowKit
theorem two_string (W : World) (a b : UInt8) :
    (convert 49 9 (.slice (some ⟨W.heap.size, 0, none⟩) 2 2)).run Tryz.prog (W.alloc (.cells #[.int .u8 (a.toNat : Int), .int .u8 (b.toNat : Int)] 5)) = .ok (.string ⟨#[a, b]⟩) (W.alloc (.cells #[.int .u8 (a.toNat : Int), .int .u8 (b.toNat : Int)] 5)) := by
  refine run_convert_bytes_back (W.alloc (.cells #[.int .u8 (a.toNat : Int), .int .u8 (b.toNat : Int)] 5)) 49 9 5 ⟨W.heap.size, 0, none⟩ 2 [a, b] Tryz.underlying49 Tryz.underlying5 Tryz.underlying9 (fun j hj => ?_)
  have hR := Row.new W 5 #[.int .u8 (a.toNat : Int), .int .u8 (b.toNat : Int)]
  rw [Addr.add_mid, hR.cell]
  have : j = 0 ∨ j = 1 := by simp at hj; omega
  rcases this with rfl | rfl <;> rfl
namespace Dt
theorem dg_at (k : Nat) (h : k < 10) (h2 : k < (⟨#[48, 49, 50, 51, 52, 53, 54, 55, 56, 57]⟩ : ByteArray).size) : (⟨#[48, 49, 50, 51, 52, 53, 54, 55, 56, 57]⟩ : ByteArray)[k] = UInt8.ofNat (48 + k) := by
  have : k = 0 ∨ k = 1 ∨ k = 2 ∨ k = 3 ∨ k = 4 ∨ k = 5 ∨ k = 6 ∨ k = 7 ∨ k = 8 ∨ k = 9 := by omega
  rcases this with rfl | rfl | rfl | rfl | rfl | rfl | rfl | rfl | rfl | rfl <;> rfl
end Dt
def TextPost (l : List UInt8) (w : World) (e : Ending) (w' : World) : Prop := e = .returned (.string ⟨l.toArray⟩) ∧ Below w.heap.size w w'
set_option maxRecDepth 100000 in
set_option maxHeartbeats 2000000 in
theorem twoDigits_calls (n : Nat) (hn : n < 100) (w : World) : Calls Tryz.prog 64 #[.int .i64 (n : Int)] w (TextPost (Dt.two n) w) := by
  have HT : Hid (Dt.two n = [UInt8.ofNat (48 + n / 10), UInt8.ofNat (48 + n % 10)]) := Lib.hid (by unfold Dt.two; rw [show n / 10 % 10 = n / 10 by omega])
  have q1 : IntKind.i64.wrap ((n : Int).tdiv 10) = ((n / 10 : Nat) : Int) := by rw [Int.tdiv_eq_ediv_of_nonneg (by omega), IntKind.wrap_i64]; omega
  have q2 : (n : Int).tmod 10 = ((n % 10 : Nat) : Int) := by rw [Int.tmod_eq_emod_of_nonneg (by omega)]; omega
  have q3 : IntKind.i64.wrap ((n : Int) / 10) = ((n / 10 : Nat) : Int) := by rw [IntKind.wrap_i64]; omega
  have q4 : (n : Int) % 10 = ((n % 10 : Nat) : Int) := by omega
  have m1 : n / 10 < 10 := by omega
  have m2 : n % 10 < 10 := by omega
  have D1 := Dt.dg_at (n / 10) m1 m1
  have D2 := Dt.dg_at (n % 10) m2 m2
  have hcv : (convert 49 9 (.slice (some ⟨w.heap.size, 0, none⟩) 2 2)).run Tryz.prog (w.alloc (.cells #[.int .u8 ((UInt8.ofNat (48 + n / 10)).toNat : Int), .int .u8 ((UInt8.ofNat (48 + n % 10)).toNat : Int)] 5)).drew = .ok (.string ⟨#[UInt8.ofNat (48 + n / 10), UInt8.ofNat (48 + n % 10)]⟩) (w.alloc (.cells #[.int .u8 ((UInt8.ofNat (48 + n / 10)).toNat : Int), .int .u8 ((UInt8.ofNat (48 + n % 10)).toNat : Int)] 5)).drew := two_string w.drew (UInt8.ofNat (48 + n / 10)) (UInt8.ofNat (48 + n % 10))
  generalize Dt.two n = l at *
  generalize n / 10 = x at *
  generalize n % 10 = y at *
  generalize UInt8.ofNat (48 + x) = a at *
  generalize UInt8.ofNat (48 + y) = b at *
  have s1 : (x : Int) < 10 := by omega
  have s2 : (y : Int) < 10 := by omega
  go_enter Tryz.func64, Tryz.ntmps64
  go_wp2_with fail
  refine wp_region_held_drew (S := Below w.heap.size w) (by kernel_rfl) ((Below.refl w.heap.size w).drew) (fun _ => ?_)
  refine wpAnyH_take (i := 0) (v := ?_) rfl (by kernel_rfl) (by kernel_rfl) (by kernel_rfl) (fun _ _ _ h => h) (Or.inl ⟨by rfl, ?_⟩) (by assumption) ?_
  rotate_left
  · intro _ _; go_simp; with_reducible rfl
  simp only [Act.put, List.setIfInBounds_toArray, List.set_cons_zero, List.set_cons_succ, List.getElem_toArray, List.getElem_cons_zero]
  refine wpAnyH_take (i := 1) (v := ?_) rfl (by kernel_rfl) (by kernel_rfl) (by kernel_rfl) (fun _ _ _ h => h) (Or.inl ⟨by rfl, ?_⟩) (by assumption) ?_
  rotate_left
  · intro _ _; go_simp; with_reducible rfl
  simp only [Act.put, List.setIfInBounds_toArray, List.set_cons_zero, List.set_cons_succ, List.getElem_toArray, List.getElem_cons_zero, List.getElem_cons_succ]
  refine wpAnyH_take (i := 2) (v := ?_) rfl (by kernel_rfl) (by kernel_rfl) (by kernel_rfl) (fun _ _ _ h => h) (Or.inl ⟨by rfl, ?_⟩) (by assumption) ?_
  rotate_left
  · intro _ _; go_simp; with_reducible rfl
  simp only [Act.put, List.setIfInBounds_toArray, List.set_cons_zero, List.set_cons_succ, List.getElem_toArray, List.getElem_cons_zero, List.getElem_cons_succ]
  refine wpAnyH_take (i := 3) (v := ?_) rfl (by kernel_rfl) (by kernel_rfl) (by kernel_rfl) (fun _ _ _ h => h) (Or.inl ⟨by rfl, ?_⟩) (by assumption) ?_
  rotate_left
  · intro _ _; go_simp; with_reducible rfl
  simp only [Act.put, List.setIfInBounds_toArray, List.set_cons_zero, List.set_cons_succ, List.getElem_toArray, List.getElem_cons_zero, List.getElem_cons_succ]
  refine wpAnyH_take (i := 4) (v := ?_) rfl (by kernel_rfl) (by kernel_rfl) (by kernel_rfl) (fun _ _ _ h => h) (Or.inl ⟨by rfl, ?_⟩) (by assumption) ?_
  rotate_left
  · intro _ _; go_simp; with_reducible rfl
  simp only [Act.put, List.setIfInBounds_toArray, List.set_cons_zero, List.set_cons_succ, List.getElem_toArray, List.getElem_cons_zero, List.getElem_cons_succ]
  refine wpAnyH_take (i := 5) (v := ?_) rfl (by kernel_rfl) (by kernel_rfl) (by kernel_rfl) (fun _ _ _ h => h) (Or.inl ⟨by rfl, ?_⟩) (by assumption) ?_
  rotate_left
  · intro _ _; go_simp; with_reducible rfl
  simp only [Act.put, List.setIfInBounds_toArray, List.set_cons_zero, List.set_cons_succ, List.getElem_toArray, List.getElem_cons_zero, List.getElem_cons_succ]
  refine wpAnyH_ready (rs := [6]) (by kernel_rfl) (by simp) (AllReadyH.cons rfl (fun K hK => ?_) AllReadyH.nil)
  rw [if_pos (by rfl)]
  go_simp
  have S5 : Below w.heap.size w ((w.drew).alloc (.cells #[.int .u8 (a.toNat : Int), .int .u8 (b.toNat : Int)] 5)) := ((Below.refl w.heap.size w).drew).alloc (Nat.le_refl _) _
  refine hK.out _ _ S5 (fun _ => ?_)
  clear hK K
  refine wpAnyH_ready (rs := [7]) (by kernel_rfl) (by simp) (AllReadyH.cons rfl (fun K hK => ?_) AllReadyH.nil)
  rw [if_pos (by rfl)]
  go_simp
  refine hK.out _ _ S5 (fun _ => ?_)
  clear hK K
  refine wpAnyH_take (i := 8) (v := ?_) rfl (by kernel_rfl) (by kernel_rfl) (by kernel_rfl) (fun _ _ _ h => h) (Or.inl ⟨by rfl, ?_⟩) (by assumption) ?_
  rotate_left
  · intro _ _; go_simp; with_reducible rfl
  simp only [Act.put, List.setIfInBounds_toArray, List.set_cons_zero, List.set_cons_succ, List.getElem_toArray, List.getElem_cons_zero, List.getElem_cons_succ]
  refine wpAnyH_done (by kernel_rfl) ?_ _
  go_wp2
  go_ret
  exact ⟨ret_str (by rw [HT.out]), by assumption⟩
/-- Three texts of two with colons between. -/
theorem clock_bytes {A B C : ByteArray} {n : Nat} (hA : A = ⟨(Dt.two (n / 3600)).toArray⟩) (hB : B = ⟨(Dt.two (n / 60 % 60)).toArray⟩) (hC : C = ⟨(Dt.two (n % 60)).toArray⟩) :
    A ++ ⟨#[58]⟩ ++ B ++ ⟨#[58]⟩ ++ C = ⟨(Dt.clock n).toArray⟩ := by
  subst hA hB hC
  rfl
theorem two_size {A : ByteArray} {n : Nat} (h : A = ⟨(Dt.two n).toArray⟩) : A.size = 2 := by subst h; rfl
set_option maxRecDepth 100000 in
set_option maxHeartbeats 2000000 in
theorem timeText_calls (n : Nat) (hn : n < 86400) (w : World) : Calls Tryz.prog 66 #[.int .i64 (n : Int)] w (TextPost (Dt.clock n) w) := by
  have HA := Lib.hid (fun W => twoDigits_calls (n / 3600) (by omega) W)
  have HB := Lib.hid (fun W => twoDigits_calls (n / 60 % 60) (by omega) W)
  have HC := Lib.hid (fun W => twoDigits_calls (n % 60) (by omega) W)
  unfold TextPost at HA HB HC
  obtain ⟨A, hA⟩ : ∃ A : ByteArray, A = ⟨(Dt.two (n / 3600)).toArray⟩ := ⟨_, rfl⟩
  obtain ⟨B, hB⟩ : ∃ A : ByteArray, A = ⟨(Dt.two (n / 60 % 60)).toArray⟩ := ⟨_, rfl⟩
  obtain ⟨C, hC⟩ : ∃ A : ByteArray, A = ⟨(Dt.two (n % 60)).toArray⟩ := ⟨_, rfl⟩
  rw [← hA] at HA
  rw [← hB] at HB
  rw [← hC] at HC
  have HT := Lib.hid (clock_bytes hA hB hC)
  have sA := two_size hA
  have sB := two_size hB
  have sC := two_size hC
  clear hA hB hC
  have q1 : (n : Int).tdiv 3600 = ((n / 3600 : Nat) : Int) := by rw [Int.tdiv_eq_ediv_of_nonneg (by omega)]; omega
  have q2 : ((n : Int).tmod 3600).tdiv 60 = ((n / 60 % 60 : Nat) : Int) := by rw [Int.tmod_eq_emod_of_nonneg (by omega), Int.tdiv_eq_ediv_of_nonneg (by omega)]; omega
  have q3 : (n : Int).tmod 60 = ((n % 60 : Nat) : Int) := by rw [Int.tmod_eq_emod_of_nonneg (by omega)]; omega
  have q4 : (n : Int) / 3600 = ((n / 3600 : Nat) : Int) := by omega
  have q5 : ((n : Int) % 3600) / 60 = ((n / 60 % 60 : Nat) : Int) := by omega
  have q6 : (n : Int) % 60 = ((n % 60 : Nat) : Int) := by omega
  generalize Dt.clock n = l at *
  have r1 : n / 3600 < 24 := by omega
  have r2 : n / 60 % 60 < 60 := by omega
  have r3 : n % 60 < 60 := by omega
  generalize n / 3600 = x at *
  generalize n / 60 % 60 = y at *
  generalize n % 60 = z at *
  have p0 : ¬ 9223372036854775807 < A.size + 1 := by omega
  have p1 : ¬ 9223372036854775807 < A.size + 1 + B.size := by omega
  have p2 : ¬ 9223372036854775807 < A.size + 1 + B.size + 1 := by omega
  have p3 : ¬ 9223372036854775807 < A.size + 1 + B.size + 1 + C.size := by omega
  go_enter Tryz.func66, Tryz.ntmps66
  go_wp2_with fail
  refine (HA.out _).mono ?_
  rintro e w1 ⟨rfl, b1⟩
  go_wp2_with fail
  refine (HB.out _).mono ?_
  rintro e w2 ⟨rfl, b2⟩
  go_wp2_with fail
  refine (HC.out _).mono ?_
  rintro e w3 ⟨rfl, b3⟩
  go_wp2
  go_ret
  have b12 := b1.trans (b2.mono b1.size)
  exact ⟨ret_str HT.out, b12.trans (b3.mono b12.size)⟩
end Go.Proofs.YtpimaobejjpffaaGreatDoor
