/- The walks of the reference's Group, hex and decimal. -/
import Derived.Test.YtkajddopjflniaaGreatDoorCells
import Derived.Test.YtkajddopjflniaaGreatDoorOctets
import Derived.Test.YtkajddopjflniaaGreatDoorPlains
import Derived.Deep.RegionHeld3
import Derived.Deep.RegionHeld
import Derived.Test.YtkajddopjflniaaGreatDoorArrays
import Derived.Test.YtkajddopjflniaaGreatDoorTexts6
import Derived.Test.YtkajddopjflniaaGreatDoorRefHosts
namespace Go.Proofs.YtkajddopjflniaaGreatDoor
open Go.RowKit
namespace Adr
theorem hexT_step {n : Nat} (h : 16 ≤ n) (hn : n < 65536) : hexT n = hexT (n / 16) ++ [dig (n % 16)] := by
  have h0 : ¬ n < 16 := by omega
  have hor : (n < 256 ∧ n / 16 < 16) ∨ (¬ n < 256 ∧ n < 4096 ∧ ¬ n / 16 < 16 ∧ n / 16 < 256) ∨ (¬ n < 256 ∧ ¬ n < 4096 ∧ ¬ n / 16 < 16 ∧ ¬ n / 16 < 256 ∧ n / 16 < 4096) := by omega
  unfold hexT
  rcases hor with ⟨h1, h2⟩ | ⟨h1, h2, h3, h4⟩ | ⟨h1, h2, h3, h4, h5⟩
  · simp only [h0, h1, h2, if_true, if_false]; rfl
  · simp only [h0, h1, h2, h3, h4, if_true, if_false, Nat.div_div_eq_div_mul]; rfl
  · simp only [h0, h1, h2, h3, h4, h5, if_true, if_false, Nat.div_div_eq_div_mul]; rfl
theorem dig16 : ∀ (n : Nat), n < 16 → (⟨#[48, 49, 50, 51, 52, 53, 54, 55, 56, 57, 97, 98, 99, 100, 101, 102]⟩ : ByteArray).extract n (n + 1) = ⟨#[dig n]⟩ := by decide
end Adr
set_option maxHeartbeats 1000000 in
theorem refGroup_calls (a : List UInt8) (ha : a.length = 16) (k : Nat) (hk : k < 8) (g : UInt16) (hg : (Adr.groups a)[k]? = some g) (w : World) :
    Calls Tryz.prog 51 #[.agg (bytesA a), .int .i64 (k : Int)] w fun e w' => e = .returned (.int .i64 (g.toNat : Int)) ∧ Below w.heap.size w w' := by
  obtain ⟨x, hx⟩ : ∃ x, a[2 * k]? = some x := ⟨_, List.getElem?_eq_getElem (by omega)⟩
  obtain ⟨y, hy⟩ : ∃ y, a[2 * k + 1]? = some y := ⟨_, List.getElem?_eq_getElem (by omega)⟩
  have e := Adr.groups_at a k x y hx hy
  rw [hg] at e
  have HG := Lib.hid (show g.toNat = x.toNat * 256 + y.toNat by rw [Option.some.inj e, Adr.mk_toNat])
  have R0 := Row.new w 23 (bytesA a)
  have c0 : (w.alloc (.cells (bytesA a) 23)).cell? ⟨w.heap.size, 2 * k, none⟩ = some (.int .u8 (x.toNat : Int)) := by rw [R0.cell, bytesA_at, hx]; rfl
  have c1 : (w.alloc (.cells (bytesA a) 23)).cell? ⟨w.heap.size, 2 * k + 1, none⟩ = some (.int .u8 (y.toNat : Int)) := by rw [R0.cell, bytesA_at, hy]; rfl
  have B := ((Below.refl w.heap.size w).alloc (Nat.le_refl _) (.cells (bytesA a) 23))
  have e1 : ((2 : Int) * (k : Int)).toNat = 2 * k := by omega
  have e2 : ((2 : Int) * (k : Int) + 1).toNat = 2 * k + 1 := by omega
  have w1 : IntKind.i64.wrap ((2 : Int) * (k : Int)) = (2 : Int) * (k : Int) := by rw [IntKind.wrap_i64]; omega
  have w2 : IntKind.i64.wrap ((2 : Int) * (k : Int) + 1) = (2 : Int) * (k : Int) + 1 := by rw [IntKind.wrap_i64]; omega
  have hx1 := x.toNat_lt
  have hy1 := y.toNat_lt
  have w3 : IntKind.i64.wrap ((x.toNat : Int) * 256) = (x.toNat : Int) * 256 := by rw [IntKind.wrap_i64]; omega
  have w4 : IntKind.i64.wrap ((x.toNat : Int) * 256 + (y.toNat : Int)) = (x.toNat : Int) * 256 + (y.toNat : Int) := by rw [IntKind.wrap_i64]; omega
  clear e hx hy hg R0 ha
  go_enter Tryz.func51, Tryz.ntmps51
  go_wp2_with fail
  generalize w.alloc (.cells (bytesA a) 23) = w0 at *
  go_quiet (fail)
  go_wp2
  go_ret
  exact ⟨ret_int (by rw [HG.out]; omega), B.trans ((Drawn.more (Drawn.refl w0) _).below _)⟩

theorem Drawn.trans {w w1 w2 : World} (h : Drawn w w1) (k : Drawn w1 w2) : Drawn w w2 := by
  obtain ⟨m, rfl⟩ := k
  exact h.more m
def HexDrawn (n : Nat) (w : World) (e : Ending) (w' : World) : Prop := e = .returned (.string ⟨(Adr.hexT n).toArray⟩) ∧ Drawn w w'
set_option maxHeartbeats 1000000 in
theorem refHex_calls (n : Nat) (hn : n < 65536) : ∀ w : World, Calls Tryz.prog 65 #[.int .i64 (n : Int)] w (HexDrawn n w) := by
  induction n using Nat.strongRecOn with
  | _ n ih =>
    intro w
    by_cases h : n < 16
    · have HD := Lib.hid (Adr.dig16 n h)
      have HT := Lib.hid (show Adr.hexT n = [Adr.dig n] by unfold Adr.hexT; rw [if_pos h])
      have e1 : ((n : Int) + 1).toNat = n + 1 := by omega
      clear ih
      go_enter Tryz.func65, Tryz.ntmps65
      go_wp2
      go_ret
      exact ⟨ret_str (by rw [HT.out]; exact HD.out), Drawn.refl _⟩
    · have HI := Lib.hid (ih (n / 16) (by omega) (by omega))
      have hy : n % 16 < 16 := by omega
      have HD := Lib.hid (Adr.dig16 (n % 16) hy)
      have HT := Lib.hid (Adr.hexT_step (by omega : 16 ≤ n) hn)
      have hl := (Adr.hexT_length (n / 16)).2
      obtain ⟨X, hX⟩ : ∃ X : ByteArray, X = ⟨(Adr.hexT (n / 16)).toArray⟩ := ⟨_, rfl⟩
      have hXs : X.size ≤ 4 := by rw [hX]; show (List.toArray _).size ≤ 4; rw [List.size_toArray]; exact hl
      have q1 : IntKind.i64.wrap ((n : Int).tdiv 16) = ((n / 16 : Nat) : Int) := by rw [Int.tdiv_eq_ediv_of_nonneg (by omega), IntKind.wrap_i64]; omega
      have q2 : (n : Int).tmod 16 = (n : Int) % 16 := Int.tmod_eq_emod_of_nonneg (by omega)
      have m0 : 0 ≤ (n : Int) % 16 := by omega
      have m1 : (n : Int) % 16 < 16 := by omega
      have q3 : IntKind.i64.wrap ((n : Int) % 16 + 1) = (n : Int) % 16 + 1 := by rw [IntKind.wrap_i64]; omega
      have m2 : 0 ≤ (n : Int) % 16 + 1 := by omega
      have m3 : (n : Int) % 16 + 1 ≤ 16 := by omega
      have m4 : (n : Int) % 16 ≤ (n : Int) % 16 + 1 := by omega
      have q4 : ((n : Int) % 16).toNat = n % 16 := by omega
      have q5 : ((n : Int) % 16 + 1).toNat = n % 16 + 1 := by omega
      have q6 := HD.out
      have q7 : (⟨#[Adr.dig (n % 16)]⟩ : ByteArray).size = 1 := rfl
      have q8 : ¬ 9223372036854775807 < X.size + 1 := by omega
      have HC : Hid (∀ W, Calls Tryz.prog 65 #[.int .i64 (IntKind.i64.wrap ((n : Int).tdiv 16))] W fun e w' => e = .returned (.string X) ∧ Drawn W w') := Lib.hid fun W => by rw [q1, hX]; exact HI.out W
      have HR := Lib.hid (show X ++ ⟨#[Adr.dig (n % 16)]⟩ = ⟨(Adr.hexT n).toArray⟩ by rw [hX, HT.out]; apply ByteArray.ext; simp [ByteArray.data_append])
      clear ih hX HI HT
      go_enter Tryz.func65, Tryz.ntmps65
      go_wp2_with fail
      refine wp_region_held_drew (S := Drawn w) (by kernel_rfl) ((Drawn.refl w).more 1) (fun _ => ?_)
      refine wpAnyH_take (i := 0) (v := ?_) rfl (by kernel_rfl) (by kernel_rfl) (by kernel_rfl) (fun _ _ _ h => h) (Or.inl ⟨by rfl, ?_⟩) (by assumption) ?_
      rotate_left
      · intro _ _; go_simp; with_reducible rfl
      simp only [Act.put, List.setIfInBounds_toArray, List.set_cons_zero, List.set_cons_succ, List.getElem_toArray, List.getElem_cons_zero]
      refine wpAnyH_take (i := 1) (v := ?_) rfl (by kernel_rfl) (by kernel_rfl) (by kernel_rfl) (fun _ _ _ h => h) (Or.inl ⟨by rfl, ?_⟩) (by assumption) ?_
      rotate_left
      · intro _ _; go_simp; with_reducible rfl
      simp only [Act.put, List.setIfInBounds_toArray, List.set_cons_zero, List.set_cons_succ, List.getElem_toArray, List.getElem_cons_zero, List.getElem_cons_succ]
      refine wpAnyH_take (i := 3) (v := ?_) rfl (by kernel_rfl) (by kernel_rfl) (by kernel_rfl) (fun _ _ _ h => h) (Or.inl ⟨by rfl, ?_⟩) (by assumption) ?_
      rotate_left
      · intro _ _; go_simp; with_reducible rfl
      simp only [Act.put, List.setIfInBounds_toArray, List.set_cons_zero, List.set_cons_succ, List.getElem_toArray, List.getElem_cons_zero, List.getElem_cons_succ]
      refine wpAnyH_take (i := 4) (v := ?_) rfl (by kernel_rfl) (by kernel_rfl) (by kernel_rfl) (fun _ _ _ h => h) (Or.inl ⟨by rfl, ?_⟩) (by assumption) ?_
      rotate_left
      · intro _ _; go_simp; with_reducible rfl
      simp only [Act.put, List.setIfInBounds_toArray, List.set_cons_zero, List.set_cons_succ, List.getElem_toArray, List.getElem_cons_zero, List.getElem_cons_succ]
      refine wpAnyH_take (i := 5) (v := ?_) rfl (by kernel_rfl) (by kernel_rfl) (by kernel_rfl) (fun _ _ _ h => h) (Or.inl ⟨by rfl, ?_⟩) (by assumption) ?_
      rotate_left
      · intro _ _; go_simp; with_reducible rfl
      simp only [Act.put, List.setIfInBounds_toArray, List.set_cons_zero, List.set_cons_succ, List.getElem_toArray, List.getElem_cons_zero, List.getElem_cons_succ]
      refine wpAnyH_take (i := 6) (v := ?_) rfl (by kernel_rfl) (by kernel_rfl) (by kernel_rfl) (fun _ _ _ h => h) (Or.inl ⟨by rfl, ?_⟩) (by assumption) ?_
      rotate_left
      · intro _ _; go_simp; with_reducible rfl
      simp only [Act.put, List.setIfInBounds_toArray, List.set_cons_zero, List.set_cons_succ, List.getElem_toArray, List.getElem_cons_zero, List.getElem_cons_succ]
      refine wpAnyH_take (i := 7) (v := ?_) rfl (by kernel_rfl) (by kernel_rfl) (by kernel_rfl) (fun _ _ _ h => h) (Or.inl ⟨by rfl, ?_⟩) (by assumption) ?_
      rotate_left
      · intro _ _; go_simp; with_reducible rfl
      simp only [Act.put, List.setIfInBounds_toArray, List.set_cons_zero, List.set_cons_succ, List.getElem_toArray, List.getElem_cons_zero, List.getElem_cons_succ]
      refine wpAnyH_take (i := 8) (v := ?_) rfl (by kernel_rfl) (by kernel_rfl) (by kernel_rfl) (fun _ _ _ h => h) (Or.inl ⟨by rfl, ?_⟩) (by assumption) ?_
      rotate_left
      · intro _ _; go_simp; with_reducible rfl
      simp only [Act.put, List.setIfInBounds_toArray, List.set_cons_zero, List.set_cons_succ, List.getElem_toArray, List.getElem_cons_zero, List.getElem_cons_succ]
      refine wpAnyH_ready (rs := [2]) (by kernel_rfl) (by simp) (AllReadyH.cons rfl (fun K hK => ?_) AllReadyH.nil)
      rw [if_pos (by rfl)]
      go_simp
      refine (HC.out _).mono ?_
      rintro e w4 ⟨rfl, d4⟩
      have S4 : Drawn w w4 := Drawn.trans (by assumption) d4
      go_wp2_with fail
      refine hK.out _ _ S4 (fun _ => ?_)
      clear hK K
      refine wpAnyH_take (i := 9) (v := ?_) rfl (by kernel_rfl) (by kernel_rfl) (by kernel_rfl) (fun _ _ _ h => h) (Or.inl ⟨by rfl, ?_⟩) (by assumption) ?_
      rotate_left
      · intro _ _; go_simp; with_reducible rfl
      simp only [Act.put, List.setIfInBounds_toArray, List.set_cons_zero, List.set_cons_succ, List.getElem_toArray, List.getElem_cons_zero, List.getElem_cons_succ]
      refine wpAnyH_take (i := 10) (v := ?_) rfl (by kernel_rfl) (by kernel_rfl) (by kernel_rfl) (fun _ _ _ h => h) (Or.inl ⟨by rfl, ?_⟩) (by assumption) ?_
      rotate_left
      · intro _ _; go_simp; with_reducible rfl
      simp only [Act.put, List.setIfInBounds_toArray, List.set_cons_zero, List.set_cons_succ, List.getElem_toArray, List.getElem_cons_zero, List.getElem_cons_succ]
      refine wpAnyH_done (by kernel_rfl) ?_ _
      go_wp2
      go_ret
      exact ⟨ret_str HR.out, S4⟩
end Go.Proofs.YtkajddopjflniaaGreatDoor
/- The walk of the reference's decimal. -/
namespace Go.Proofs.YtkajddopjflniaaGreatDoor
open Go.RowKit
namespace Adr
theorem dec_one {n : Nat} (h : n < 10) : Lib.decDigits n = [UInt8.ofNat (48 + n)] := by unfold Lib.decDigits; rw [dif_pos h]
theorem dec_more {n : Nat} (h : ¬ n < 10) : Lib.decDigits n = Lib.decDigits (n / 10) ++ [UInt8.ofNat (48 + n % 10)] := by
  conv => lhs; unfold Lib.decDigits
  rw [dif_neg h]
theorem dec_u8 (k : Nat) (h : k < 10) : (UInt8.ofNat (48 + k)).toNat = 48 + k := by rw [UInt8.toNat_ofNat']; omega
end Adr
def DecText (n : Nat) (w : World) (e : Ending) (w' : World) : Prop := e = .returned (.string ⟨(Lib.decDigits n).toArray⟩) ∧ Below w.heap.size w w'
theorem byte_string (w w' : World) (c : UInt8) (hc : w'.cell? ⟨w.heap.size, 0, none⟩ = some (.int .u8 (c.toNat : Int))) :
    (convert 59 9 (.slice (some ⟨w.heap.size, 0, none⟩) 1 1)).run Tryz.prog w' = .ok (.string ⟨#[c]⟩) w' := by
  refine run_convert_bytes_back w' 59 9 5 ⟨w.heap.size, 0, none⟩ 1 [c] Tryz.underlying59 Tryz.underlying5 Tryz.underlying9 (fun j hj => ?_)
  have : j = 0 := by simp at hj; exact hj
  subst this
  exact hc
set_option maxRecDepth 100000 in
set_option maxHeartbeats 1000000 in
theorem refDec_one (n : Nat) (h : n < 10) (w : World) : Calls Tryz.prog 50 #[.int .i64 (n : Int)] w (DecText n w) := by
  have HT := Lib.hid (Adr.dec_one h)
  have hu := Adr.dec_u8 n h
  have hcv := one_string w (UInt8.ofNat (48 + n))
  generalize UInt8.ofNat (48 + n) = c at *
  rw [hu] at hcv
  have e1 : ((48 + n : Nat) : Int) = 48 + (n : Int) := by omega
  rw [e1] at hcv
  go_enter Tryz.func50, Tryz.ntmps50
  go_wp2
  go_ret
  exact ⟨ret_str (by rw [HT.out]), (Below.refl w.heap.size w).alloc (Nat.le_refl _) _⟩

set_option maxRecDepth 100000 in
set_option maxHeartbeats 2000000 in
theorem refDec_more (n : Nat) (h : ¬ n < 10) (hn : n < 1000) (ih : ∀ w, Calls Tryz.prog 50 #[.int .i64 ((n / 10 : Nat) : Int)] w (DecText (n / 10) w)) (hx : (Lib.decDigits (n / 10)).length ≤ 3) (w : World) :
    Calls Tryz.prog 50 #[.int .i64 (n : Int)] w (DecText n w) := by
  have hd : n % 10 < 10 := by omega
  obtain ⟨X, hX⟩ : ∃ X : ByteArray, X = ⟨(Lib.decDigits (n / 10)).toArray⟩ := ⟨_, rfl⟩
  obtain ⟨c, hc⟩ : ∃ c : UInt8, c = UInt8.ofNat (48 + n % 10) := ⟨_, rfl⟩
  have HR := Lib.hid (show X ++ ⟨#[c]⟩ = ⟨(Lib.decDigits n).toArray⟩ by rw [hX, Adr.dec_more h, hc]; apply ByteArray.ext; simp [ByteArray.data_append])
  have hXs : X.size ≤ 3 := by rw [hX]; show (List.toArray _).size ≤ 3; rw [List.size_toArray]; exact hx
  have hu := Adr.dec_u8 (n % 10) hd
  rw [← hc] at hu
  have hu' : (c.toNat : Int) = 48 + (n : Int) % 10 := by omega
  have q1 : IntKind.i64.wrap ((n : Int).tdiv 10) = ((n / 10 : Nat) : Int) := by rw [Int.tdiv_eq_ediv_of_nonneg (by omega), IntKind.wrap_i64]; omega
  have q2 : (n : Int).tmod 10 = (n : Int) % 10 := Int.tmod_eq_emod_of_nonneg (by omega)
  have m0 : 0 ≤ (n : Int) % 10 := by omega
  have m1 : (n : Int) % 10 < 10 := by omega
  have q3 : IntKind.i64.wrap (48 + (n : Int) % 10) = 48 + (n : Int) % 10 := by rw [IntKind.wrap_i64]; omega
  have q4 : IntKind.u8.wrap (48 + (n : Int) % 10) = 48 + (n : Int) % 10 := by rw [IntKind.wrap_u8]; omega
  have q7 : (⟨#[c]⟩ : ByteArray).size = 1 := rfl
  have q8 : ¬ 9223372036854775807 < X.size + 1 := by omega
  have HC : Hid (∀ W, Calls Tryz.prog 50 #[.int .i64 (IntKind.i64.wrap ((n : Int).tdiv 10))] W fun e w' => e = .returned (.string X) ∧ Below W.heap.size W w') := Lib.hid fun W => by rw [q1, hX]; exact ih W
  have hcv := fun W => one_string W c
  rw [hu'] at hcv
  have hcd : (convert 59 9 (.slice (some ⟨w.heap.size, 0, none⟩) 1 1)).run Tryz.prog (w.alloc (.cells #[.int .u8 (48 + (n : Int) % 10)] 5)).drew = .ok (.string ⟨#[c]⟩) (w.alloc (.cells #[.int .u8 (48 + (n : Int) % 10)] 5)).drew := hcv w.drew
  clear ih hX hu hc
  go_enter Tryz.func50, Tryz.ntmps50
  go_wp2_with fail
  refine wp_region_held_drew (S := Below w.heap.size w) (by kernel_rfl) ((Below.refl w.heap.size w).drew) (fun _ => ?_)
  refine wpAnyH_take (i := 0) (v := ?_) rfl (by kernel_rfl) (by kernel_rfl) (by kernel_rfl) (fun _ _ _ h => h) (Or.inl ⟨by rfl, ?_⟩) (by assumption) ?_
  rotate_left
  · intro _ _; go_simp; with_reducible rfl
  simp only [Act.put, List.setIfInBounds_toArray, List.set_cons_zero, List.set_cons_succ, List.getElem_toArray, List.getElem_cons_zero]
  refine wpAnyH_take (i := 1) (v := ?_) rfl (by kernel_rfl) (by kernel_rfl) (by kernel_rfl) (fun _ _ _ h => h) (Or.inl ⟨by rfl, ?_⟩) (by assumption) ?_
  rotate_left
  · intro _ _; go_simp; with_reducible rfl
  simp only [Act.put, List.setIfInBounds_toArray, List.set_cons_zero, List.set_cons_succ, List.getElem_toArray, List.getElem_cons_zero, List.getElem_cons_succ]
  refine wpAnyH_take (i := 3) (v := ?_) rfl (by kernel_rfl) (by kernel_rfl) (by kernel_rfl) (fun _ _ _ h => h) (Or.inl ⟨by rfl, ?_⟩) (by assumption) ?_
  rotate_left
  · intro _ _; go_simp; with_reducible rfl
  simp only [Act.put, List.setIfInBounds_toArray, List.set_cons_zero, List.set_cons_succ, List.getElem_toArray, List.getElem_cons_zero, List.getElem_cons_succ]
  refine wpAnyH_take (i := 4) (v := ?_) rfl (by kernel_rfl) (by kernel_rfl) (by kernel_rfl) (fun _ _ _ h => h) (Or.inl ⟨by rfl, ?_⟩) (by assumption) ?_
  rotate_left
  · intro _ _; go_simp; with_reducible rfl
  simp only [Act.put, List.setIfInBounds_toArray, List.set_cons_zero, List.set_cons_succ, List.getElem_toArray, List.getElem_cons_zero, List.getElem_cons_succ]
  refine wpAnyH_take (i := 5) (v := ?_) rfl (by kernel_rfl) (by kernel_rfl) (by kernel_rfl) (fun _ _ _ h => h) (Or.inl ⟨by rfl, ?_⟩) (by assumption) ?_
  rotate_left
  · intro _ _; go_simp; with_reducible rfl
  simp only [Act.put, List.setIfInBounds_toArray, List.set_cons_zero, List.set_cons_succ, List.getElem_toArray, List.getElem_cons_zero, List.getElem_cons_succ]
  refine wpAnyH_take (i := 6) (v := ?_) rfl (by kernel_rfl) (by kernel_rfl) (by kernel_rfl) (fun _ _ _ h => h) (Or.inl ⟨by rfl, ?_⟩) (by assumption) ?_
  rotate_left
  · intro _ _; go_simp; with_reducible rfl
  simp only [Act.put, List.setIfInBounds_toArray, List.set_cons_zero, List.set_cons_succ, List.getElem_toArray, List.getElem_cons_zero, List.getElem_cons_succ]
  refine wpAnyH_ready (rs := [2, 7]) (by kernel_rfl) (by simp) (AllReadyH.cons rfl (fun K hK => ?_) (AllReadyH.cons rfl (fun K hK => ?_) AllReadyH.nil))
  · rw [if_pos (by rfl)]
    go_simp
    refine (HC.out _).mono ?_
    rintro e w4 ⟨rfl, b4⟩
    have S4 : Below w.heap.size w w4 := Below.trans (by assumption) (b4.mono (Below.size (by assumption)))
    go_wp2_with fail
    refine hK.out _ _ S4 (fun _ => ?_)
    clear hK K
    refine wpAnyH_ready (rs := [7]) (by kernel_rfl) (by simp) (AllReadyH.cons rfl (fun K hK => ?_) AllReadyH.nil)
    rw [if_pos (by rfl)]
    go_simp
    have S5 : Below w.heap.size w ((w4).alloc (.cells #[.int .u8 (48 + (n : Int) % 10)] 5)) := Below.alloc (by assumption) (Below.size (by assumption)) _
    refine hK.out _ _ S5 (fun _ => ?_)
    clear hK K
    refine wpAnyH_ready (rs := [8]) (by kernel_rfl) (by simp) (AllReadyH.cons rfl (fun K hK => ?_) AllReadyH.nil)
    rw [if_pos (by rfl)]
    go_simp
    refine hK.out _ _ S5 (fun _ => ?_)
    clear hK K
    refine wpAnyH_take (i := 9) (v := ?_) rfl (by kernel_rfl) (by kernel_rfl) (by kernel_rfl) (fun _ _ _ h => h) (Or.inl ⟨by rfl, ?_⟩) (by assumption) ?_
    rotate_left
    · intro _ _; go_simp; with_reducible rfl
    simp only [Act.put, List.setIfInBounds_toArray, List.set_cons_zero, List.set_cons_succ, List.getElem_toArray, List.getElem_cons_zero, List.getElem_cons_succ]
    refine wpAnyH_take (i := 10) (v := ?_) rfl (by kernel_rfl) (by kernel_rfl) (by kernel_rfl) (fun _ _ _ h => h) (Or.inl ⟨by rfl, ?_⟩) (by assumption) ?_
    rotate_left
    · intro _ _; go_simp; with_reducible rfl
    simp only [Act.put, List.setIfInBounds_toArray, List.set_cons_zero, List.set_cons_succ, List.getElem_toArray, List.getElem_cons_zero, List.getElem_cons_succ]
    refine wpAnyH_done (by kernel_rfl) ?_ _
    go_wp2
    go_ret
    exact ⟨ret_str HR.out, by assumption⟩
  · rw [if_pos (by rfl)]
    go_simp
    have S5 : Below w.heap.size w ((w.drew).alloc (.cells #[.int .u8 (48 + (n : Int) % 10)] 5)) := Below.alloc (by assumption) (Below.size (by assumption)) _
    refine hK.out _ _ S5 (fun _ => ?_)
    clear hK K
    refine wpAnyH_ready (rs := [2, 8]) (by kernel_rfl) (by simp) (AllReadyH.cons rfl (fun K hK => ?_) (AllReadyH.cons rfl (fun K hK => ?_) AllReadyH.nil))
    · rw [if_pos (by rfl)]
      go_simp
      refine (HC.out _).mono ?_
      rintro e w4 ⟨rfl, b4⟩
      have S4 : Below w.heap.size w w4 := Below.trans (by assumption) (b4.mono (Below.size (by assumption)))
      go_wp2_with fail
      refine hK.out _ _ S4 (fun _ => ?_)
      clear hK K
      have hcw := byte_string w w4 c ((b4.cell (by simp)).trans (by rw [hu']; exact cell_one_new w.drew (.int .u8 (48 + (n : Int) % 10)) 5 0 _ rfl))
      refine wpAnyH_ready (rs := [8]) (by kernel_rfl) (by simp) (AllReadyH.cons rfl (fun K hK => ?_) AllReadyH.nil)
      rw [if_pos (by rfl)]
      go_simp
      refine hK.out _ _ S4 (fun _ => ?_)
      clear hK K
      refine wpAnyH_take (i := 9) (v := ?_) rfl (by kernel_rfl) (by kernel_rfl) (by kernel_rfl) (fun _ _ _ h => h) (Or.inl ⟨by rfl, ?_⟩) (by assumption) ?_
      rotate_left
      · intro _ _; go_simp; with_reducible rfl
      simp only [Act.put, List.setIfInBounds_toArray, List.set_cons_zero, List.set_cons_succ, List.getElem_toArray, List.getElem_cons_zero, List.getElem_cons_succ]
      refine wpAnyH_take (i := 10) (v := ?_) rfl (by kernel_rfl) (by kernel_rfl) (by kernel_rfl) (fun _ _ _ h => h) (Or.inl ⟨by rfl, ?_⟩) (by assumption) ?_
      rotate_left
      · intro _ _; go_simp; with_reducible rfl
      simp only [Act.put, List.setIfInBounds_toArray, List.set_cons_zero, List.set_cons_succ, List.getElem_toArray, List.getElem_cons_zero, List.getElem_cons_succ]
      refine wpAnyH_done (by kernel_rfl) ?_ _
      go_wp2
      go_ret
      exact ⟨ret_str HR.out, by assumption⟩
    · rw [if_pos (by rfl)]
      go_simp
      refine hK.out _ _ S5 (fun _ => ?_)
      clear hK K
      refine wpAnyH_ready (rs := [2]) (by kernel_rfl) (by simp) (AllReadyH.cons rfl (fun K hK => ?_) AllReadyH.nil)
      rw [if_pos (by rfl)]
      go_simp
      refine (HC.out _).mono ?_
      rintro e w4 ⟨rfl, b4⟩
      have S4 : Below w.heap.size w w4 := Below.trans (by assumption) (b4.mono (Below.size (by assumption)))
      go_wp2_with fail
      refine hK.out _ _ S4 (fun _ => ?_)
      clear hK K
      refine wpAnyH_take (i := 9) (v := ?_) rfl (by kernel_rfl) (by kernel_rfl) (by kernel_rfl) (fun _ _ _ h => h) (Or.inl ⟨by rfl, ?_⟩) (by assumption) ?_
      rotate_left
      · intro _ _; go_simp; with_reducible rfl
      simp only [Act.put, List.setIfInBounds_toArray, List.set_cons_zero, List.set_cons_succ, List.getElem_toArray, List.getElem_cons_zero, List.getElem_cons_succ]
      refine wpAnyH_take (i := 10) (v := ?_) rfl (by kernel_rfl) (by kernel_rfl) (by kernel_rfl) (fun _ _ _ h => h) (Or.inl ⟨by rfl, ?_⟩) (by assumption) ?_
      rotate_left
      · intro _ _; go_simp; with_reducible rfl
      simp only [Act.put, List.setIfInBounds_toArray, List.set_cons_zero, List.set_cons_succ, List.getElem_toArray, List.getElem_cons_zero, List.getElem_cons_succ]
      refine wpAnyH_done (by kernel_rfl) ?_ _
      go_wp2
      go_ret
      exact ⟨ret_str HR.out, by assumption⟩

theorem refDec_calls (n : Nat) (hn : n < 256) (w : World) : Calls Tryz.prog 50 #[.int .i64 (n : Int)] w (DecText n w) := by
  by_cases h : n < 10
  · exact refDec_one n h w
  · have h2 : ∀ m : Nat, m < 100 → ∀ w, Calls Tryz.prog 50 #[.int .i64 (m : Int)] w (DecText m w) := fun m hm w => by
      by_cases h : m < 10
      · exact refDec_one m h w
      · exact refDec_more m h (by omega) (fun w => refDec_one _ (by omega) w) (Adr.decT_length _ (by omega)) w
    exact refDec_more n h (by omega) (fun w => h2 _ (by omega) w) (Adr.decT_length _ (by omega)) w
end Go.Proofs.YtkajddopjflniaaGreatDoor
/- The walk of the reference's Text4. -/
namespace Go.Proofs.YtkajddopjflniaaGreatDoor
open Go.RowKit
/-- The last four bytes of an address lie in a block. -/
structure KeptF (n0 : Nat) (x0 x1 x2 x3 : UInt8) (w w' : World) : Prop where
  c0 : w'.cell? ⟨n0, 12, none⟩ = some (.int .u8 (x0.toNat : Int))
  c1 : w'.cell? ⟨n0, 13, none⟩ = some (.int .u8 (x1.toNat : Int))
  c2 : w'.cell? ⟨n0, 14, none⟩ = some (.int .u8 (x2.toNat : Int))
  c3 : w'.cell? ⟨n0, 15, none⟩ = some (.int .u8 (x3.toNat : Int))
  below : Below w.heap.size w w'
theorem KeptF.on {n0 : Nat} {x0 x1 x2 x3 : UInt8} {w w' w'' : World} (h : KeptF n0 x0 x1 x2 x3 w w') (hb : Below w'.heap.size w' w'') : KeptF n0 x0 x1 x2 x3 w w'' :=
  ⟨(hb.cell (block_lt_of_cell h.c0)).trans h.c0, (hb.cell (block_lt_of_cell h.c1)).trans h.c1, (hb.cell (block_lt_of_cell h.c2)).trans h.c2, (hb.cell (block_lt_of_cell h.c3)).trans h.c3, h.below.trans (hb.mono h.below.size)⟩
set_option maxRecDepth 100000 in
set_option maxHeartbeats 1500000 in
theorem refText4_calls (a : List UInt8) (ha : a.length = 16) (w : World) :
    Calls Tryz.prog 37 #[.agg (bytesA a)] w fun e w' => e = .returned (.string ⟨(Adr.tx4 (a.drop 12)).toArray⟩) ∧ Below w.heap.size w w' := by
  obtain ⟨x0, x1, x2, x3, hx⟩ : ∃ x0 x1 x2 x3, a.drop 12 = [x0, x1, x2, x3] := by
    have h4 : (a.drop 12).length = 4 := by rw [List.length_drop, ha]
    match a.drop 12, h4 with
    | [x0, x1, x2, x3], _ => exact ⟨x0, x1, x2, x3, rfl⟩
  obtain ⟨X0, hX0⟩ : ∃ X : ByteArray, X = ⟨(Lib.decDigits x0.toNat).toArray⟩ := ⟨_, rfl⟩
  have z0 : X0.size ≤ 3 := by rw [hX0]; show (List.toArray _).size ≤ 3; rw [List.size_toArray]; exact Adr.decT_length _ x0.toNat_lt
  have b0 := x0.toNat_lt
  have h0 := fun W => refDec_calls x0.toNat x0.toNat_lt W
  unfold DecText at h0
  rw [← hX0] at h0
  have H0 := Lib.hid h0
  obtain ⟨X1, hX1⟩ : ∃ X : ByteArray, X = ⟨(Lib.decDigits x1.toNat).toArray⟩ := ⟨_, rfl⟩
  have z1 : X1.size ≤ 3 := by rw [hX1]; show (List.toArray _).size ≤ 3; rw [List.size_toArray]; exact Adr.decT_length _ x1.toNat_lt
  have b1 := x1.toNat_lt
  have h1 := fun W => refDec_calls x1.toNat x1.toNat_lt W
  unfold DecText at h1
  rw [← hX1] at h1
  have H1 := Lib.hid h1
  obtain ⟨X2, hX2⟩ : ∃ X : ByteArray, X = ⟨(Lib.decDigits x2.toNat).toArray⟩ := ⟨_, rfl⟩
  have z2 : X2.size ≤ 3 := by rw [hX2]; show (List.toArray _).size ≤ 3; rw [List.size_toArray]; exact Adr.decT_length _ x2.toNat_lt
  have b2 := x2.toNat_lt
  have h2 := fun W => refDec_calls x2.toNat x2.toNat_lt W
  unfold DecText at h2
  rw [← hX2] at h2
  have H2 := Lib.hid h2
  obtain ⟨X3, hX3⟩ : ∃ X : ByteArray, X = ⟨(Lib.decDigits x3.toNat).toArray⟩ := ⟨_, rfl⟩
  have z3 : X3.size ≤ 3 := by rw [hX3]; show (List.toArray _).size ≤ 3; rw [List.size_toArray]; exact Adr.decT_length _ x3.toNat_lt
  have b3 := x3.toNat_lt
  have h3 := fun W => refDec_calls x3.toNat x3.toNat_lt W
  unfold DecText at h3
  rw [← hX3] at h3
  have H3 := Lib.hid h3
  have HR := Lib.hid (show X0 ++ ⟨#[46]⟩ ++ X1 ++ ⟨#[46]⟩ ++ X2 ++ ⟨#[46]⟩ ++ X3 = ⟨(Adr.tx4 (a.drop 12)).toArray⟩ by
    rw [hX0, hX1, hX2, hX3, hx]
    apply ByteArray.ext
    simp [ByteArray.data_append, Adr.tx4, Adr.join_step, Lib.join_one])
  have cs : (⟨#[46]⟩ : ByteArray).size = 1 := rfl
  have q0 : ¬ 9223372036854775807 < X0.size + 1 := by omega
  have q1 : ¬ 9223372036854775807 < X0.size + 1 + X1.size := by omega
  have q2 : ¬ 9223372036854775807 < X0.size + 1 + X1.size + 1 := by omega
  have q3 : ¬ 9223372036854775807 < X0.size + 1 + X1.size + 1 + X2.size := by omega
  have q4 : ¬ 9223372036854775807 < X0.size + 1 + X1.size + 1 + X2.size + 1 := by omega
  have q5 : ¬ 9223372036854775807 < X0.size + 1 + X1.size + 1 + X2.size + 1 + X3.size := by omega
  have K0 : KeptF w.heap.size x0 x1 x2 x3 w (w.alloc (.cells (bytesA a) 23)) := by
    have R0 := Row.new w 23 (bytesA a)
    have e : ∀ i c, (a.drop 12)[i]? = some c → (w.alloc (.cells (bytesA a) 23)).cell? ⟨w.heap.size, 12 + i, none⟩ = some (.int .u8 (c.toNat : Int)) := fun i c hc => by
      rw [R0.cell, bytesA_at, ← List.getElem?_drop, hc]; rfl
    rw [hx] at e
    exact ⟨e 0 x0 rfl, e 1 x1 rfl, e 2 x2 rfl, e 3 x3 rfl, (Below.refl w.heap.size w).alloc (Nat.le_refl _) _⟩
  clear hX0 hX1 hX2 hX3 h0 h1 h2 h3 hx ha
  have HK : Hid (∀ W W', (W.cell? ⟨w.heap.size, 12, none⟩ = some (.int .u8 (x0.toNat : Int)) ∧ W.cell? ⟨w.heap.size, 13, none⟩ = some (.int .u8 (x1.toNat : Int)) ∧ W.cell? ⟨w.heap.size, 14, none⟩ = some (.int .u8 (x2.toNat : Int)) ∧ W.cell? ⟨w.heap.size, 15, none⟩ = some (.int .u8 (x3.toNat : Int)) ∧ Below w.heap.size w W) → Below W.heap.size W W' → (W'.cell? ⟨w.heap.size, 12, none⟩ = some (.int .u8 (x0.toNat : Int)) ∧ W'.cell? ⟨w.heap.size, 13, none⟩ = some (.int .u8 (x1.toNat : Int)) ∧ W'.cell? ⟨w.heap.size, 14, none⟩ = some (.int .u8 (x2.toNat : Int)) ∧ W'.cell? ⟨w.heap.size, 15, none⟩ = some (.int .u8 (x3.toNat : Int)) ∧ Below w.heap.size w W')) := Lib.hid fun W W' ⟨c0, c1, c2, c3, h⟩ b => by
    have k := (KeptF.mk (n0 := w.heap.size) c0 c1 c2 c3 h).on b
    exact ⟨k.c0, k.c1, k.c2, k.c3, k.below⟩
  have C0 : Hid (∀ W, (W.cell? ⟨w.heap.size, 12, none⟩ = some (.int .u8 (x0.toNat : Int)) ∧ W.cell? ⟨w.heap.size, 13, none⟩ = some (.int .u8 (x1.toNat : Int)) ∧ W.cell? ⟨w.heap.size, 14, none⟩ = some (.int .u8 (x2.toNat : Int)) ∧ W.cell? ⟨w.heap.size, 15, none⟩ = some (.int .u8 (x3.toNat : Int)) ∧ Below w.heap.size w W) → Calls Tryz.prog 50 #[.int .i64 (IntKind.i64.wrap (x0.toNat : Int))] W fun e W' => e = .returned (.string X0) ∧ (W'.cell? ⟨w.heap.size, 12, none⟩ = some (.int .u8 (x0.toNat : Int)) ∧ W'.cell? ⟨w.heap.size, 13, none⟩ = some (.int .u8 (x1.toNat : Int)) ∧ W'.cell? ⟨w.heap.size, 14, none⟩ = some (.int .u8 (x2.toNat : Int)) ∧ W'.cell? ⟨w.heap.size, 15, none⟩ = some (.int .u8 (x3.toNat : Int)) ∧ Below w.heap.size w W')) := Lib.hid fun W h => by rw [show IntKind.i64.wrap (x0.toNat : Int) = (x0.toNat : Int) by rw [IntKind.wrap_i64]; omega]; exact (H0.out W).mono fun e W' hh => ⟨hh.1, HK.out _ _ h hh.2⟩
  have C1 : Hid (∀ W, (W.cell? ⟨w.heap.size, 12, none⟩ = some (.int .u8 (x0.toNat : Int)) ∧ W.cell? ⟨w.heap.size, 13, none⟩ = some (.int .u8 (x1.toNat : Int)) ∧ W.cell? ⟨w.heap.size, 14, none⟩ = some (.int .u8 (x2.toNat : Int)) ∧ W.cell? ⟨w.heap.size, 15, none⟩ = some (.int .u8 (x3.toNat : Int)) ∧ Below w.heap.size w W) → Calls Tryz.prog 50 #[.int .i64 (IntKind.i64.wrap (x1.toNat : Int))] W fun e W' => e = .returned (.string X1) ∧ (W'.cell? ⟨w.heap.size, 12, none⟩ = some (.int .u8 (x0.toNat : Int)) ∧ W'.cell? ⟨w.heap.size, 13, none⟩ = some (.int .u8 (x1.toNat : Int)) ∧ W'.cell? ⟨w.heap.size, 14, none⟩ = some (.int .u8 (x2.toNat : Int)) ∧ W'.cell? ⟨w.heap.size, 15, none⟩ = some (.int .u8 (x3.toNat : Int)) ∧ Below w.heap.size w W')) := Lib.hid fun W h => by rw [show IntKind.i64.wrap (x1.toNat : Int) = (x1.toNat : Int) by rw [IntKind.wrap_i64]; omega]; exact (H1.out W).mono fun e W' hh => ⟨hh.1, HK.out _ _ h hh.2⟩
  have C2 : Hid (∀ W, (W.cell? ⟨w.heap.size, 12, none⟩ = some (.int .u8 (x0.toNat : Int)) ∧ W.cell? ⟨w.heap.size, 13, none⟩ = some (.int .u8 (x1.toNat : Int)) ∧ W.cell? ⟨w.heap.size, 14, none⟩ = some (.int .u8 (x2.toNat : Int)) ∧ W.cell? ⟨w.heap.size, 15, none⟩ = some (.int .u8 (x3.toNat : Int)) ∧ Below w.heap.size w W) → Calls Tryz.prog 50 #[.int .i64 (IntKind.i64.wrap (x2.toNat : Int))] W fun e W' => e = .returned (.string X2) ∧ (W'.cell? ⟨w.heap.size, 12, none⟩ = some (.int .u8 (x0.toNat : Int)) ∧ W'.cell? ⟨w.heap.size, 13, none⟩ = some (.int .u8 (x1.toNat : Int)) ∧ W'.cell? ⟨w.heap.size, 14, none⟩ = some (.int .u8 (x2.toNat : Int)) ∧ W'.cell? ⟨w.heap.size, 15, none⟩ = some (.int .u8 (x3.toNat : Int)) ∧ Below w.heap.size w W')) := Lib.hid fun W h => by rw [show IntKind.i64.wrap (x2.toNat : Int) = (x2.toNat : Int) by rw [IntKind.wrap_i64]; omega]; exact (H2.out W).mono fun e W' hh => ⟨hh.1, HK.out _ _ h hh.2⟩
  have C3 : Hid (∀ W, (W.cell? ⟨w.heap.size, 12, none⟩ = some (.int .u8 (x0.toNat : Int)) ∧ W.cell? ⟨w.heap.size, 13, none⟩ = some (.int .u8 (x1.toNat : Int)) ∧ W.cell? ⟨w.heap.size, 14, none⟩ = some (.int .u8 (x2.toNat : Int)) ∧ W.cell? ⟨w.heap.size, 15, none⟩ = some (.int .u8 (x3.toNat : Int)) ∧ Below w.heap.size w W) → Calls Tryz.prog 50 #[.int .i64 (IntKind.i64.wrap (x3.toNat : Int))] W fun e W' => e = .returned (.string X3) ∧ (W'.cell? ⟨w.heap.size, 12, none⟩ = some (.int .u8 (x0.toNat : Int)) ∧ W'.cell? ⟨w.heap.size, 13, none⟩ = some (.int .u8 (x1.toNat : Int)) ∧ W'.cell? ⟨w.heap.size, 14, none⟩ = some (.int .u8 (x2.toNat : Int)) ∧ W'.cell? ⟨w.heap.size, 15, none⟩ = some (.int .u8 (x3.toNat : Int)) ∧ Below w.heap.size w W')) := Lib.hid fun W h => by rw [show IntKind.i64.wrap (x3.toNat : Int) = (x3.toNat : Int) by rw [IntKind.wrap_i64]; omega]; exact (H3.out W).mono fun e W' hh => ⟨hh.1, HK.out _ _ h hh.2⟩
  go_enter Tryz.func37, Tryz.ntmps37
  go_wp2_with fail
  generalize w.alloc (.cells (bytesA a) 23) = w0 at *
  have K1 : w0.drew.cell? ⟨w.heap.size, 12, none⟩ = some (.int .u8 (x0.toNat : Int)) ∧ w0.drew.cell? ⟨w.heap.size, 13, none⟩ = some (.int .u8 (x1.toNat : Int)) ∧ w0.drew.cell? ⟨w.heap.size, 14, none⟩ = some (.int .u8 (x2.toNat : Int)) ∧ w0.drew.cell? ⟨w.heap.size, 15, none⟩ = some (.int .u8 (x3.toNat : Int)) ∧ Below w.heap.size w w0.drew := HK.out _ _ ⟨K0.c0, K0.c1, K0.c2, K0.c3, K0.below⟩ (Below.refl _ _).drew
  clear K0 H0 H1 H2 H3
  go_region_held3 (fun W' => W'.cell? ⟨w.heap.size, 12, none⟩ = some (.int .u8 (x0.toNat : Int)) ∧ W'.cell? ⟨w.heap.size, 13, none⟩ = some (.int .u8 (x1.toNat : Int)) ∧ W'.cell? ⟨w.heap.size, 14, none⟩ = some (.int .u8 (x2.toNat : Int)) ∧ W'.cell? ⟨w.heap.size, 15, none⟩ = some (.int .u8 (x3.toNat : Int)) ∧ Below w.heap.size w W') (assumption) ((first
    | (go_at_call_of 50 (Value.int .i64 (IntKind.i64.wrap (x0.toNat : Int))); refine (C0.out _ (by assumption)).mono ?_; rintro e w4 ⟨rfl, K4⟩)
    | (go_at_call_of 50 (Value.int .i64 (IntKind.i64.wrap (x1.toNat : Int))); refine (C1.out _ (by assumption)).mono ?_; rintro e w4 ⟨rfl, K4⟩)
    | (go_at_call_of 50 (Value.int .i64 (IntKind.i64.wrap (x2.toNat : Int))); refine (C2.out _ (by assumption)).mono ?_; rintro e w4 ⟨rfl, K4⟩)
    | (go_at_call_of 50 (Value.int .i64 (IntKind.i64.wrap (x3.toNat : Int))); refine (C3.out _ (by assumption)).mono ?_; rintro e w4 ⟨rfl, K4⟩)))
  all_goals
    go_wp2
    go_ret
    rename_i K4 _
    exact ⟨ret_str HR.out, K4.2.2.2.2⟩
end Go.Proofs.YtkajddopjflniaaGreatDoor
/- The walk of the reference's part. -/
namespace Go.Proofs.YtkajddopjflniaaGreatDoor
open Go.RowKit
def PartText (a : List UInt8) (f t : Nat) (w : World) (e : Ending) (w' : World) : Prop := e = .returned (.string ⟨(Adr.pt (Adr.groups a) f t).toArray⟩) ∧ Below w.heap.size w w'
set_option maxRecDepth 100000 in
set_option maxHeartbeats 4000000 in
theorem refPart_calls (a : List UInt8) (ha : a.length = 16) (f t : Nat) (hft : f ≤ t) (ht : t ≤ 8) (w : World) :
    Calls Tryz.prog 52 #[.agg (bytesA a), .int .i64 (f : Int), .int .i64 (t : Int)] w (PartText a f t w) := by
  have HG := Lib.hid (fun k hk g hg W => refGroup_calls a ha k hk g hg W)
  have HZ := Lib.hid (show (bytesA a).size = 16 by rw [bytesA_size, ha])
  have HL := Lib.hid (Adr.groups_length 8 a ha)
  have HPT := Lib.hid (show True from trivial)
  obtain ⟨gs, hgs⟩ : ∃ gs, gs = Adr.groups a := ⟨_, rfl⟩
  have HR : Hid (PartText a f t w = fun e w' => e = .returned (.string ⟨(Adr.pt gs f t).toArray⟩) ∧ Below w.heap.size w w') := Lib.hid (by rw [hgs]; rfl)
  rw [HR.out]
  rw [← hgs] at HG HL
  clear hgs HPT HR ha
  have R0 := Row.new w 23 (bytesA a)
  have B0 := (Below.refl w.heap.size w).alloc (Nat.le_refl _) (.cells (bytesA a) 23)
  go_enter Tryz.func52, Tryz.ntmps52
  go_wp2_with fail
  generalize w.alloc (.cells (bytesA a) 23) = w0 at *
  go_loopw [7, 8] (fun v i wr => ∃ (k : Nat) (o : ByteArray), f ≤ k ∧ k ≤ t ∧ i = .int .i64 (k : Int) ∧ v = .string o ∧ Hid (o.data.toList = Adr.pt gs f k) ∧ o.size ≤ 40 ∧ Row wr w.heap.size 23 (bytesA a) ∧ Below w.heap.size w wr) (fun _ i _ => t - (intOf i).toNat)
  case atStart => exact ⟨f, ⟨#[]⟩, Nat.le_refl _, hft, rfl, rfl, (Adr.pt_start gs f).symm, by decide, R0, B0⟩
  case round =>
    clear R0 B0
    obtain ⟨k, o, hfk, hkt, rfl, rfl, HO, ho, R, hb⟩ := hrel
    by_cases hlt : k < t
    · obtain ⟨x, hx⟩ : ∃ x, gs[k]? = some x := ⟨_, List.getElem?_eq_getElem (by rw [HL.out]; omega)⟩
      have HC := Lib.hid (HG.out k (by omega) x hx)
      have HH := Lib.hid (fun W => refHex_calls x.toNat x.toNat_lt W)
      unfold HexDrawn at HH
      have hl4 := (Adr.hexT_length x.toNat).2
      obtain ⟨X, hX⟩ : ∃ X : ByteArray, X = ⟨(Adr.hexT x.toNat).toArray⟩ := ⟨_, rfl⟩
      have hXs : X.size ≤ 4 := by rw [hX]; show (List.toArray _).size ≤ 4; rw [List.size_toArray]; exact hl4
      rw [← hX] at HH
      have HPL := Lib.hid (Adr.pt_length gs f (k + 1) (by omega))
      have cs : (⟨#[58]⟩ : ByteArray).size = 1 := rfl
      by_cases hkf : f < k
      · have HN := Lib.hid (show (o ++ ⟨#[58]⟩ ++ X).data.toList = Adr.pt gs f (k + 1) by rw [Adr.pt_next hkf hx, ← HO.out, hX]; simp [ByteArray.data_append])
        have q0 : ¬ 9223372036854775807 < o.size + 1 := by omega
        have q1 : ¬ 9223372036854775807 < o.size + 1 + X.size := by omega
        clear hx hX HO hl4
        go_wp2_with (first
          | (refine at_slot 21 rfl ?_; refine load_row rfl 23 _ rfl w.heap.size rfl R Tryz.underlying23 rfl (by rw [HZ.out]; exact infoAddr) ?_)
          | (go_at_call 51; refine (HC.out _).mono ?_; rintro e w1 ⟨rfl, b1⟩)
          | (go_at_call 65; refine (HH.out _).mono ?_; rintro e w2 ⟨rfl, d2⟩))
        have R2 := (R.stays b1).stays (d2.below _)
        have B2 := hb.trans ((b1.trans ((d2.below _).mono b1.size)).mono hb.size)
        clear R hb b1 d2
        go_roundw
        case rel => exact ⟨k + 1, _, by omega, by omega, by go_num, rfl, HN.out, by rw [← Oct.length_bytes, HN.out]; exact HPL.out, R2, B2⟩
        case measure => simp [intOf]; omega
      · have hk : k = f := by omega
        subst hk
        have HN := Lib.hid (show (o ++ X).data.toList = Adr.pt gs k (k + 1) by rw [Adr.pt_first hx, ByteArray.data_append, Array.toList_append, HO.out, Adr.pt_start, hX]; rfl)
        have q1 : ¬ 9223372036854775807 < o.size + X.size := by omega
        clear hx hX HO hl4
        go_wp2_with (first
          | (refine at_slot 21 rfl ?_; refine load_row rfl 23 _ rfl w.heap.size rfl R Tryz.underlying23 rfl (by rw [HZ.out]; exact infoAddr) ?_)
          | (go_at_call 51; refine (HC.out _).mono ?_; rintro e w1 ⟨rfl, b1⟩)
          | (go_at_call 65; refine (HH.out _).mono ?_; rintro e w2 ⟨rfl, d2⟩))
        have R2 := (R.stays b1).stays (d2.below _)
        have B2 := hb.trans ((b1.trans ((d2.below _).mono b1.size)).mono hb.size)
        clear R hb b1 d2
        go_roundw
        case rel => exact ⟨k + 1, _, by omega, by omega, by go_num, rfl, HN.out, by rw [← Oct.length_bytes, HN.out]; exact HPL.out, R2, B2⟩
        case measure => simp [intOf]; omega
    · have hk : k = t := by omega
      subst hk
      go_wp2
      go_ret
      exact ⟨ret_str (by rw [← HO.out]), hb⟩
end Go.Proofs.YtkajddopjflniaaGreatDoor
/- The walk of the reference's Text6. -/
namespace Go.Proofs.YtkajddopjflniaaGreatDoor
open Go.RowKit
namespace Adr
theorem tx6_yes {g : List UInt16} (hg : g.length = 8) (h : nf g ≠ nt g) : tx6 g = pt g 0 (nf g) ++ 58 :: 58 :: pt g (nt g) 8 := by
  unfold tx6 pt
  rw [if_neg h, List.drop_zero, Nat.sub_zero, List.take_of_length_le (l := g.drop (nt g)) (by rw [List.length_drop, hg]; exact Nat.le_refl _)]
theorem tx6_no {g : List UInt16} (hg : g.length = 8) (h : nf g = nt g) : tx6 g = pt g 0 8 := by
  unfold tx6 pt
  rw [if_pos h, List.drop_zero, List.take_of_length_le (by omega)]
end Adr
/-- An address lies in its block. -/
structure KeptP (n0 : Nat) (a : List UInt8) (w w' : World) : Prop where
  row : Row w' n0 23 (bytesA a)
  below : Below w.heap.size w w'
theorem KeptP.on {n0 : Nat} {a : List UInt8} {w w' w'' : World} (h : KeptP n0 a w w') (hb : Below w'.heap.size w' w'') : KeptP n0 a w w'' :=
  ⟨h.row.stays hb, h.below.trans (hb.mono h.below.size)⟩
set_option maxRecDepth 100000 in
set_option maxHeartbeats 4000000 in
theorem refText6_calls (a : List UInt8) (ha : a.length = 16) (w : World) :
    Calls Tryz.prog 38 #[.agg (bytesA a)] w fun e w' => e = .returned (.string ⟨(Adr.tx6 (Adr.groups a)).toArray⟩) ∧ Below w.heap.size w w' := by
  have HG := Lib.hid (fun k hk g hg W => refGroup_calls a ha k hk g hg W)
  have HP := Lib.hid (fun f t hft ht W => refPart_calls a ha f t hft ht W)
  unfold PartText at HP
  have HZ := Lib.hid (show (bytesA a).size = 16 by rw [bytesA_size, ha])
  have hl := Adr.groups_length 8 a ha
  generalize Adr.groups a = gs at *
  have HL := Lib.hid hl
  have HY := Lib.hid (Adr.tx6_yes hl)
  have HN := Lib.hid (Adr.tx6_no hl)
  obtain ⟨hr1, hr2⟩ := Adr.row_of hl
  obtain ⟨hf1, hf2, hf3, _⟩ := Adr.nought_facts hl
  obtain ⟨A, hA⟩ : ∃ A, A = Adr.nf gs := ⟨_, rfl⟩
  obtain ⟨T, hT⟩ : ∃ T, T = Adr.nt gs := ⟨_, rfl⟩
  simp only [← hA, ← hT] at HY HN hr1 hr2 hf1 hf2 hf3
  have HZZ := Lib.hid (fun k x (h : gs[k]? = some x) => Adr.zeros_at h)
  have H1 := Lib.hid hr1
  have H2 := Lib.hid hr2
  have HF := Lib.hid hf1
  have HF2 := Lib.hid hf2
  have HF3 := Lib.hid hf3
  generalize Adr.zeros gs = z at *
  clear hA hT hl hr1 hr2 hf1 hf2 hf3 ha
  have R0 := Row.new w 23 (bytesA a)
  have B0 := (Below.refl w.heap.size w).alloc (Nat.le_refl _) (.cells (bytesA a) 23)
  go_enter Tryz.func38, Tryz.ntmps38
  go_wp2_with fail
  generalize w.alloc (.cells (bytesA a) 23) = w0 at *
  go_loopw [3] (fun v wr => ∃ long : Nat, 1 ≤ long ∧ long ≤ 8 ∧ v = .int .i64 (long : Int) ∧ Hid (A ≠ T → T - A ≤ long) ∧ Row wr w.heap.size 23 (bytesA a) ∧ Below w.heap.size w wr) (fun v _ => (intOf v).toNat)
  case atStart => exact ⟨8, by omega, by omega, rfl, fun _ => by have := HF3.out; omega, R0, B0⟩
  case round =>
    clear R0 B0
    obtain ⟨long, hl1, hl8, rfl, HO, R, hb⟩ := hrel
    by_cases h2 : 2 ≤ long
    · have e2 : decide ((2 : Int) ≤ (long : Int)) = true := decide_eq_true (by omega)
      go_wp2_with fail
      go_loopw [4] (fun v wr => ∃ at_ : Nat, at_ + long ≤ 9 ∧ v = .int .i64 (at_ : Int) ∧ Hid (A ≠ T → T - A < long ∨ (T - A = long ∧ at_ ≤ A)) ∧ Row wr w.heap.size 23 (bytesA a) ∧ Below w.heap.size w wr) (fun v _ => 9 - (intOf v).toNat)
      case atStart => exact ⟨0, by omega, rfl, fun h => by have := HO.out h; omega, R, hb⟩
      case round =>
        clear R hb
        obtain ⟨at_, hat, rfl, HI, R, hb⟩ := hrel
        by_cases h8 : at_ + long ≤ 8
        · have e8 : decide ((at_ : Int) + (long : Int) ≤ 8) = true := decide_eq_true (by omega)
          go_wp2_with fail
          go_loopw [5, 6] (fun al i wr => ∃ n : Nat, n ≤ long ∧ i = .int .i64 ((at_ + n : Nat) : Int) ∧ al = .bool (Adr.allZ z at_ n) ∧ Row wr w.heap.size 23 (bytesA a) ∧ Below w.heap.size w wr) (fun _ i _ => at_ + long - (intOf i).toNat)
          case atStart => exact ⟨0, Nat.zero_le _, rfl, rfl, R, hb⟩
          case round =>
            clear R hb
            obtain ⟨n, hn, rfl, rfl, R, hb⟩ := hrel
            by_cases hlt : n < long
            · obtain ⟨x, hx⟩ : ∃ x, gs[at_ + n]? = some x := ⟨_, List.getElem?_eq_getElem (by rw [HL.out]; omega)⟩
              have HC := Lib.hid (HG.out (at_ + n) (by omega) x hx)
              have hz := HZZ.out _ x hx
              cases hall : Adr.allZ z at_ n with
              | true =>
                have HX := Lib.hid (show ((x.toNat : Int) == 0) = Adr.allZ z at_ (n + 1) by
                  show _ = (Adr.allZ z at_ n && z.getD (at_ + n) false)
                  rw [hall, hz, Bool.true_and, Bool.eq_iff_iff, beq_iff_eq, decide_eq_true_iff]
                  exact ⟨fun h => UInt16.toNat_inj.1 (by show x.toNat = 0; omega), fun h => by rw [h]; rfl⟩)
                clear hx hz hall
                go_wp2_with (first
                  | (refine at_slot 27 rfl ?_; refine load_row rfl 23 _ rfl w.heap.size rfl R Tryz.underlying23 rfl (by rw [HZ.out]; exact infoAddr) ?_)
                  | (go_at_call 51; refine (HC.out _).mono ?_; rintro e w1 ⟨rfl, b1⟩))
                have R1 := R.stays b1
                have B1 := hb.trans (b1.mono hb.size)
                clear R hb b1
                go_roundw
                case rel => exact ⟨n + 1, by omega, by go_num, val_bool HX.out, R1, B1⟩
                case measure => simp [intOf]; omega
              | false =>
                have HX := Lib.hid (show false = Adr.allZ z at_ (n + 1) by
                  show _ = (Adr.allZ z at_ n && z.getD (at_ + n) false)
                  rw [hall, Bool.false_and])
                clear hx hz hall
                go_wp2_with fail
                go_roundw
                case rel => exact ⟨n + 1, by omega, by go_num, val_bool HX.out, R, hb⟩
                case measure => simp [intOf]; omega
            · have hnl : n = long := by omega
              subst hnl
              cases hall : Adr.allZ z at_ n with
              | false =>
                have HK : Hid (A ≠ T → T - A < n ∨ (T - A = n ∧ at_ + 1 ≤ A)) := Lib.hid fun h => by
                  rcases HI.out h with k | ⟨k1, k2⟩
                  · exact .inl k
                  · by_cases e : at_ = A
                    · have h1 := H1.out h
                      rw [k1, ← e, hall] at h1
                      cases h1
                    · exact .inr ⟨k1, by omega⟩
                clear hall
                go_wp2_with fail
                go_roundw
                case rel => exact ⟨at_ + 1, by omega, by go_num, HK.out, R, hb⟩
                case measure => simp [intOf]; omega
              | true =>
                have hk := H2.out n at_ h2 h8 hall
                have hne : A ≠ T := by omega
                have hin := HI.out hne
                have hAa : A = at_ := by omega
                have hTn : T = at_ + n := by have := HF2.out; omega
                subst hAa
                subst hTn
                have hy := HY.out hne
                obtain ⟨X, hX⟩ : ∃ X : ByteArray, X = ⟨(Adr.pt gs 0 A).toArray⟩ := ⟨_, rfl⟩
                obtain ⟨Y, hYY⟩ : ∃ Y : ByteArray, Y = ⟨(Adr.pt gs (A + n) 8).toArray⟩ := ⟨_, rfl⟩
                have HXY := Lib.hid (show X ++ ⟨#[58, 58]⟩ ++ Y = ⟨(Adr.tx6 gs).toArray⟩ by rw [hX, hYY, hy]; apply ByteArray.ext; simp [ByteArray.data_append])
                have x1 : X.size ≤ 40 := by rw [hX]; show (List.toArray _).size ≤ 40; rw [List.size_toArray]; exact Adr.pt_length gs 0 A (by omega)
                have y1 : Y.size ≤ 40 := by rw [hYY]; show (List.toArray _).size ≤ 40; rw [List.size_toArray]; exact Adr.pt_length gs (A + n) 8 (by omega)
                have cs : (⟨#[58, 58]⟩ : ByteArray).size = 2 := rfl
                have p1 : ¬ 9223372036854775807 < X.size + 2 := by omega
                have p2 : ¬ 9223372036854775807 < X.size + 2 + Y.size := by omega
                have hc1 := HP.out 0 A (by omega) (by omega)
                have hc2 := HP.out (A + n) 8 (by omega) (by omega)
                rw [← hX] at hc1
                rw [← hYY] at hc2
                have HC1 : Hid (∀ W, Calls Tryz.prog 52 #[.agg (bytesA a), .int .i64 0, .int .i64 (A : Int)] W fun e w' => e = .returned (.string X) ∧ Below W.heap.size W w') := Lib.hid hc1
                have HC2 : Hid (∀ W, Calls Tryz.prog 52 #[.agg (bytesA a), .int .i64 ((A : Int) + (n : Int)), .int .i64 8] W fun e w' => e = .returned (.string Y) ∧ Below W.heap.size W w') := Lib.hid hc2
                have qs : IntKind.i64.wrap ((A : Int) + (n : Int)) = (A : Int) + (n : Int) := by rw [IntKind.wrap_i64]; omega
                have K1 : KeptP w.heap.size a w wr.drew := KeptP.on ⟨R, hb⟩ (Below.refl _ _).drew
                have HI16 := Lib.hid (show (Tryz.prog.info? 23).map (·.size) = some (bytesA a).size by rw [HZ.out]; exact infoAddr)
                clear hk hin hall hy hX hYY hc1 hc2 R hb
                go_wp2_with fail
                refine wp_region_held_drew (S := KeptP w.heap.size a w) (by kernel_rfl) K1 (fun _ => ?_)
                clear K1
                refine wpAnyH_take (i := 0) rfl (by kernel_rfl) (by kernel_rfl) (by kernel_rfl) (fun _ _ _ h => h) (yields_row (by rfl) _ _ rfl _ rfl (fun _ h => h.row) Tryz.underlying23 rfl HI16.out) (by assumption) ?_
                simp only [Act.put, List.setIfInBounds_toArray, List.set_cons_zero, List.set_cons_succ, List.getElem_toArray, List.getElem_cons_zero]
                refine wpAnyH_take (i := 1) (v := ?_) rfl (by kernel_rfl) (by kernel_rfl) (by kernel_rfl) (fun _ _ _ h => h) (Or.inl ⟨by rfl, ?_⟩) (by assumption) ?_
                rotate_left
                · intro _ _; go_simp; with_reducible rfl
                simp only [Act.put, List.setIfInBounds_toArray, List.set_cons_zero, List.set_cons_succ, List.getElem_toArray, List.getElem_cons_zero, List.getElem_cons_succ]
                refine wpAnyH_take (i := 4) rfl (by kernel_rfl) (by kernel_rfl) (by kernel_rfl) (fun _ _ _ h => h) (yields_row (by rfl) _ _ rfl _ rfl (fun _ h => h.row) Tryz.underlying23 rfl HI16.out) (by assumption) ?_
                simp only [Act.put, List.setIfInBounds_toArray, List.set_cons_zero, List.set_cons_succ, List.getElem_toArray, List.getElem_cons_zero, List.getElem_cons_succ]
                refine wpAnyH_take (i := 5) (v := ?_) rfl (by kernel_rfl) (by kernel_rfl) (by kernel_rfl) (fun _ _ _ h => h) (Or.inl ⟨by rfl, ?_⟩) (by assumption) ?_
                rotate_left
                · intro _ _; go_simp; with_reducible rfl
                simp only [Act.put, List.setIfInBounds_toArray, List.set_cons_zero, List.set_cons_succ, List.getElem_toArray, List.getElem_cons_zero, List.getElem_cons_succ]
                refine wpAnyH_take (i := 6) (v := ?_) rfl (by kernel_rfl) (by kernel_rfl) (by kernel_rfl) (fun _ _ _ h => h) (Or.inl ⟨by rfl, ?_⟩) (by assumption) ?_
                rotate_left
                · intro _ _; go_simp; with_reducible rfl
                simp only [Act.put, List.setIfInBounds_toArray, List.set_cons_zero, List.set_cons_succ, List.getElem_toArray, List.getElem_cons_zero, List.getElem_cons_succ]
                refine wpAnyH_take (i := 7) (v := ?_) rfl (by kernel_rfl) (by kernel_rfl) (by kernel_rfl) (fun _ _ _ h => h) (Or.inl ⟨by rfl, ?_⟩) (by assumption) ?_
                rotate_left
                · intro _ _; go_simp; with_reducible rfl
                simp only [Act.put, List.setIfInBounds_toArray, List.set_cons_zero, List.set_cons_succ, List.getElem_toArray, List.getElem_cons_zero, List.getElem_cons_succ]
                refine wpAnyH_ready (rs := [2]) (by kernel_rfl) (by simp) (AllReadyH.cons rfl (fun K hK => ?_) AllReadyH.nil)
                rw [if_pos (by rfl)]
                go_simp
                refine (HC1.out _).mono ?_
                rintro e w4 ⟨rfl, b4⟩
                have S4 : KeptP w.heap.size a w w4 := KeptP.on (by assumption) b4
                clear b4
                go_wp2_with fail
                refine hK.out _ _ S4 (fun _ => ?_)
                clear hK K
                refine wpAnyH_take (i := 3) (v := ?_) rfl (by kernel_rfl) (by kernel_rfl) (by kernel_rfl) (fun _ _ _ h => h) (Or.inl ⟨by rfl, ?_⟩) (by assumption) ?_
                rotate_left
                · intro _ _; go_simp; with_reducible rfl
                simp only [Act.put, List.setIfInBounds_toArray, List.set_cons_zero, List.set_cons_succ, List.getElem_toArray, List.getElem_cons_zero, List.getElem_cons_succ]
                refine wpAnyH_ready (rs := [8]) (by kernel_rfl) (by simp) (AllReadyH.cons rfl (fun K hK => ?_) AllReadyH.nil)
                rw [if_pos (by rfl)]
                go_simp
                refine (HC2.out _).mono ?_
                rintro e w4 ⟨rfl, b4⟩
                have S4 : KeptP w.heap.size a w w4 := KeptP.on (by assumption) b4
                clear b4
                go_wp2_with fail
                refine hK.out _ _ S4 (fun _ => ?_)
                clear hK K
                refine wpAnyH_take (i := 9) (v := ?_) rfl (by kernel_rfl) (by kernel_rfl) (by kernel_rfl) (fun _ _ _ h => h) (Or.inl ⟨by rfl, ?_⟩) (by assumption) ?_
                rotate_left
                · intro _ _; go_simp; with_reducible rfl
                simp only [Act.put, List.setIfInBounds_toArray, List.set_cons_zero, List.set_cons_succ, List.getElem_toArray, List.getElem_cons_zero, List.getElem_cons_succ]
                refine wpAnyH_take (i := 10) (v := ?_) rfl (by kernel_rfl) (by kernel_rfl) (by kernel_rfl) (fun _ _ _ h => h) (Or.inl ⟨by rfl, ?_⟩) (by assumption) ?_
                rotate_left
                · intro _ _; go_simp; with_reducible rfl
                simp only [Act.put, List.setIfInBounds_toArray, List.set_cons_zero, List.set_cons_succ, List.getElem_toArray, List.getElem_cons_zero, List.getElem_cons_succ]
                refine wpAnyH_done (by kernel_rfl) ?_ _
                go_wp2
                go_ret
                exact ⟨ret_str HXY.out, KeptP.below (n0 := w.heap.size) (a := a) (by assumption)⟩
        · have HK : Hid (A ≠ T → T - A ≤ long - 1) := Lib.hid fun h => by
            have := HI.out h; have := HF3.out; have := HF2.out; omega
          go_wp2_with fail
          go_roundw
          case rel => exact ⟨long - 1, by omega, by omega, by go_num, HK.out, R, hb⟩
          case measure => simp [intOf]; omega
    · have hAT : A = T := by
        have h1 := HF.out
        have h3 := HO.out
        by_cases e : A = T
        · exact e
        · have := h3 e; omega
      have hc := HP.out 0 8 (by omega) (by omega)
      rw [← HN.out hAT] at hc
      have HC : Hid (∀ W, Calls Tryz.prog 52 #[.agg (bytesA a), .int .i64 0, .int .i64 8] W fun e w' => e = .returned (.string ⟨(Adr.tx6 gs).toArray⟩) ∧ Below W.heap.size W w') := Lib.hid hc
      clear hAT hc
      go_wp2_with (first
        | (refine at_slot 43 rfl ?_; refine load_row rfl 23 _ rfl w.heap.size rfl R Tryz.underlying23 rfl (by rw [HZ.out]; exact infoAddr) ?_)
        | (go_at_call 52; refine (HC.out _).mono ?_; rintro e w1 ⟨rfl, b1⟩))
      go_ret
      exact ⟨rfl, hb.trans (b1.mono hb.size)⟩
end Go.Proofs.YtkajddopjflniaaGreatDoor
/- The walks of the reference's Text and Right, of hosts of whatever kind. -/
namespace Go.Proofs.YtkajddopjflniaaGreatDoor
open Go.RowKit
set_option maxRecDepth 100000 in
set_option maxHeartbeats 2000000 in
theorem refText_calls (h : Hst.Host) (ha : h.addr.length = 16) (t : ByteArray) (ht : t = ⟨(Hst.text h).toArray⟩) (w : World) :
    Calls Tryz.prog 22 #[.agg (hostA h)] w fun e w' => e = .returned (.string t) ∧ Below w.heap.size w w' := by
  by_cases k1 : h.kind = 1
  · exact refText1_calls h k1 t (by rw [ht]; unfold Hst.text; rw [if_pos k1]) w
  have R := Row.new w 25 (hostA h)
  have B := (Below.refl w.heap.size w).alloc (Nat.le_refl _) (.cells (hostA h) 25)
  have c0 : (w.alloc (.cells (hostA h) 25)).cell? ⟨w.heap.size, 0, none⟩ = some (.int .i64 h.kind) := by rw [R.cell, hostA_kind]
  have HA := Lib.hid (hostA_addr h ha)
  have HS := Lib.hid (hostA_size h ha)
  have H4 := Lib.hid (fun W => refText4_calls h.addr ha W)
  have H6 := Lib.hid (fun W => refText6_calls h.addr ha W)
  by_cases k2 : h.kind = 2
  · have e : t = ⟨(Adr.tx4 (h.addr.drop 12)).toArray⟩ := by rw [ht]; unfold Hst.text; rw [if_neg k1, if_pos k2]
    rw [← e] at H4
    rw [k2] at c0
    generalize bytesA h.addr = X at *
    generalize hostA h = H at *
    clear ht e k1 k2 ha H6
    go_enter Tryz.func22, Tryz.ntmps22
    go_wp2_with (refine at_slot 12 rfl ?_; refine load_part rfl 23 _ rfl w.heap.size 2 16 rfl R Tryz.underlying23 rfl infoAddr (by rw [HS.out]; exact Nat.le_refl _) X HA.out ?_)
    refine (H4.out _).mono ?_
    rintro e w' ⟨rfl, d⟩
    go_wp2
    go_ret
    exact ⟨rfl, B.trans (d.mono B.size)⟩
  by_cases k3 : h.kind = 3
  · have hlen := Hst.tx6_short (Adr.groups_length 8 h.addr ha)
    obtain ⟨u, hu⟩ : ∃ u : ByteArray, u = ⟨(Adr.tx6 (Adr.groups h.addr)).toArray⟩ := ⟨_, rfl⟩
    have hul : u.data.toList = Adr.tx6 (Adr.groups h.addr) := by rw [hu]
    have hus : u.size = (Adr.tx6 (Adr.groups h.addr)).length := by rw [← Oct.length_bytes, hul]
    obtain ⟨E, hE⟩ : ∃ E : ByteArray, (⟨#[91]⟩ : ByteArray) ++ u = E := ⟨_, rfl⟩
    have hEs : E.size = 1 + u.size := by rw [← hE, ByteArray.size_append]; rfl
    have hE2 : E ++ (⟨#[93]⟩ : ByteArray) = t := by
      rw [ht]
      unfold Hst.text
      rw [if_neg k1, if_neg k2, if_pos k3, ← hul, ← hE]
      apply ByteArray.ext
      rw [ByteArray.data_append, ByteArray.data_append]
      apply Array.ext'
      rw [Array.toList_append, Array.toList_append]
      rfl
    have hcat1 : ¬ 9223372036854775807 < (⟨#[91]⟩ : ByteArray).size + u.size := by
      show ¬ 9223372036854775807 < 1 + u.size
      omega
    have hcat2 : ¬ 9223372036854775807 < E.size + (⟨#[93]⟩ : ByteArray).size := by
      show ¬ 9223372036854775807 < E.size + 1
      omega
    have h91 : (⟨#[91]⟩ : ByteArray).size = 1 := rfl
    have h93 : (⟨#[93]⟩ : ByteArray).size = 1 := rfl
    rw [← hu] at H6
    rw [k3] at c0
    generalize bytesA h.addr = X at *
    generalize hostA h = H at *
    clear ht hul k1 k2 k3 ha H4 hu
    go_enter Tryz.func22, Tryz.ntmps22
    go_wp2_with (refine at_slot 18 rfl ?_; refine load_part rfl 23 _ rfl w.heap.size 2 16 rfl R Tryz.underlying23 rfl infoAddr (by rw [HS.out]; exact Nat.le_refl _) X HA.out ?_)
    refine (H6.out _).mono ?_
    rintro e w' ⟨rfl, d⟩
    go_wp2
    go_ret
    exact ⟨rfl, B.trans (d.mono B.size)⟩
  · have e : t = ⟨#[]⟩ := by rw [ht]; unfold Hst.text; rw [if_neg k1, if_neg k2, if_neg k3]
    subst e
    generalize hostA h = H at *
    generalize h.kind = k at *
    clear ht ha H4 H6 HA
    go_enter Tryz.func22, Tryz.ntmps22
    go_wp2
    go_ret
    exact ⟨rfl, B⟩
set_option maxRecDepth 100000 in
set_option maxHeartbeats 4000000 in
theorem refRight_calls (h : Hst.Host) (ha : h.addr.length = 16) (hs : h.name.length ≤ 2900) (w : World) :
    Calls Tryz.prog 12 #[.agg (hostA h)] w fun e w' => e = .returned (.bool (Hst.can h)) ∧ Below w.heap.size w w' := by
  have z0 := zeroHost
  obtain ⟨t, ht⟩ : ∃ t : ByteArray, t = ⟨(Hst.text h).toArray⟩ := ⟨_, rfl⟩
  have htx := Hst.text_length h ha
  have H1 := Lib.hid (fun W => refText_calls h ha t ht W)
  have htl : t.data.toList = Hst.text h := by rw [ht]
  have hts : t.size = (Hst.text h).length := by rw [← htl, Oct.length_bytes]
  have H2 := Lib.hid (fun W => (refParse_calls t W (by omega)).mono fun e w' h => newHost_is h)
  rw [htl] at H2
  have hx := Hst.parse_length (Hst.text h)
  have HR : Hid (Hst.can h = decide (Hst.parse (Hst.text h) = some h)) := Lib.hid rfl
  have HZ0 := Lib.hid (show (hostA Hst.zero).size = 18 from rfl)
  have HH := Lib.hid (hostA_size h ha)
  cases ho : Hst.parse (Hst.text h) with
  | none =>
    rw [ho] at H2 HR
    have HR2 : Hid (Hst.can h = false) := Lib.hid (by rw [HR.out]; rfl)
    have e1 : Hst.host none = Hst.zero := rfl
    have e2 : Hst.code none = 31 := rfl
    rw [e1, e2] at H2
    clear ho hx hts htl ht HR e1 e2 htx
    rw [HR2.out]
    generalize hostA h = H at *
    have R0 := Row.new w 25 H
    have B0 := (Below.refl w.heap.size w).alloc (Nat.le_refl _) (.cells H 25)
    go_enter Tryz.func12, Tryz.ntmps12
    go_wp2_with (refine at_slot 6 rfl ?_; refine load_row rfl 25 _ rfl w.heap.size rfl R0 Tryz.underlying25 rfl (by rw [HH.out]; exact infoHost) ?_)
    generalize w.alloc (.cells H 25) = w0 at *
    refine (H1.out _).mono ?_
    rintro e v1 ⟨rfl, d1⟩
    have B1 := B0.trans (d1.mono B0.size)
    go_wp2_with fail
    refine (H2.out _).mono ?_
    rintro e v2 ⟨rfl, d2⟩
    have B2 := B1.trans (d2.mono B1.size)
    obtain ⟨T, U, C, L⟩ := lay_row 25 (hostA Hst.zero) (hostA Hst.zero) B2 B2.size
    clear B0 B1 B2 d1 d2 R0 L
    go_wp2_with (first
      | (refine wpList_store_row rfl 25 _ _ rfl v2.heap.size (hostA Hst.zero) rfl rfl 25 _ T (by rw [HZ0.out]; exact infoHost) rfl (hostA_one _) ?_))
    go_ret
    exact ⟨rfl, C⟩
  | some g =>
    rw [ho] at H2 HR hx
    have hx : g.addr.length = 16 := hx
    have HR2 : Hid (Hst.can h = decide (g = h)) := Lib.hid (by rw [HR.out, decide_eq_decide]; exact ⟨fun e => Option.some.inj e, fun e => by rw [e]⟩)
    have e1 : Hst.host (some g) = g := rfl
    have e2 : Hst.code (some g) = 0 := rfl
    rw [e1, e2] at H2
    have q := eql_host g h hx ha
    have HG := Lib.hid (hostA_size g hx)
    have HG1 := Lib.hid (hostA_one g)
    clear ho hx hts htl ht HR e1 e2 htx
    rw [HR2.out]
    generalize hostA h = H at *
    generalize hostA g = G at *
    generalize decide (g = h) = b at *
    have R0 := Row.new w 25 H
    have B0 := (Below.refl w.heap.size w).alloc (Nat.le_refl _) (.cells H 25)
    go_enter Tryz.func12, Tryz.ntmps12
    go_wp2_with (refine at_slot 6 rfl ?_; refine load_row rfl 25 _ rfl w.heap.size rfl R0 Tryz.underlying25 rfl (by rw [HH.out]; exact infoHost) ?_)
    generalize w.alloc (.cells H 25) = w0 at *
    refine (H1.out _).mono ?_
    rintro e v1 ⟨rfl, d1⟩
    have B1 := B0.trans (d1.mono B0.size)
    have R1 := R0.stays d1
    go_wp2_with fail
    refine (H2.out _).mono ?_
    rintro e v2 ⟨rfl, d2⟩
    have R2 := R1.stays d2
    have B2 := B1.trans (d2.mono B1.size)
    obtain ⟨T, U, C, L⟩ := lay_row 25 (hostA Hst.zero) G B2 B2.size
    have R3 := L _ _ _ R2
    clear B0 B1 B2 d1 d2 R0 R1 R2 L
    go_wp2_with (first
      | (refine wpList_store_row rfl 25 _ _ rfl v2.heap.size G rfl rfl 25 _ T (by rw [HG.out]; exact infoHost) (by rw [HG.out]; rfl) HG1.out ?_)
      | (refine at_slot 14 rfl ?_; refine load_row rfl 25 _ rfl v2.heap.size rfl U Tryz.underlying25 rfl (by rw [HG.out]; exact infoHost) ?_)
      | (refine at_slot 15 rfl ?_; refine load_row rfl 25 _ rfl w.heap.size rfl R3 Tryz.underlying25 rfl (by rw [HH.out]; exact infoHost) ?_))
    go_ret
    exact ⟨rfl, C⟩
end Go.Proofs.YtkajddopjflniaaGreatDoor
