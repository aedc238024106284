/- The walks of the reference's Group, hex and decimal. -/
import Derived.Test.YtcookddgaomkiaaGreatDoorCells
import Derived.Test.YtcookddgaomkiaaGreatDoorOctets
import Derived.Test.YtcookddgaomkiaaGreatDoorPlains
import Derived.Deep.RegionHeld3
import Derived.Deep.RegionHeld
namespace Go.Proofs.YtcookddgaomkiaaGreatDoor
open Go.RowKit
namespace Adr
theorem hexT_step {n : Nat} (h : 16 ≤ n) (hn : n < 65536) : hexT n = hexT (n / 16) ++ [dig (n % 16)] := by
  have h0 : ¬ n < 16 := by omega
  have hor : (n < 256 ∧ n / 16 < 16) ∨ (¬ n < 256 ∧ n < 4096 ∧ ¬ n / 16 < 16 ∧ n / 16 < 256) ∨ (¬ n < 256 ∧ ¬ n < 4096 ∧ ¬ n / 16 < 16 ∧ ¬ n / 16 < 256 ∧ n / 16 < 4096) := by omega
  unfold hexT
  rcases hor with ⟨h1, h2⟩ | ⟨h1, h2, h3, h4⟩ | ⟨h1, h2, h3, h4, h5⟩
  · simp only [h0, h1, h2, if_true, if_false]; rfl
  · simp only [h0, h1, h2, h3, h4, if_true, if_false, Nat.div_div_eq_div_mul]; rfl
  · simp only [h0, h1, h2, h3, h4, h5, if_true, if_false, Nat.div_div_eq_div_mul]; rfl
theorem dig16 : ∀ (n : Nat), n < 16 → (⟨#[48, 49, 50, 51, 52, 53, 54, 55, 56, 57, 97, 98, 99, 100, 101, 102]⟩ : ByteArray).extract n (n + 1) = ⟨#[dig n]⟩ := by decide
end Adr
set_option maxHeartbeats 1000000 in
theorem refGroup_calls (a : List UInt8) (ha : a.length = 16) (k : Nat) (hk : k < 8) (g : UInt16) (hg : (Adr.groups a)[k]? = some g) (w : World) :
    Calls Tryz.prog 57 #[.agg (bytesA a), .int .i64 (k : Int)] w fun e w' => e = .returned (.int .i64 (g.toNat : Int)) ∧ Below w.heap.size w w' := by
  obtain ⟨x, hx⟩ : ∃ x, a[2 * k]? = some x := ⟨_, List.getElem?_eq_getElem (by omega)⟩
  obtain ⟨y, hy⟩ : ∃ y, a[2 * k + 1]? = some y := ⟨_, List.getElem?_eq_getElem (by omega)⟩
  have e := Adr.groups_at a k x y hx hy
  rw [hg] at e
  have HG := Lib.hid (show g.toNat = x.toNat * 256 + y.toNat by rw [Option.some.inj e, Adr.mk_toNat])
  have R0 := Row.new w 23 (bytesA a)
  have c0 : (w.alloc (.cells (bytesA a) 23)).cell? ⟨w.heap.size, 2 * k, none⟩ = some (.int .u8 (x.toNat : Int)) := by rw [R0.cell, bytesA_at, hx]; rfl
  have c1 : (w.alloc (.cells (bytesA a) 23)).cell? ⟨w.heap.size, 2 * k + 1, none⟩ = some (.int .u8 (y.toNat : Int)) := by rw [R0.cell, bytesA_at, hy]; rfl
  have B := ((Below.refl w.heap.size w).alloc (Nat.le_refl _) (.cells (bytesA a) 23))
  have e1 : ((2 : Int) * (k : Int)).toNat = 2 * k := by omega
  have e2 : ((2 : Int) * (k : Int) + 1).toNat = 2 * k + 1 := by omega
  have w1 : IntKind.i64.wrap ((2 : Int) * (k : Int)) = (2 : Int) * (k : Int) := by rw [IntKind.wrap_i64]; omega
  have w2 : IntKind.i64.wrap ((2 : Int) * (k : Int) + 1) = (2 : Int) * (k : Int) + 1 := by rw [IntKind.wrap_i64]; omega
  have hx1 := x.toNat_lt
  have hy1 := y.toNat_lt
  have w3 : IntKind.i64.wrap ((x.toNat : Int) * 256) = (x.toNat : Int) * 256 := by rw [IntKind.wrap_i64]; omega
  have w4 : IntKind.i64.wrap ((x.toNat : Int) * 256 + (y.toNat : Int)) = (x.toNat : Int) * 256 + (y.toNat : Int) := by rw [IntKind.wrap_i64]; omega
  clear e hx hy hg R0 ha
  go_enter Tryz.func57, Tryz.ntmps57
  go_wp2_with fail
  generalize w.alloc (.cells (bytesA a) 23) = w0 at *
  go_quiet (fail)
  go_wp2
  go_ret
  exact ⟨ret_int (by rw [HG.out]; omega), B.trans ((Drawn.more (Drawn.refl w0) _).below _)⟩

theorem Drawn.trans {w w1 w2 : World} (h : Drawn w w1) (k : Drawn w1 w2) : Drawn w w2 := by
  obtain ⟨m, rfl⟩ := k
  exact h.more m
def HexDrawn (n : Nat) (w : World) (e : Ending) (w' : World) : Prop := e = .returned (.string ⟨(Adr.hexT n).toArray⟩) ∧ Drawn w w'
set_option maxHeartbeats 1000000 in
theorem refHex_calls (n : Nat) (hn : n < 65536) : ∀ w : World, Calls Tryz.prog 85 #[.int .i64 (n : Int)] w (HexDrawn n w) := by
  induction n using Nat.strongRecOn with
  | _ n ih =>
    intro w
    by_cases h : n < 16
    · have HD := Lib.hid (Adr.dig16 n h)
      have HT := Lib.hid (show Adr.hexT n = [Adr.dig n] by unfold Adr.hexT; rw [if_pos h])
      have e1 : ((n : Int) + 1).toNat = n + 1 := by omega
      clear ih
      go_enter Tryz.func85, Tryz.ntmps85
      go_wp2
      go_ret
      exact ⟨ret_str (by rw [HT.out]; exact HD.out), Drawn.refl _⟩
    · have HI := Lib.hid (ih (n / 16) (by omega) (by omega))
      have hy : n % 16 < 16 := by omega
      have HD := Lib.hid (Adr.dig16 (n % 16) hy)
      have HT := Lib.hid (Adr.hexT_step (by omega : 16 ≤ n) hn)
      have hl := (Adr.hexT_length (n / 16)).2
      obtain ⟨X, hX⟩ : ∃ X : ByteArray, X = ⟨(Adr.hexT (n / 16)).toArray⟩ := ⟨_, rfl⟩
      have hXs : X.size ≤ 4 := by rw [hX]; show (List.toArray _).size ≤ 4; rw [List.size_toArray]; exact hl
      have q1 : IntKind.i64.wrap ((n : Int).tdiv 16) = ((n / 16 : Nat) : Int) := by rw [Int.tdiv_eq_ediv_of_nonneg (by omega), IntKind.wrap_i64]; omega
      have q2 : (n : Int).tmod 16 = (n : Int) % 16 := Int.tmod_eq_emod_of_nonneg (by omega)
      have m0 : 0 ≤ (n : Int) % 16 := by omega
      have m1 : (n : Int) % 16 < 16 := by omega
      have q3 : IntKind.i64.wrap ((n : Int) % 16 + 1) = (n : Int) % 16 + 1 := by rw [IntKind.wrap_i64]; omega
      have m2 : 0 ≤ (n : Int) % 16 + 1 := by omega
      have m3 : (n : Int) % 16 + 1 ≤ 16 := by omega
      have m4 : (n : Int) % 16 ≤ (n : Int) % 16 + 1 := by omega
      have q4 : ((n : Int) % 16).toNat = n % 16 := by omega
      have q5 : ((n : Int) % 16 + 1).toNat = n % 16 + 1 := by omega
      have q6 := HD.out
      have q7 : (⟨#[Adr.dig (n % 16)]⟩ : ByteArray).size = 1 := rfl
      have q8 : ¬ 9223372036854775807 < X.size + 1 := by omega
      have HC : Hid (∀ W, Calls Tryz.prog 85 #[.int .i64 (IntKind.i64.wrap ((n : Int).tdiv 16))] W fun e w' => e = .returned (.string X) ∧ Drawn W w') := Lib.hid fun W => by rw [q1, hX]; exact HI.out W
      have HR := Lib.hid (show X ++ ⟨#[Adr.dig (n % 16)]⟩ = ⟨(Adr.hexT n).toArray⟩ by rw [hX, HT.out]; apply ByteArray.ext; simp [ByteArray.data_append])
      clear ih hX HI HT
      go_enter Tryz.func85, Tryz.ntmps85
      go_wp2_with fail
      refine wp_region_held_drew (S := Drawn w) (by kernel_rfl) ((Drawn.refl w).more 1) (fun _ => ?_)
      refine wpAnyH_take (i := 0) (v := ?_) rfl (by kernel_rfl) (by kernel_rfl) (by kernel_rfl) (fun _ _ _ h => h) (Or.inl ⟨by rfl, ?_⟩) (by assumption) ?_
      rotate_left
      · intro _ _; go_simp; with_reducible rfl
      simp only [Act.put, List.setIfInBounds_toArray, List.set_cons_zero, List.set_cons_succ, List.getElem_toArray, List.getElem_cons_zero]
      refine wpAnyH_take (i := 1) (v := ?_) rfl (by kernel_rfl) (by kernel_rfl) (by kernel_rfl) (fun _ _ _ h => h) (Or.inl ⟨by rfl, ?_⟩) (by assumption) ?_
      rotate_left
      · intro _ _; go_simp; with_reducible rfl
      simp only [Act.put, List.setIfInBounds_toArray, List.set_cons_zero, List.set_cons_succ, List.getElem_toArray, List.getElem_cons_zero, List.getElem_cons_succ]
      refine wpAnyH_take (i := 3) (v := ?_) rfl (by kernel_rfl) (by kernel_rfl) (by kernel_rfl) (fun _ _ _ h => h) (Or.inl ⟨by rfl, ?_⟩) (by assumption) ?_
      rotate_left
      · intro _ _; go_simp; with_reducible rfl
      simp only [Act.put, List.setIfInBounds_toArray, List.set_cons_zero, List.set_cons_succ, List.getElem_toArray, List.getElem_cons_zero, List.getElem_cons_succ]
      refine wpAnyH_take (i := 4) (v := ?_) rfl (by kernel_rfl) (by kernel_rfl) (by kernel_rfl) (fun _ _ _ h => h) (Or.inl ⟨by rfl, ?_⟩) (by assumption) ?_
      rotate_left
      · intro _ _; go_simp; with_reducible rfl
      simp only [Act.put, List.setIfInBounds_toArray, List.set_cons_zero, List.set_cons_succ, List.getElem_toArray, List.getElem_cons_zero, List.getElem_cons_succ]
      refine wpAnyH_take (i := 5) (v := ?_) rfl (by kernel_rfl) (by kernel_rfl) (by kernel_rfl) (fun _ _ _ h => h) (Or.inl ⟨by rfl, ?_⟩) (by assumption) ?_
      rotate_left
      · intro _ _; go_simp; with_reducible rfl
      simp only [Act.put, List.setIfInBounds_toArray, List.set_cons_zero, List.set_cons_succ, List.getElem_toArray, List.getElem_cons_zero, List.getElem_cons_succ]
      refine wpAnyH_take (i := 6) (v := ?_) rfl (by kernel_rfl) (by kernel_rfl) (by kernel_rfl) (fun _ _ _ h => h) (Or.inl ⟨by rfl, ?_⟩) (by assumption) ?_
      rotate_left
      · intro _ _; go_simp; with_reducible rfl
      simp only [Act.put, List.setIfInBounds_toArray, List.set_cons_zero, List.set_cons_succ, List.getElem_toArray, List.getElem_cons_zero, List.getElem_cons_succ]
      refine wpAnyH_take (i := 7) (v := ?_) rfl (by kernel_rfl) (by kernel_rfl) (by kernel_rfl) (fun _ _ _ h => h) (Or.inl ⟨by rfl, ?_⟩) (by assumption) ?_
      rotate_left
      · intro _ _; go_simp; with_reducible rfl
      simp only [Act.put, List.setIfInBounds_toArray, List.set_cons_zero, List.set_cons_succ, List.getElem_toArray, List.getElem_cons_zero, List.getElem_cons_succ]
      refine wpAnyH_take (i := 8) (v := ?_) rfl (by kernel_rfl) (by kernel_rfl) (by kernel_rfl) (fun _ _ _ h => h) (Or.inl ⟨by rfl, ?_⟩) (by assumption) ?_
      rotate_left
      · intro _ _; go_simp; with_reducible rfl
      simp only [Act.put, List.setIfInBounds_toArray, List.set_cons_zero, List.set_cons_succ, List.getElem_toArray, List.getElem_cons_zero, List.getElem_cons_succ]
      refine wpAnyH_ready (rs := [2]) (by kernel_rfl) (by simp) (AllReadyH.cons rfl (fun K hK => ?_) AllReadyH.nil)
      rw [if_pos (by rfl)]
      go_simp
      refine (HC.out _).mono ?_
      rintro e w4 ⟨rfl, d4⟩
      have S4 : Drawn w w4 := Drawn.trans (by assumption) d4
      go_wp2_with fail
      refine hK.out _ _ S4 (fun _ => ?_)
      clear hK K
      refine wpAnyH_take (i := 9) (v := ?_) rfl (by kernel_rfl) (by kernel_rfl) (by kernel_rfl) (fun _ _ _ h => h) (Or.inl ⟨by rfl, ?_⟩) (by assumption) ?_
      rotate_left
      · intro _ _; go_simp; with_reducible rfl
      simp only [Act.put, List.setIfInBounds_toArray, List.set_cons_zero, List.set_cons_succ, List.getElem_toArray, List.getElem_cons_zero, List.getElem_cons_succ]
      refine wpAnyH_take (i := 10) (v := ?_) rfl (by kernel_rfl) (by kernel_rfl) (by kernel_rfl) (fun _ _ _ h => h) (Or.inl ⟨by rfl, ?_⟩) (by assumption) ?_
      rotate_left
      · intro _ _; go_simp; with_reducible rfl
      simp only [Act.put, List.setIfInBounds_toArray, List.set_cons_zero, List.set_cons_succ, List.getElem_toArray, List.getElem_cons_zero, List.getElem_cons_succ]
      refine wpAnyH_done (by kernel_rfl) ?_ _
      go_wp2
      go_ret
      exact ⟨ret_str HR.out, S4⟩
end Go.Proofs.YtcookddgaomkiaaGreatDoor
