/- The walk of the reference's Text6. -/
import Derived.Test.YtcookddgaomkiaaGreatDoorRefPart
import Derived.Test.YtcookddgaomkiaaGreatDoorText6
import Derived.Deep.RegionHeld
namespace Go.Proofs.YtcookddgaomkiaaGreatDoor
open Go.RowKit
namespace Adr
theorem tx6_yes {g : List UInt16} (hg : g.length = 8) (h : nf g ≠ nt g) : tx6 g = pt g 0 (nf g) ++ 58 :: 58 :: pt g (nt g) 8 := by
  unfold tx6 pt
  rw [if_neg h, List.drop_zero, Nat.sub_zero, List.take_of_length_le (l := g.drop (nt g)) (by rw [List.length_drop, hg]; exact Nat.le_refl _)]
theorem tx6_no {g : List UInt16} (hg : g.length = 8) (h : nf g = nt g) : tx6 g = pt g 0 8 := by
  unfold tx6 pt
  rw [if_pos h, List.drop_zero, List.take_of_length_le (by omega)]
end Adr
/-- An address lies in its block. -/
structure KeptP (n0 : Nat) (a : List UInt8) (w w' : World) : Prop where
  row : Row w' n0 23 (bytesA a)
  below : Below w.heap.size w w'
theorem KeptP.on {n0 : Nat} {a : List UInt8} {w w' w'' : World} (h : KeptP n0 a w w') (hb : Below w'.heap.size w' w'') : KeptP n0 a w w'' :=
  ⟨h.row.stays hb, h.below.trans (hb.mono h.below.size)⟩
set_option maxRecDepth 100000 in
set_option maxHeartbeats 4000000 in
theorem refText6_calls (a : List UInt8) (ha : a.length = 16) (w : World) :
    Calls Tryz.prog 32 #[.agg (bytesA a)] w fun e w' => e = .returned (.string ⟨(Adr.tx6 (Adr.groups a)).toArray⟩) ∧ Below w.heap.size w w' := by
  have HG := Lib.hid (fun k hk g hg W => refGroup_calls a ha k hk g hg W)
  have HP := Lib.hid (fun f t hft ht W => refPart_calls a ha f t hft ht W)
  unfold PartText at HP
  have HZ := Lib.hid (show (bytesA a).size = 16 by rw [bytesA_size, ha])
  have hl := Adr.groups_length 8 a ha
  generalize Adr.groups a = gs at *
  have HL := Lib.hid hl
  have HY := Lib.hid (Adr.tx6_yes hl)
  have HN := Lib.hid (Adr.tx6_no hl)
  obtain ⟨hr1, hr2⟩ := Adr.row_of hl
  obtain ⟨hf1, hf2, hf3, _⟩ := Adr.nought_facts hl
  obtain ⟨A, hA⟩ : ∃ A, A = Adr.nf gs := ⟨_, rfl⟩
  obtain ⟨T, hT⟩ : ∃ T, T = Adr.nt gs := ⟨_, rfl⟩
  simp only [← hA, ← hT] at HY HN hr1 hr2 hf1 hf2 hf3
  have HZZ := Lib.hid (fun k x (h : gs[k]? = some x) => Adr.zeros_at h)
  have H1 := Lib.hid hr1
  have H2 := Lib.hid hr2
  have HF := Lib.hid hf1
  have HF2 := Lib.hid hf2
  have HF3 := Lib.hid hf3
  generalize Adr.zeros gs = z at *
  clear hA hT hl hr1 hr2 hf1 hf2 hf3 ha
  have R0 := Row.new w 23 (bytesA a)
  have B0 := (Below.refl w.heap.size w).alloc (Nat.le_refl _) (.cells (bytesA a) 23)
  go_enter Tryz.func32, Tryz.ntmps32
  go_wp2_with fail
  generalize w.alloc (.cells (bytesA a) 23) = w0 at *
  go_loopw [3] (fun v wr => ∃ long : Nat, 1 ≤ long ∧ long ≤ 8 ∧ v = .int .i64 (long : Int) ∧ Hid (A ≠ T → T - A ≤ long) ∧ Row wr w.heap.size 23 (bytesA a) ∧ Below w.heap.size w wr) (fun v _ => (intOf v).toNat)
  case atStart => exact ⟨8, by omega, by omega, rfl, fun _ => by have := HF3.out; omega, R0, B0⟩
  case round =>
    clear R0 B0
    obtain ⟨long, hl1, hl8, rfl, HO, R, hb⟩ := hrel
    by_cases h2 : 2 ≤ long
    · have e2 : decide ((2 : Int) ≤ (long : Int)) = true := decide_eq_true (by omega)
      go_wp2_with fail
      go_loopw [4] (fun v wr => ∃ at_ : Nat, at_ + long ≤ 9 ∧ v = .int .i64 (at_ : Int) ∧ Hid (A ≠ T → T - A < long ∨ (T - A = long ∧ at_ ≤ A)) ∧ Row wr w.heap.size 23 (bytesA a) ∧ Below w.heap.size w wr) (fun v _ => 9 - (intOf v).toNat)
      case atStart => exact ⟨0, by omega, rfl, fun h => by have := HO.out h; omega, R, hb⟩
      case round =>
        clear R hb
        obtain ⟨at_, hat, rfl, HI, R, hb⟩ := hrel
        by_cases h8 : at_ + long ≤ 8
        · have e8 : decide ((at_ : Int) + (long : Int) ≤ 8) = true := decide_eq_true (by omega)
          go_wp2_with fail
          go_loopw [5, 6] (fun al i wr => ∃ n : Nat, n ≤ long ∧ i = .int .i64 ((at_ + n : Nat) : Int) ∧ al = .bool (Adr.allZ z at_ n) ∧ Row wr w.heap.size 23 (bytesA a) ∧ Below w.heap.size w wr) (fun _ i _ => at_ + long - (intOf i).toNat)
          case atStart => exact ⟨0, Nat.zero_le _, rfl, rfl, R, hb⟩
          case round =>
            clear R hb
            obtain ⟨n, hn, rfl, rfl, R, hb⟩ := hrel
            by_cases hlt : n < long
            · obtain ⟨x, hx⟩ : ∃ x, gs[at_ + n]? = some x := ⟨_, List.getElem?_eq_getElem (by rw [HL.out]; omega)⟩
              have HC := Lib.hid (HG.out (at_ + n) (by omega) x hx)
              have hz := HZZ.out _ x hx
              cases hall : Adr.allZ z at_ n with
              | true =>
                have HX := Lib.hid (show ((x.toNat : Int) == 0) = Adr.allZ z at_ (n + 1) by
                  show _ = (Adr.allZ z at_ n && z.getD (at_ + n) false)
                  rw [hall, hz, Bool.true_and, Bool.eq_iff_iff, beq_iff_eq, decide_eq_true_iff]
                  exact ⟨fun h => UInt16.toNat_inj.1 (by show x.toNat = 0; omega), fun h => by rw [h]; rfl⟩)
                clear hx hz hall
                go_wp2_with (first
                  | (refine at_slot 27 rfl ?_; refine load_row rfl 23 _ rfl w.heap.size rfl R Tryz.underlying23 rfl (by rw [HZ.out]; exact infoAddr) ?_)
                  | (go_at_call 57; refine (HC.out _).mono ?_; rintro e w1 ⟨rfl, b1⟩))
                have R1 := R.stays b1
                have B1 := hb.trans (b1.mono hb.size)
                clear R hb b1
                go_roundw
                case rel => exact ⟨n + 1, by omega, by go_num, val_bool HX.out, R1, B1⟩
                case measure => simp [intOf]; omega
              | false =>
                have HX := Lib.hid (show false = Adr.allZ z at_ (n + 1) by
                  show _ = (Adr.allZ z at_ n && z.getD (at_ + n) false)
                  rw [hall, Bool.false_and])
                clear hx hz hall
                go_wp2_with fail
                go_roundw
                case rel => exact ⟨n + 1, by omega, by go_num, val_bool HX.out, R, hb⟩
                case measure => simp [intOf]; omega
            · have hnl : n = long := by omega
              subst hnl
              cases hall : Adr.allZ z at_ n with
              | false =>
                have HK : Hid (A ≠ T → T - A < n ∨ (T - A = n ∧ at_ + 1 ≤ A)) := Lib.hid fun h => by
                  rcases HI.out h with k | ⟨k1, k2⟩
                  · exact .inl k
                  · by_cases e : at_ = A
                    · have h1 := H1.out h
                      rw [k1, ← e, hall] at h1
                      cases h1
                    · exact .inr ⟨k1, by omega⟩
                clear hall
                go_wp2_with fail
                go_roundw
                case rel => exact ⟨at_ + 1, by omega, by go_num, HK.out, R, hb⟩
                case measure => simp [intOf]; omega
              | true =>
                have hk := H2.out n at_ h2 h8 hall
                have hne : A ≠ T := by omega
                have hin := HI.out hne
                have hAa : A = at_ := by omega
                have hTn : T = at_ + n := by have := HF2.out; omega
                subst hAa
                subst hTn
                have hy := HY.out hne
                obtain ⟨X, hX⟩ : ∃ X : ByteArray, X = ⟨(Adr.pt gs 0 A).toArray⟩ := ⟨_, rfl⟩
                obtain ⟨Y, hYY⟩ : ∃ Y : ByteArray, Y = ⟨(Adr.pt gs (A + n) 8).toArray⟩ := ⟨_, rfl⟩
                have HXY := Lib.hid (show X ++ ⟨#[58, 58]⟩ ++ Y = ⟨(Adr.tx6 gs).toArray⟩ by rw [hX, hYY, hy]; apply ByteArray.ext; simp [ByteArray.data_append])
                have x1 : X.size ≤ 40 := by rw [hX]; show (List.toArray _).size ≤ 40; rw [List.size_toArray]; exact Adr.pt_length gs 0 A (by omega)
                have y1 : Y.size ≤ 40 := by rw [hYY]; show (List.toArray _).size ≤ 40; rw [List.size_toArray]; exact Adr.pt_length gs (A + n) 8 (by omega)
                have cs : (⟨#[58, 58]⟩ : ByteArray).size = 2 := rfl
                have p1 : ¬ 9223372036854775807 < X.size + 2 := by omega
                have p2 : ¬ 9223372036854775807 < X.size + 2 + Y.size := by omega
                have hc1 := HP.out 0 A (by omega) (by omega)
                have hc2 := HP.out (A + n) 8 (by omega) (by omega)
                rw [← hX] at hc1
                rw [← hYY] at hc2
                have HC1 : Hid (∀ W, Calls Tryz.prog 58 #[.agg (bytesA a), .int .i64 0, .int .i64 (A : Int)] W fun e w' => e = .returned (.string X) ∧ Below W.heap.size W w') := Lib.hid hc1
                have HC2 : Hid (∀ W, Calls Tryz.prog 58 #[.agg (bytesA a), .int .i64 ((A : Int) + (n : Int)), .int .i64 8] W fun e w' => e = .returned (.string Y) ∧ Below W.heap.size W w') := Lib.hid hc2
                have qs : IntKind.i64.wrap ((A : Int) + (n : Int)) = (A : Int) + (n : Int) := by rw [IntKind.wrap_i64]; omega
                have K1 : KeptP w.heap.size a w wr.drew := KeptP.on ⟨R, hb⟩ (Below.refl _ _).drew
                have HI16 := Lib.hid (show (Tryz.prog.info? 23).map (·.size) = some (bytesA a).size by rw [HZ.out]; exact infoAddr)
                clear hk hin hall hy hX hYY hc1 hc2 R hb
                go_wp2_with fail
                refine wp_region_held_drew (S := KeptP w.heap.size a w) (by kernel_rfl) K1 (fun _ => ?_)
                clear K1
                refine wpAnyH_take (i := 0) rfl (by kernel_rfl) (by kernel_rfl) (by kernel_rfl) (fun _ _ _ h => h) (yields_row (by rfl) _ _ rfl _ rfl (fun _ h => h.row) Tryz.underlying23 rfl HI16.out) (by assumption) ?_
                simp only [Act.put, List.setIfInBounds_toArray, List.set_cons_zero, List.set_cons_succ, List.getElem_toArray, List.getElem_cons_zero]
                refine wpAnyH_take (i := 1) (v := ?_) rfl (by kernel_rfl) (by kernel_rfl) (by kernel_rfl) (fun _ _ _ h => h) (Or.inl ⟨by rfl, ?_⟩) (by assumption) ?_
                rotate_left
                · intro _ _; go_simp; with_reducible rfl
                simp only [Act.put, List.setIfInBounds_toArray, List.set_cons_zero, List.set_cons_succ, List.getElem_toArray, List.getElem_cons_zero, List.getElem_cons_succ]
                refine wpAnyH_take (i := 4) rfl (by kernel_rfl) (by kernel_rfl) (by kernel_rfl) (fun _ _ _ h => h) (yields_row (by rfl) _ _ rfl _ rfl (fun _ h => h.row) Tryz.underlying23 rfl HI16.out) (by assumption) ?_
                simp only [Act.put, List.setIfInBounds_toArray, List.set_cons_zero, List.set_cons_succ, List.getElem_toArray, List.getElem_cons_zero, List.getElem_cons_succ]
                refine wpAnyH_take (i := 5) (v := ?_) rfl (by kernel_rfl) (by kernel_rfl) (by kernel_rfl) (fun _ _ _ h => h) (Or.inl ⟨by rfl, ?_⟩) (by assumption) ?_
                rotate_left
                · intro _ _; go_simp; with_reducible rfl
                simp only [Act.put, List.setIfInBounds_toArray, List.set_cons_zero, List.set_cons_succ, List.getElem_toArray, List.getElem_cons_zero, List.getElem_cons_succ]
                refine wpAnyH_take (i := 6) (v := ?_) rfl (by kernel_rfl) (by kernel_rfl) (by kernel_rfl) (fun _ _ _ h => h) (Or.inl ⟨by rfl, ?_⟩) (by assumption) ?_
                rotate_left
                · intro _ _; go_simp; with_reducible rfl
                simp only [Act.put, List.setIfInBounds_toArray, List.set_cons_zero, List.set_cons_succ, List.getElem_toArray, List.getElem_cons_zero, List.getElem_cons_succ]
                refine wpAnyH_take (i := 7) (v := ?_) rfl (by kernel_rfl) (by kernel_rfl) (by kernel_rfl) (fun _ _ _ h => h) (Or.inl ⟨by rfl, ?_⟩) (by assumption) ?_
                rotate_left
                · intro _ _; go_simp; with_reducible rfl
                simp only [Act.put, List.setIfInBounds_toArray, List.set_cons_zero, List.set_cons_succ, List.getElem_toArray, List.getElem_cons_zero, List.getElem_cons_succ]
                refine wpAnyH_ready (rs := [2]) (by kernel_rfl) (by simp) (AllReadyH.cons rfl (fun K hK => ?_) AllReadyH.nil)
                rw [if_pos (by rfl)]
                go_simp
                refine (HC1.out _).mono ?_
                rintro e w4 ⟨rfl, b4⟩
                have S4 : KeptP w.heap.size a w w4 := KeptP.on (by assumption) b4
                clear b4
                go_wp2_with fail
                refine hK.out _ _ S4 (fun _ => ?_)
                clear hK K
                refine wpAnyH_take (i := 3) (v := ?_) rfl (by kernel_rfl) (by kernel_rfl) (by kernel_rfl) (fun _ _ _ h => h) (Or.inl ⟨by rfl, ?_⟩) (by assumption) ?_
                rotate_left
                · intro _ _; go_simp; with_reducible rfl
                simp only [Act.put, List.setIfInBounds_toArray, List.set_cons_zero, List.set_cons_succ, List.getElem_toArray, List.getElem_cons_zero, List.getElem_cons_succ]
                refine wpAnyH_ready (rs := [8]) (by kernel_rfl) (by simp) (AllReadyH.cons rfl (fun K hK => ?_) AllReadyH.nil)
                rw [if_pos (by rfl)]
                go_simp
                refine (HC2.out _).mono ?_
                rintro e w4 ⟨rfl, b4⟩
                have S4 : KeptP w.heap.size a w w4 := KeptP.on (by assumption) b4
                clear b4
                go_wp2_with fail
                refine hK.out _ _ S4 (fun _ => ?_)
                clear hK K
                refine wpAnyH_take (i := 9) (v := ?_) rfl (by kernel_rfl) (by kernel_rfl) (by kernel_rfl) (fun _ _ _ h => h) (Or.inl ⟨by rfl, ?_⟩) (by assumption) ?_
                rotate_left
                · intro _ _; go_simp; with_reducible rfl
                simp only [Act.put, List.setIfInBounds_toArray, List.set_cons_zero, List.set_cons_succ, List.getElem_toArray, List.getElem_cons_zero, List.getElem_cons_succ]
                refine wpAnyH_take (i := 10) (v := ?_) rfl (by kernel_rfl) (by kernel_rfl) (by kernel_rfl) (fun _ _ _ h => h) (Or.inl ⟨by rfl, ?_⟩) (by assumption) ?_
                rotate_left
                · intro _ _; go_simp; with_reducible rfl
                simp only [Act.put, List.setIfInBounds_toArray, List.set_cons_zero, List.set_cons_succ, List.getElem_toArray, List.getElem_cons_zero, List.getElem_cons_succ]
                refine wpAnyH_done (by kernel_rfl) ?_ _
                go_wp2
                go_ret
                exact ⟨ret_str HXY.out, KeptP.below (n0 := w.heap.size) (a := a) (by assumption)⟩
        · have HK : Hid (A ≠ T → T - A ≤ long - 1) := Lib.hid fun h => by
            have := HI.out h; have := HF3.out; have := HF2.out; omega
          go_wp2_with fail
          go_roundw
          case rel => exact ⟨long - 1, by omega, by omega, by go_num, HK.out, R, hb⟩
          case measure => simp [intOf]; omega
    · have hAT : A = T := by
        have h1 := HF.out
        have h3 := HO.out
        by_cases e : A = T
        · exact e
        · have := h3 e; omega
      have hc := HP.out 0 8 (by omega) (by omega)
      rw [← HN.out hAT] at hc
      have HC : Hid (∀ W, Calls Tryz.prog 58 #[.agg (bytesA a), .int .i64 0, .int .i64 8] W fun e w' => e = .returned (.string ⟨(Adr.tx6 gs).toArray⟩) ∧ Below W.heap.size W w') := Lib.hid hc
      clear hAT hc
      go_wp2_with (first
        | (refine at_slot 43 rfl ?_; refine load_row rfl 23 _ rfl w.heap.size rfl R Tryz.underlying23 rfl (by rw [HZ.out]; exact infoAddr) ?_)
        | (go_at_call 58; refine (HC.out _).mono ?_; rintro e w1 ⟨rfl, b1⟩))
      go_ret
      exact ⟨rfl, hb.trans (b1.mono hb.size)⟩
end Go.Proofs.YtcookddgaomkiaaGreatDoor
