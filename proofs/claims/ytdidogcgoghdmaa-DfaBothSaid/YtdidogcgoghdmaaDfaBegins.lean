/- The walk of Begins. -/
import Derived.Test.YtdidogcgoghdmaaDfaWord
import Derived.Test.YtdidogcgoghdmaaDfaMore
namespace Go.Proofs.Ytdidogcgoghdmaa
open Go.RowKit
/-- What Begins answers. -/
def BeginsPost (w : World) (k : Int) (x : List Int) (e : Ending) (w' : World) : Prop := (wordCode k x = 0 ∧ ∃ c, Au.BeginsOf k.toNat (Au.toN x) c ∧ NewAuto w (Au.Dv.of c) 0 e w') ∨ (wordCode k x ≠ 0 ∧ NewAuto w Au.Dv.zero (wordCode k x) e w')
set_option maxRecDepth 100000 in
set_option maxHeartbeats 8000000 in
theorem begins_calls15 (k : Int) (u : Value) (x : List Int) (w : World) (hx : Nums w u x) (hxl : x.length ≤ maxLen) :
    Calls Try.prog 11 #[.int .i64 k, u] w (BeginsPost w k x) := by
  have HWC := Lib.hid (fun W h => word_calls k u x W h hxl)
  have HX := Lib.hid hx
  obtain ⟨B, cb, rfl⟩ := hx.slice
  have hb0 := (Below.refl w.heap.size w).alloc (Nat.le_refl _) (.cells zeroD 25)
  have R0 := Row.new w 25 zeroD
  by_cases h0 : ¬ wordCode k x = 0
  · have HPost : Hid (∀ w', Below w.heap.size w w' → BeginsPost w k x (.returned (.tuple #[.agg zeroD, .int .i64 (wordCode k x)])) w') := Lib.hid (fun w' h => .inr ⟨h0, _, rfl, zero_auto w', h⟩)
    have e1 : (wordCode k x != 0) = true := by rw [bne_iff_ne]; exact h0
    have HW2 : Hid (∀ W, Nums W (.slice B x.length cb) x → Calls Try.prog 10 #[.int .i64 k, .slice B x.length cb] W (NewAuto W Au.Dv.zero (wordCode k x))) := Lib.hid (fun W h => (HWC.out W h).mono (fun e w' h => by
      rcases h with ⟨h, _⟩ | ⟨_, h⟩
      · exact absurd h h0
      · exact h))
    generalize BeginsPost w k x = post at *
    generalize wordCode k x = r at *
    generalize x.length = n at *
    clear hx h0 HWC
    unfold NewAuto at HW2
    go_enter Try.func11, Try.ntmps11
    go_wp2_with fail
    refine (HW2.out _ (HX.out.later hb0 (Nat.le_refl _))).mono ?_
    rintro e w1 ⟨v, rfl, hA, hb⟩
    obtain ⟨A1, c1, A2, c2, rfl, _, _⟩ := hA.parts
    have R1 := R0.stays hb
    have C1 := hb0.trans (hb.mono hb0.size)
    clear hA hb R0 hb0
    go_wp2_with (refine wpList_store_row rfl 25 _ _ rfl w.heap.size zeroD rfl rfl 25 _ (R1.alloc _) infoDfa rfl zeroD_one ?_)
    exact bodyPost_ret (v := .tuple #[.agg zeroD, .int .i64 r]) (results_cell_two rfl _ _ w.heap.size _ _ _ rfl _ rfl ((R1.alloc _).whole _) Try.underlying25 rfl infoDfa) rfl (HPost.out _ (below_setRow (C1.alloc C1.size _) (Nat.le_refl _) _))
  have h0 := Classical.not_not.1 h0
  obtain ⟨k1, k2, hsy, hlen⟩ := wordCode_zero h0
  have HPost : Hid (∀ c e w', Au.BeginsOf k.toNat (Au.toN x) c → NewAuto w (Au.Dv.of c) 0 e w' → BeginsPost w k x e w') := Lib.hid (fun c e w' h1 h2 => .inl ⟨h0, c, h1, h2⟩)
  have HW2 : Hid (∀ W, Nums W (.slice B x.length cb) x → Calls Try.prog 10 #[.int .i64 k, .slice B x.length cb] W (fun e w' => ∃ c, Au.WordOf k.toNat (Au.toN x) c ∧ OwnAuto W c e w')) := Lib.hid (fun W h => (HWC.out W h).mono (fun e w' h => by
    rcases h with ⟨_, h⟩ | ⟨h, _⟩
    · exact h
    · exact absurd h0 h))
  generalize BeginsPost w k x = post at *
  obtain ⟨y, hy⟩ : ∃ y, y = Au.toN x := ⟨_, rfl⟩
  rw [← hy] at HPost HW2
  have hyl : x.length = y.length := by rw [hy, Au.toN_length]
  rw [hyl] at HW2 HX hlen ⊢
  obtain ⟨kk, rfl⟩ : ∃ kk : Nat, k = (kk : Int) := ⟨k.toNat, by omega⟩
  rw [Int.toNat_natCast] at HPost HW2
  obtain ⟨n, hn⟩ : ∃ n, y.length = n := ⟨_, rfl⟩
  rw [hn] at HW2 HX hlen ⊢
  have HN := Lib.hid hn
  clear hx h0 hsy hy hyl hn HWC
  unfold OwnAuto at HW2
  go_enter Try.func11, Try.ntmps11
  go_wp2_with fail
  refine (HW2.out _ (HX.out.later hb0 (Nat.le_refl _))).mono ?_
  rintro e w1 ⟨c, hc, nv, av, N, M, rfl, OU, OM, hb⟩
  have HC := Lib.hid hc
  have hN : N = kk * (n + 2) := by
    have h1 := OU.1
    have h2 := hc.len
    rw [hc.nn, hc.kk, HN.out] at h2
    rw [natVs_length, h2, Nat.mul_comm] at h1
    omega
  have hNp : 0 < N := by rw [hN]; exact Nat.mul_pos (by omega) (by omega)
  have hNK : N ≤ 33554432 := by
    have h : kk * (n + 2) ≤ 512 * 65536 := Nat.mul_le_mul (by omega) (by omega)
    rw [hN]; exact h
  have HNN := Lib.hid hN
  have hck := hc.kk
  have hcs := hc.zero
  rw [hck, hcs]
  obtain ⟨Aun, cun, rfl, hAun⟩ := own_any OU
  obtain ⟨Aum, cum, rfl, hAum⟩ := own_any OM
  have hM : M = n + 2 := by
    have h1 := OM.1
    have h2 := hc.nn
    unfold Au.Fa.n at h2
    rw [boolVs_length, h2, HN.out] at h1
    omega
  obtain ⟨gm, rfl⟩ := hAum (by omega)
  obtain ⟨m, hm⟩ : ∃ m, n * kk = m := ⟨_, rfl⟩
  have hmN : m + 2 * kk = N := by rw [hN, Nat.mul_add, Nat.mul_comm kk n, hm]; omega
  obtain ⟨gu, rfl⟩ := hAun hNp
  have R1 := R0.stays hb
  have C1 := hb0.trans (hb.mono hb0.size)
  have OU1 := own_base OU hb0.size
  have OM1 := own_base OM hb0.size
  have hgu : w.heap.size ≤ gu := (OU1.lt gu rfl).1
  clear hb R0 hb0 hc OU OM hck hcs HW2 hN hAun
  obtain ⟨gd, hgd⟩ : ∃ gd, w1.heap.size = gd := ⟨_, rfl⟩
  have DD := (Below.refl w1.heap.size w1).alloc (Nat.le_refl _) (.cells #[.int .i64 (kk : Int), .int .i64 0, .slice (some ⟨gu, 0, none⟩) N cun, .slice (some ⟨gm, 0, none⟩) M cum] 25)
  have RD := Row.new w1 25 #[.int .i64 (kk : Int), .int .i64 0, .slice (some ⟨gu, 0, none⟩) N cun, .slice (some ⟨gm, 0, none⟩) M cum]
  have RZ := R1.stays DD
  have OU2 := own_keep OU1 DD
  have OM2 := own_keep OM1 DD
  have C2 := C1.trans (DD.mono C1.size)
  have hdu := row_own_ne OU2 RD (by decide)
  have hzu := row_own_ne OU2 RZ (by decide)
  have hum := own_own_ne OU2 OM2 (by decide)
  rw [hgd] at RD hdu
  have HOU := Lib.hid OU2
  have HOM := Lib.hid OM2
  have HRD := Lib.hid RD
  have HRZ := Lib.hid RZ
  have HBC := Lib.hid C2
  have HNE := Lib.hid (And.intro hdu (And.intro hzu hum))
  clear OU2 OM2 RD RZ C2 hdu hzu hum DD OU1 OM1 C1 R1 hAum hM
  go_wp2_with fail
  clear hgd
  have HQ : Hid (∀ j : Nat, j < kk → wrap64 ((n : Int) * (kk : Int)) = (m : Int) ∧ wrap64 ((m : Int) + (j : Int)) = ((m + j : Nat) : Int)) := Lib.hid (fun j hj => ⟨by rw [← Int.natCast_mul, hm]; exact wrapN _ (by omega), by rw [← Int.natCast_add]; exact wrapN _ (by omega)⟩)
  have HMN := Lib.hid hmN
  have HNJ := Lib.hid hm
  clear hm hmN
  go_loopw [23] (fun i wr => ∃ j : Nat, j ≤ kk ∧ i = .int .i64 j ∧ Hid (Row wr gd 25 #[.int .i64 (kk : Int), .int .i64 0, .slice (some ⟨gu, 0, none⟩) N cun, .slice (some ⟨gm, 0, none⟩) M cum]) ∧ Hid (Row wr w.heap.size 25 zeroD) ∧ Hid (wr.ownsRow w.heap.size 3 1 (.slice (some ⟨gu, 0, none⟩) N cun) N (natVs (Au.setAll c.next m n j))) ∧ Hid (wr.ownsRow w.heap.size 4 1 (.slice (some ⟨gm, 0, none⟩) M cum) M (boolVs c.acc)) ∧ Hid (Below w.heap.size w wr)) (fun i _ => kk - (intOf i).toNat)
  case atStart => exact ⟨0, Nat.zero_le _, rfl, HRD, HRZ, HOU, HOM, HBC⟩
  case round =>
    obtain ⟨j, hj, rfl, HD, HZ, HU, HM, HB⟩ := hrel
    by_cases hlt : j < kk
    · obtain ⟨q1, q2⟩ := HQ.out j hlt
      obtain ⟨p, hp⟩ : ∃ p, m + j = p := ⟨_, rfl⟩
      rw [hp] at q2
      have hpl : p < N := by have := HMN.out; omega
      have HS := Lib.hid (HU.out.stored p (.int .i64 (n : Int))).1
      have HW2 : Hid ((natVs (Au.setAll c.next m n j)).set p (.int .i64 (n : Int)) = natVs (Au.setAll c.next m n (j + 1))) := Lib.hid (by
        rw [natVs_set]
        conv => rhs; unfold Au.setAll
        rw [hp])
      rw [HW2.out] at HS
      have hfr := HU.out.frozenAt p
      have hold := HU.out.cellAt p (Nat.lt_of_lt_of_eq hpl (Nat.mul_one N).symm)
      obtain ⟨o, ho⟩ : ∃ o, (natVs (Au.setAll c.next m n j))[p]? = some o := ⟨_, List.getElem?_eq_getElem (by have h1 := HU.out.1; omega)⟩
      rw [ho] at hold
      have c2 := HD.out.cell 2
      have HD2 := Lib.hid (HD.out.other (p := ⟨gu, p, none⟩) HNE.out.1 (.int .i64 (n : Int)))
      have HZ2 := Lib.hid (HZ.out.other (p := ⟨gu, p, none⟩) HNE.out.2.1 (.int .i64 (n : Int)))
      have HM2 := Lib.hid (own_far HM.out (p := ⟨gu, p, none⟩) (fun e => HNE.out.2.2 (Option.some.inj e).symm) (.int .i64 (n : Int)))
      have HB2 := Lib.hid (HB.out.setCell (p := ⟨gu, p, none⟩) hgu (.int .i64 (n : Int)))
      clear hp ho HW2
      go_wp2
      go_roundw
      case rel => exact ⟨j + 1, by omega, by go_num, HD2, HZ2, HS, HM2, HB2⟩
      case measure => simp [intOf]; omega
    · obtain rfl : j = kk := by omega
      have HBO := Lib.hid (Au.begins_of HC.out)
      have hcn : (⟨c.k, c.start, Au.setAll c.next (y.length * j) y.length j, c.acc⟩ : Au.Fa) = ⟨j, 0, Au.setAll c.next m n j, c.acc⟩ := by
        rw [HC.out.kk, HC.out.zero, HN.out, HNJ.out]
      rw [hcn] at HBO
      clear hcn
      generalize Au.setAll c.next m n j = W at *
      go_wp2_with (first
        | (refine at_slot 36 rfl ?_; refine load_row rfl 25 _ rfl gd rfl HD.out Try.underlying25 rfl infoDfa ?_)
        | (refine wpList_store_row rfl 25 _ _ rfl w.heap.size #[.int .i64 (j : Int), .int .i64 0, .slice (some ⟨gu, 0, none⟩) N cun, .slice (some ⟨gm, 0, none⟩) M cum] rfl rfl 25 _ HZ.out infoDfa rfl (dfaD_one _ _ _ _ _ _ _ _) ?_))
      exact bodyPost_ret (v := .tuple #[.agg #[.int .i64 (j : Int), .int .i64 0, .slice (some ⟨gu, 0, none⟩) N cun, .slice (some ⟨gm, 0, none⟩) M cum], .int .i64 0]) (results_cell_two rfl _ _ w.heap.size _ _ _ rfl _ rfl (HZ.out.whole _) Try.underlying25 rfl infoDfa) rfl
        (HPost.out _ _ _ HBO.out ⟨_, rfl, sound_auto HBO.out.toSound (nums_own (own_row HU.out HZ.out (by decide))) (bools_own (own_row HM.out HZ.out (by decide))), below_setRow HB.out (Nat.le_refl _) _⟩)
end Go.Proofs.Ytdidogcgoghdmaa
