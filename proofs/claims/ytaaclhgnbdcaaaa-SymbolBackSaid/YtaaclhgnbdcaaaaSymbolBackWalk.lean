/- The walk of the law SymbolBack. -/
import Derived.Test.YtaaclhgnbdcaaaaSymbolAlive
import Derived.Test.YtaaclhgnbdcaaaaSymbolData
import Derived.Deep.AppendLies
import Derived.OrdersHeld
import Derived.Deep.RegionHeld
import Derived.Deep.QuietTactic
namespace Go.Proofs.Ytaaclhgnbdcaaaa
open Go.RowKit
namespace Sy
/-- The texts from j on, the last one ahead, each twice. -/
def back (l : List (List UInt8)) (j : Nat) : List (List UInt8) := (l.drop j).reverse.flatMap fun x => [x, x]
theorem back_end (l : List (List UInt8)) : back l l.length = [] := by simp [back]
theorem back_step {l : List (List UInt8)} {j : Nat} {x : List UInt8} (h : l[j]? = some x) : back l j = back l (j + 1) ++ [x, x] := by
  have hl := (List.getElem?_eq_some_iff.1 h)
  obtain ⟨hl, e⟩ := hl
  unfold back
  rw [List.drop_eq_getElem_cons hl, e, List.reverse_cons, List.flatMap_append]
  simp
theorem back_length (l : List (List UInt8)) (j : Nat) : (back l j).length = 2 * (l.length - j) := by
  unfold back
  have : ∀ m : List (List UInt8), (m.flatMap fun x => [x, x]).length = 2 * m.length := by
    intro m
    induction m with
    | nil => rfl
    | cons a m ih => rw [List.flatMap_cons, List.length_append, ih, List.length_cons]; simp; omega
  rw [this, List.length_reverse, List.length_drop]
theorem back_mem {l : List (List UInt8)} {s : List UInt8} : s ∈ back l 0 ↔ s ∈ l := by simp [back]
theorem back_all {l : List (List UInt8)} {n : Nat} (h : ∀ x ∈ l, x.length ≤ n) : ∀ x ∈ back l 0, x.length ≤ n := fun x hx => h x (back_mem.1 hx)
theorem of_same {l k t u : List (List UInt8)} (h : Sorted l t) (g : Sorted k u) (e : ∀ s, s ∈ l ↔ s ∈ k) (s : List UInt8) : of l s = of k s := by
  have ht := h.one g e
  subst ht
  by_cases hm : s ∈ l
  · obtain ⟨i, hi⟩ := List.getElem?_of_mem ((h.mem s).2 hm)
    rw [h.at hi, g.at hi]
  · rw [h.other hm, g.other (fun k => hm ((e s).2 k))]
end Sy
theorem strVs_two (l : List (List UInt8)) (t : ByteArray) : strVs (l ++ [t.data.toList, t.data.toList]) = strVs l ++ [.string t, .string t] := by unfold strVs; rw [List.map_append]; rfl
set_option maxRecDepth 100000 in
set_option maxHeartbeats 8000000 in
theorem symBackLaw_calls {v : Value} (l : List (List UInt8)) (s : ByteArray) (w : World) (hl : Texts w v l ∧ l.length ≤ maxLen ∧ ∀ x ∈ l, x.length ≤ maxLen) (hs : s.size ≤ maxLen) :
    Calls Try.prog 5 #[v, .string s] w fun e w' => e = .returned (.bool true) ∧ Below w.heap.size w w' := by
  have HAL := Lib.hid (alive_calls14 w)
  obtain ⟨hT, hl, _⟩ := hl
  have HT := Lib.hid hT
  have HG := Lib.hid (fun W h => great_calls14 v l W h hl)
  clear hT
  unfold maxLen at hs hl
  cases hgr : greatB l with
  | true =>
    rw [hgr] at HG
    clear hgr
    go_enter Try.func5, Try.ntmps5
    go_wp2_with (first
      | (go_at_call 7; refine HAL.out.mono ?_; rintro e w1 ⟨rfl, hb⟩)
      | (go_at_call 8; refine (HG.out _ (HT.out.later hb (Nat.le_refl _))).mono ?_; rintro e w2 ⟨rfl, rfl⟩))
    go_ret
    exact ⟨rfl, hb⟩
  | false =>
  obtain ⟨hg1, hg2⟩ := greatB_no hgr
  rw [hgr] at HG
  clear hgr
  by_cases h1 : (200 : Int) < (s.size : Int)
  · have e1 : decide ((200 : Int) < (s.size : Int)) = true := decide_eq_true h1
    go_enter Try.func5, Try.ntmps5
    go_wp2_with (first
      | (go_at_call 7; refine HAL.out.mono ?_; rintro e w1 ⟨rfl, hb⟩)
      | (go_at_call 8; refine (HG.out _ (HT.out.later hb (Nat.le_refl _))).mono ?_; rintro e w2 ⟨rfl, rfl⟩))
    go_ret
    exact ⟨rfl, hb⟩
  have e1 : decide ((200 : Int) < (s.size : Int)) = false := decide_eq_false h1
  have hs2 : s.size ≤ 200 := by omega
  have hsl := Sy.back_length l 0
  have HSM := Lib.hid (fun s => Sy.back_mem (l := l) (s := s))
  have HNW := Lib.hid (fun W h => new_calls14 v l W h (by omega) (fun x hx => by have := hg2 x hx; omega))
  have HNT := Lib.hid (fun u W h => new_calls14 u (Sy.back l 0) W h (by omega) (fun x hx => by have := Sy.back_all hg2 x hx; omega))
  have HBE := Lib.hid (Sy.back_end l)
  have HBS := Lib.hid (fun j x => Sy.back_step (l := l) (j := j) (x := x))
  have HSH := Lib.hid hg2
  clear hg2 h1 hsl
  obtain ⟨A, c, rfl⟩ := HT.out.slice
  obtain ⟨n, hn⟩ : ∃ n, l.length = n := ⟨_, rfl⟩
  rw [hn] at HT hg1 HG HNW HBE ⊢
  have HN := Lib.hid hn
  clear hn hl
  go_enter Try.func5, Try.ntmps5
  go_wp2_with (first
    | (go_at_call 7; refine HAL.out.mono ?_; rintro e w1 ⟨rfl, hb⟩)
    | (go_at_call 8; refine (HG.out _ (HT.out.later hb (Nat.le_refl _))).mono ?_; rintro e w2 ⟨rfl, rfl⟩))
  go_loopw [5, 6] (fun u i wr => ∃ (j m : Nat), j ≤ n ∧ Hid (m + 2 * j = 2 * n) ∧ i = .int .i64 ((j : Int) - 1) ∧ Hid (wr.ownsRow w.heap.size 9 1 u m (strVs (Sy.back l j))) ∧ Hid (Below w.heap.size w wr)) (fun _ i _ => (intOf i + 1).toNat)
  case atStart => exact ⟨n, 0, Nat.le_refl _, Lib.hid (by omega), rfl, Lib.hid (by rw [HBE.out]; exact World.ownsRow_made w2 #[] 0 hb.size (Nat.zero_le _) rfl), Lib.hid (hb.alloc hb.size _)⟩
  case round =>
    obtain ⟨j, m, hj, HMJ, rfl, HO, HB⟩ := hrel
    cases j with
    | zero =>
      have h1 : ¬ (0 : Int) ≤ ((0 : Nat) : Int) - 1 := by omega
      have hU : Texts wr u5 (Sy.back l 0) := texts_own HO.out
      have HU := Lib.hid hU
      clear HO hU HBS HBE
      go_wp2_with fail
      refine (HNW.out _ (HT.out.later HB.out (Nat.le_refl _))).mono ?_
      rintro e w3 ⟨b, t, rfl, _, hA, hb3⟩
      have B3 := Lib.hid (HB.out.trans (hb3.mono HB.out.size))
      have HU3 := Lib.hid (HU.out.stays hb3)
      have HA3 := Lib.hid hA
      clear hb3 hA HNW HU
      go_wp2_with fail
      refine (HNT.out _ _ HU3.out).mono ?_
      rintro e w4 ⟨b2, t2, rfl, _, hA2, hb4⟩
      have B4 := Lib.hid (B3.out.trans (hb4.mono B3.out.size))
      have hA := HA3.out.stays hb4
      have hone : t2 = t := hA2.sorted.one hA.sorted HSM.out
      subst hone
      have HA := Lib.hid hA
      have HA2 := Lib.hid hA2
      have hfew := hA.few
      obtain ⟨m, hm⟩ : ∃ m, t2.length = m := ⟨_, rfl⟩
      have HM := Lib.hid hm
      have HSO := Lib.hid hA.sorted
      have HSA : Hid (∀ x, Sy.of (Sy.back l 0) x = Sy.of l x) := Lib.hid (fun x => Sy.of_same hA2.sorted hA.sorted HSM.out x)
      obtain ⟨fr, hfr, hfd, hfs⟩ := text_of (Sy.fresh l)
      have hflen : fr.size ≤ 100 := by
        rw [hfs]
        obtain ⟨K, hK, hF, _⟩ := Sy.fresh_is l
        rw [hF, Sy.cand_digs, List.length_reverse]
        have := Sy.digs_length (K + 1)
        have := HN.out
        omega
      have HFN : Hid (fr.data.toList ∉ l) := Lib.hid (by rw [hfd]; exact Sy.fresh_new l)
      have CF : Hid (Calls Try.prog 16 #[(.pointer (some ⟨b, 0, none⟩))] w4 fun e w' => e = .returned (.string fr) ∧ w' = w4) := Lib.hid (by
        have h := fresh_calls b l t2 w4 hA
        rw [show strV (Sy.fresh l) = .string fr by rw [hfr]; rfl] at h; exact h)
      have CL : Hid (Calls Try.prog 10 #[(.pointer (some ⟨b, 0, none⟩))] w4 fun e w' => e = .returned (.int .i64 ((m : Int) + 1)) ∧ w' = w4) := Lib.hid (by
        have h := len_calls b l t2 w4 hA
        rw [hm] at h; exact h)
      have CL2 : Hid (Calls Try.prog 10 #[(.pointer (some ⟨b2, 0, none⟩))] w4 fun e w' => e = .returned (.int .i64 ((m : Int) + 1)) ∧ w' = w4) := Lib.hid (by
        have h := len_calls b2 _ t2 w4 hA2
        rw [hm] at h; exact h)
      rw [hm] at hfew
      clear hb4 HA3 HU3 HNT B3 hA hA2 hfr hfd hfs hm
      go_wp2_with fail
      go_loopw [9, 46] (fun kn i wr => ∃ k : Nat, k ≤ n ∧ i = .int .i64 k ∧ kn = .bool (decide (s.data.toList ∈ l.take k)) ∧ wr = w4) (fun _ i _ => n - (intOf i).toNat)
      case atStart => exact ⟨0, Nat.zero_le _, rfl, by simp, rfl⟩
      case round =>
        obtain ⟨k, hk, rfl, rfl, rfl⟩ := hrel
        obtain ⟨kb, hkb⟩ : ∃ kb, decide (s.data.toList ∈ l.take k) = kb := ⟨_, rfl⟩
        rw [hkb]
        have HKB := Lib.hid hkb
        clear hkb
        by_cases hlt : k < n
        · obtain ⟨x, hx⟩ : ∃ x, l[k]? = some x := ⟨_, List.getElem?_eq_getElem (by rw [HN.out]; exact hlt)⟩
          obtain ⟨q, hq, hqd, hqs⟩ := text_of x
          obtain ⟨g, off, rfl, hcell⟩ := (HT.out.later B4.out (Nat.le_refl _)).at hx hq
          have hxm := List.mem_of_getElem? hx
          have hql : q.size ≤ 100 := by rw [hqs]; exact HSH.out x hxm
          have HTK : Hid (l.take (k + 1) = l.take k ++ [q.data.toList]) := Lib.hid (by rw [List.take_add_one, hx, hqd]; rfl)
          have hz := (HSO.out.lt (s := x)).2 hxm
          rw [HM.out] at hz
          have hbk := HSO.out.back hxm
          have C1 : Hid (Calls Try.prog 12 #[(.pointer (some ⟨b, 0, none⟩)), .string q] wr fun e w' => e = .returned (.int .i64 (Sy.of l x : Int)) ∧ w' = wr) := Lib.hid (by
            have h := of_calls b l t2 q wr HA.out (by unfold maxLen; omega)
            rw [hqd] at h; exact h)
          have C2 : Hid (Calls Try.prog 12 #[(.pointer (some ⟨b2, 0, none⟩)), .string q] wr fun e w' => e = .returned (.int .i64 (Sy.of l x : Int)) ∧ w' = wr) := Lib.hid (by
            have h := of_calls b2 _ t2 q wr HA2.out (by unfold maxLen; omega)
            rw [hqd, HSA.out] at h; exact h)
          have C3 : Hid (Calls Try.prog 14 #[(.pointer (some ⟨b, 0, none⟩)), .int .i64 (Sy.of l x : Int)] wr fun e w' => e = .returned (.string q) ∧ w' = wr) := Lib.hid (by
            have h := text_calls14 b l t2 (Sy.of l x : Int) wr HA.out (WalkArith.wf_i64 (by omega))
            rw [hbk, show strV x = .string q by rw [hq]; rfl] at h; exact h)
          have z1 : (q.toList != q.toList) = false := by simp
          have z2 : ((Sy.of l x : Int) != (Sy.of l x : Int)) = false := by simp
          have z3 : decide ((m : Int) ≤ (Sy.of l x : Int)) = false := decide_eq_false (by omega)
          have z3' : ¬ (m : Int) ≤ (Sy.of l x : Int) := by omega
          have z4 : (fr.toList == q.toList) = false := by
            rw [text_beq]; exact decide_eq_false (fun e => HFN.out (by rw [e, hqd]; exact hxm))
          clear hx hq hqd hqs hxm hbk
          generalize Sy.of l x = z at *
          cases kb with
          | true =>
            have HK2 : Hid (decide (s.data.toList ∈ l.take (k + 1)) = true) := Lib.hid (decide_eq_true (by
              rw [HTK.out, List.mem_append]
              exact .inl (of_decide_eq_true HKB.out)))
            go_wp2_with (first
              | (go_at_call 12; (first | (with_reducible refine C1.out.mono ?_) | (with_reducible refine C2.out.mono ?_)); rintro e w6 ⟨rfl, rfl⟩)
              | (go_at_call 14; refine C3.out.mono ?_; rintro e w6 ⟨rfl, rfl⟩)
              | (go_at_call 10; refine CL.out.mono ?_; rintro e w6 ⟨rfl, rfl⟩)
              | (go_at_call 16; refine CF.out.mono ?_; rintro e w6 ⟨rfl, rfl⟩))
            go_roundw
            case rel => exact ⟨k + 1, by omega, by go_num, by rw [HK2.out], (by trivial)⟩
            case measure => simp [intOf]; omega
          | false =>
            obtain ⟨eb, heb⟩ : ∃ eb, (q.toList == s.toList) = eb := ⟨_, rfl⟩
            have HK2 : Hid (decide (s.data.toList ∈ l.take (k + 1)) = eb) := Lib.hid (by
              rw [HTK.out, ← heb, text_beq, Bool.eq_iff_iff, decide_eq_true_eq, decide_eq_true_eq, List.mem_append, List.mem_singleton]
              constructor
              · rintro (e | e)
                · exact absurd e (of_decide_eq_false HKB.out)
                · exact e.symm
              · exact fun e => .inr e.symm)
            go_wp2_with (first
              | (go_at_call 12; (first | (with_reducible refine C1.out.mono ?_) | (with_reducible refine C2.out.mono ?_)); rintro e w6 ⟨rfl, rfl⟩)
              | (go_at_call 14; refine C3.out.mono ?_; rintro e w6 ⟨rfl, rfl⟩)
              | (go_at_call 10; refine CL.out.mono ?_; rintro e w6 ⟨rfl, rfl⟩)
              | (go_at_call 16; refine CF.out.mono ?_; rintro e w6 ⟨rfl, rfl⟩))
            go_roundw
            case rel => exact ⟨k + 1, by omega, by go_num, by rw [HK2.out], (by trivial)⟩
            case measure => simp [intOf]; omega
        · have hkn : decide (s.data.toList ∈ l) = kb := by
            have := HKB.out
            rw [List.take_of_length_le (by have := HN.out; omega)] at this
            exact this
          have hz := HSO.out.lt (s := s.data.toList)
          rw [HM.out] at hz
          have C1 : Hid (Calls Try.prog 12 #[(.pointer (some ⟨b, 0, none⟩)), .string s] wr fun e w' => e = .returned (.int .i64 (Sy.of l s.data.toList : Int)) ∧ w' = wr) := Lib.hid (of_calls b l t2 s wr HA.out (by unfold maxLen; omega))
          have C2 : Hid (Calls Try.prog 12 #[(.pointer (some ⟨b, 0, none⟩)), .string fr] wr fun e w' => e = .returned (.int .i64 (m : Int)) ∧ w' = wr) := Lib.hid (by
            have h := of_calls b l t2 fr wr HA.out (by unfold maxLen; omega)
            rw [HSO.out.other HFN.out, HM.out] at h; exact h)
          have C3 : Hid (Calls Try.prog 14 #[(.pointer (some ⟨b, 0, none⟩)), .int .i64 (-1)] wr fun e w' => e = .returned (.string ⟨#[]⟩) ∧ w' = wr) := Lib.hid (by
            have h := text_calls14 b l t2 (-1) wr HA.out (by decide)
            rw [HSO.out.text_none (.inl (by decide))] at h; exact h)
          have C4 : Hid (Calls Try.prog 14 #[(.pointer (some ⟨b, 0, none⟩)), .int .i64 ((m : Int) + 1)] wr fun e w' => e = .returned (.string ⟨#[]⟩) ∧ w' = wr) := Lib.hid (by
            have h := text_calls14 b l t2 ((m : Int) + 1) wr HA.out (WalkArith.wf_i64 (by omega))
            rw [HSO.out.text_none (.inr (by rw [HM.out]; omega))] at h; exact h)
          have hzb : decide ((Sy.of l s.data.toList : Int) < (m : Int)) = kb := by
            rw [← hkn, Bool.eq_iff_iff, decide_eq_true_eq, decide_eq_true_eq, ← hz]
            omega
          have z1 : (kb == kb) = true := by simp
          have z2 : ((m : Int) + 1 == (m : Int) + 1) = true := by simp
          have z3 : ((m : Int) == (m : Int)) = true := by simp
          have z4 : ((⟨#[]⟩ : ByteArray).toList == (⟨#[]⟩ : ByteArray).toList) = true := by rw [text_beq]; rfl
          have HZB := Lib.hid hzb
          clear hkn hz hzb
          generalize Sy.of l s.data.toList = z at *
          cases kb with
          | true =>
            have z5 : (z : Int) < (m : Int) := of_decide_eq_true HZB.out
            go_wp2_with (first
              | (go_at_call 12; (first | (with_reducible refine C1.out.mono ?_) | (with_reducible refine C2.out.mono ?_)); rintro e w6 ⟨rfl, rfl⟩)
              | (go_at_call 14; (first | (with_reducible refine C3.out.mono ?_) | (with_reducible refine C4.out.mono ?_)); rintro e w6 ⟨rfl, rfl⟩)
              | (go_at_call 10; (first | (with_reducible refine CL.out.mono ?_) | (with_reducible refine CL2.out.mono ?_)); rintro e w6 ⟨rfl, rfl⟩)
              | (go_at_call 16; refine CF.out.mono ?_; rintro e w6 ⟨rfl, rfl⟩))
            go_ret
            exact ⟨rfl, B4.out⟩
          | false =>
            have z5 : m ≤ z := by have := of_decide_eq_false HZB.out; omega
            go_wp2_with (first
              | (go_at_call 12; (first | (with_reducible refine C1.out.mono ?_) | (with_reducible refine C2.out.mono ?_)); rintro e w6 ⟨rfl, rfl⟩)
              | (go_at_call 14; (first | (with_reducible refine C3.out.mono ?_) | (with_reducible refine C4.out.mono ?_)); rintro e w6 ⟨rfl, rfl⟩)
              | (go_at_call 10; (first | (with_reducible refine CL.out.mono ?_) | (with_reducible refine CL2.out.mono ?_)); rintro e w6 ⟨rfl, rfl⟩)
              | (go_at_call 16; refine CF.out.mono ?_; rintro e w6 ⟨rfl, rfl⟩))
            go_ret
            first | exact ⟨rfl, B4.out⟩ | exact ⟨ret_bool (by rw [decide_eq_false (show ¬ z < m by have := of_decide_eq_false HZB.out; omega)]; rfl), B4.out⟩
    | succ j =>
      obtain ⟨x, hx⟩ : ∃ x, l[j]? = some x := ⟨_, List.getElem?_eq_getElem (by rw [HN.out]; omega)⟩
      obtain ⟨q, hq, hqd, _⟩ := text_of x
      obtain ⟨g, off, hA, hgl, hcc⟩ := HT.out.row.at (strVs_at hx)
      subst hA
      have hcc : w.cell? ⟨g, off + j, none⟩ = some (.string q) := by rw [hcc, hq]; rfl
      have HRC := Lib.hid (fun W (hS : Below w.heap.size w W) => ((hS.cell (p := ⟨g, off + j, none⟩) hgl).trans hcc : W.cell? ⟨g, off + j, none⟩ = some (.string q)))
      have HD := Lib.hid (HBS.out j x hx)
      rw [← hqd] at HD
      have HST : Hid (strVs (Sy.back l j) = strVs (Sy.back l (j + 1)) ++ [.string q, .string q]) := Lib.hid (by rw [HD.out, strVs_two])
      have e2 : (((j + 1 : Nat) : Int) - 1) = (j : Int) := by omega
      have hj0 : (0 : Int) ≤ (j : Int) := by omega
      have hm3 : m ≤ 200 := by have := HMJ.out; omega
      have hj1 : (j : Int) < (n : Int) := by omega
      obtain ⟨i0, hi, hz0, hz1, hz2⟩ := info_parts infoText
      have HON : Hid (wr.drew.ownsRow w.heap.size 9 1 u5 m (strVs (Sy.back l (j + 1)))) := Lib.hid HO.out.drew
      have hkS := HB.out.drew
      have hsz := HB.out.size
      have HLT := Lib.hid HO.out.lt
      have HADD : Hid (∀ w1, (wr.drew.alloc (.cells #[.string q, .string q] 9)).grownBy w1 u5.ownBlock → Below w.heap.size w w1) := Lib.hid (fun w1 e1 => (hkS.alloc hsz (.cells #[.string q, .string q] 9)).grown e1 (by simp; exact Nat.le_trans hsz (by omega)) (fun k hk => (HLT.out k hk).1))
      clear hx hq hqd hgl hcc HD HO
      rw [e2]
      go_wp2_with fail
      refine wp_region_held_drew (S := fun W => Below w.heap.size w W) (by kernel_rfl) hkS (fun _ => ?_)
      refine wpAnyH_take (i := 0) (v := ?_) rfl (by kernel_rfl) (by kernel_rfl) (by kernel_rfl) (fun _ _ _ h => h) (Or.inl ⟨by rfl, ?_⟩) (by assumption) ?_
      rotate_left
      · intro _ _; go_simp; with_reducible rfl
      simp only [Act.put, List.setIfInBounds_toArray, List.set_cons_zero, List.set_cons_succ, List.getElem_toArray, List.getElem_cons_zero]
      refine wpAnyH_take (i := 1) (v := ?_) rfl (by kernel_rfl) (by kernel_rfl) (by kernel_rfl) (fun _ _ _ h => h) (Or.inl ⟨by rfl, ?_⟩) (by assumption) ?_
      rotate_left
      · intro _ _; go_simp; with_reducible rfl
      simp only [Act.put, List.setIfInBounds_toArray, List.set_cons_zero, List.set_cons_succ, List.getElem_toArray, List.getElem_cons_zero, List.getElem_cons_succ]
      refine wpAnyH_take (i := 2) (v := ?_) rfl (by kernel_rfl) (by kernel_rfl) (by kernel_rfl) (fun _ _ _ h => h) (Or.inl ⟨by rfl, ?_⟩) (by assumption) ?_
      rotate_left
      · intro _ _; go_simp; with_reducible rfl
      simp only [Act.put, List.setIfInBounds_toArray, List.set_cons_zero, List.set_cons_succ, List.getElem_toArray, List.getElem_cons_zero, List.getElem_cons_succ]
      refine wpAnyH_take (i := 3) (v := ?_) rfl (by kernel_rfl) (by kernel_rfl) (by kernel_rfl) (fun _ _ _ h => h) (Or.inl ⟨by rfl, ?_⟩) (by assumption) ?_
      rotate_left
      · intro _ _; go_simp; with_reducible rfl
      simp only [Act.put, List.setIfInBounds_toArray, List.set_cons_zero, List.set_cons_succ, List.getElem_toArray, List.getElem_cons_zero, List.getElem_cons_succ]
      refine wpAnyH_take (i := 4) (v := .string q) rfl (by kernel_rfl) (by kernel_rfl) (by kernel_rfl) (fun _ _ _ h => h) (Or.inl ⟨by rfl, fun wq hC => by have hcell := HRC.out wq hC; go_simp; try with_reducible rfl⟩) (by assumption) ?_
      simp only [Act.put, List.setIfInBounds_toArray, List.set_cons_zero, List.set_cons_succ, List.getElem_toArray, List.getElem_cons_zero, List.getElem_cons_succ]
      refine wpAnyH_take (i := 5) (v := ?_) rfl (by kernel_rfl) (by kernel_rfl) (by kernel_rfl) (fun _ _ _ h => h) (Or.inl ⟨by rfl, ?_⟩) (by assumption) ?_
      rotate_left
      · intro _ _; go_simp; with_reducible rfl
      simp only [Act.put, List.setIfInBounds_toArray, List.set_cons_zero, List.set_cons_succ, List.getElem_toArray, List.getElem_cons_zero, List.getElem_cons_succ]
      refine wpAnyH_take (i := 6) (v := ?_) rfl (by kernel_rfl) (by kernel_rfl) (by kernel_rfl) (fun _ _ _ h => h) (Or.inl ⟨by rfl, ?_⟩) (by assumption) ?_
      rotate_left
      · intro _ _; go_simp; with_reducible rfl
      simp only [Act.put, List.setIfInBounds_toArray, List.set_cons_zero, List.set_cons_succ, List.getElem_toArray, List.getElem_cons_zero, List.getElem_cons_succ]
      refine wpAnyH_take (i := 7) (v := ?_) rfl (by kernel_rfl) (by kernel_rfl) (by kernel_rfl) (fun _ _ _ h => h) (Or.inl ⟨by rfl, ?_⟩) (by assumption) ?_
      rotate_left
      · intro _ _; go_simp; with_reducible rfl
      simp only [Act.put, List.setIfInBounds_toArray, List.set_cons_zero, List.set_cons_succ, List.getElem_toArray, List.getElem_cons_zero, List.getElem_cons_succ]
      refine wpAnyH_take (i := 8) (v := .string q) rfl (by kernel_rfl) (by kernel_rfl) (by kernel_rfl) (fun _ _ _ h => h) (Or.inl ⟨by rfl, fun wq hC => by have hcell := HRC.out wq hC; go_simp; try with_reducible rfl⟩) (by assumption) ?_
      simp only [Act.put, List.setIfInBounds_toArray, List.set_cons_zero, List.set_cons_succ, List.getElem_toArray, List.getElem_cons_zero, List.getElem_cons_succ]
      refine wpAnyH_ready (rs := [9]) (by kernel_rfl) (by simp) (AllReadyH.cons rfl (fun K1 hK1 => ?_) AllReadyH.nil)
      rw [if_pos (by rfl)]
      go_simp
      refine hK1.out _ _ (hkS.alloc hsz _) (fun _ => ?_)
      clear hK1 K1
      refine wpAnyH_ready (rs := [10]) (by kernel_rfl) (by simp) (AllReadyH.cons rfl (fun K1 hK1 => ?_) AllReadyH.nil)
      refine step_append_lies _ rfl _ _ _ rfl w.heap.size 9 i0 _ 1 16 Try.underlying22 hi hz0 hz1 hz2 rfl (by decide) _ _ _ rfl (HON.out.alloc _) ⟨wr.drew.heap.size, 0, none⟩ 2 2 [.string q, .string q] rfl rfl (World.news_of_block (t := 9) (fr := (0, 0)) (heap_alloc_new wr.drew _)) ?c1a (by omega) (by unfold maxLen; omega) (by omega) (by simp; exact Nat.le_trans hsz (by omega)) (wr.heap.size + 1) (by simp) ?_
      case c1a => intro y hy; simp at hy; subst hy; rfl
      intro g' cap' w1 hown1 hgrow _ _
      have hnew := HADD.out _ hgrow
      refine hK1.out _ _ hnew (fun _ => ?_)
      clear hK1 K1
      refine wpAnyH_ready (rs := [11]) (by kernel_rfl) (by simp) (AllReadyH.cons rfl (fun K1 hK1 => ?_) AllReadyH.nil)
      rw [if_pos (by rfl)]
      go_simp
      refine hK1.out _ _ hnew (fun _ => ?_)
      clear hK1 K1
      refine wpAnyH_done (by kernel_rfl) ?_ _
      go_wp2
      go_roundw
      case rel => exact ⟨j, m + 2, by omega, Lib.hid (by have := HMJ.out; omega), by go_num, Lib.hid (by rw [HST.out]; exact hown1), Lib.hid hnew⟩
      case measure => simp [intOf]
end Go.Proofs.Ytaaclhgnbdcaaaa
