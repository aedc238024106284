/- The walks of slices.Reverse at bytes, of freshText and firstBeside. -/
import Derived.Test.YtaaclhgnbdcaaaaSymbolAt
import Derived.Test.YtaaclhgnbdcaaaaSymbolSort
import Derived.Lib.SlicesMore
import Derived.Sort.Lot0
import Derived.Laws.OwnMore
namespace Go.Proofs.Ytaaclhgnbdcaaaa
open Go.RowKit Go.Maps
theorem swp_list (d : Array UInt8) (i j : Nat) : (Sort.swp d i j).toList = (d.toList.set i d[j]!).set j d[i]! := by simp [Sort.swp]
set_option maxRecDepth 100000 in
set_option maxHeartbeats 4000000 in
theorem reverse_calls (g cap B : Nat) (l : List UInt8) (w : World) (h : w.ownsRow B 5 1 (.slice (some ⟨g, 0, none⟩) l.length cap) l.length (l.map byteV)) (hn : l.length ≤ 2199023255552) :
    Calls Try.prog 49 #[.slice (some ⟨g, 0, none⟩) l.length cap] w fun e w' => e = .returned (.tuple #[]) ∧ w'.ownsRow B 5 1 (.slice (some ⟨g, 0, none⟩) l.length cap) l.length (l.reverse.map byteV) ∧ w.grownBy w' (some g) := by
  obtain ⟨n, hn'⟩ : ∃ n, l.length = n := ⟨_, rfl⟩
  have hg0 := h.lt g rfl
  have HR : Hid (Sort.reverseLoop 0 (n - 1) l.toArray = l.reverse.toArray) := Lib.hid (by rw [← hn']; exact Lib.reverseLoop_reverse_list l)
  have HOWN : Hid (w.ownsRow B 5 1 (.slice (some ⟨g, 0, none⟩) n cap) n (l.toArray.toList.map byteV)) := Lib.hid (by rw [← hn']; exact h)
  have HS : Hid (l.toArray.size = n) := Lib.hid (by simp [hn'])
  rw [hn'] at hn ⊢
  clear h hn'
  go_enter Try.func49, Try.ntmps49
  go_wp2
  go_loopw [2, 3] (fun s2 s3 wr => ∃ (i j : Nat) (d : Array UInt8), i ≤ n ∧ s2 = .int .i64 i ∧ s3 = .int .i64 ((j : Int) - 1) ∧ j ≤ n ∧ Hid (d.size = n) ∧ Hid (Sort.reverseLoop i (j - 1) d = l.reverse.toArray) ∧ Hid (wr.ownsRow B 5 1 (.slice (some ⟨g, 0, none⟩) n cap) n (d.toList.map byteV)) ∧ Hid (w.grownBy wr (some g))) (fun s2 _ _ => n - (intOf s2).toNat)
  case atStart => exact ⟨0, n, l.toArray, Nat.zero_le _, rfl, rfl, Nat.le_refl _, HS, HR, HOWN, Lib.hid (World.grownBy.refl _ _)⟩
  case round =>
    obtain ⟨i, j, d, hi, rfl, rfl, hj, HD, HL, HO, HG⟩ := hrel
    by_cases hlt : i + 1 < j
    · have h1 : (i : Int) < (j : Int) - 1 := by omega
      have hin : i < d.size := by have := HD.out; omega
      have hjn : j - 1 < d.size := by have := HD.out; omega
      have hci : wr.cell? ⟨g, i, none⟩ = some (.int .u8 (d[i]!.toNat : Int)) := by
        rw [HO.out.cellAt i (by omega), List.getElem?_map, Array.getElem?_toList, Array.getElem?_eq_getElem hin, getElem!_pos d i hin]; rfl
      have hcj : wr.cell? ⟨g, j - 1, none⟩ = some (.int .u8 (d[j - 1]!.toNat : Int)) := by
        rw [HO.out.cellAt (j - 1) (by omega), List.getElem?_map, Array.getElem?_toList, Array.getElem?_eq_getElem hjn, getElem!_pos d (j - 1) hjn]; rfl
      have hfi := HO.out.frozenAt i
      have hfj := HO.out.frozenAt (j - 1)
      obtain ⟨p, rfl⟩ : ∃ p, j = p + 1 := ⟨j - 1, by omega⟩
      rw [Nat.add_sub_cancel] at hcj hfj hjn HL
      have e1 : (((p + 1 : Nat) : Int) - 1) = (p : Int) := by omega
      have h2 : (i : Int) < (p : Int) := by omega
      obtain ⟨x, hx⟩ : ∃ x, d[i]! = x := ⟨_, rfl⟩
      obtain ⟨y, hy⟩ : ∃ y, d[p]! = y := ⟨_, rfl⟩
      rw [hx] at hci
      rw [hy] at hcj
      have HX := Lib.hid hx
      have HY := Lib.hid hy
      clear hx hy
      rw [e1]
      have HO2 := Lib.hid (HO.out.stored i (byteV y))
      have HO3 := Lib.hid (HO2.out.1.stored p (byteV x))
      have HL2 : Hid (Sort.reverseLoop (i + 1) (p - 1) (Sort.swp d i p) = l.reverse.toArray) := Lib.hid (by
        have := HL.out
        rw [Sort.reverseLoop, if_pos (by omega)] at this
        exact this)
      have HZ : Hid (((d.toList.map byteV).set i (byteV y)).set p (byteV x) = (Sort.swp d i p).toList.map byteV) := Lib.hid (by
        rw [swp_list, HX.out, HY.out, List.map_set, List.map_set])
      go_wp2_with fail
      go_region
      go_wp2
      go_roundw
      case rel =>
        refine ⟨i + 1, p, Sort.swp d i p, by omega, by go_num, by go_num, by omega, Lib.hid (by rw [Sort.size_swp]; exact HD.out), HL2, Lib.hid ?_, Lib.hid ?_⟩
        · rw [← HZ.out]; exact HO3.out.1
        · have g1 := HO2.out.2
          have g2 := HO3.out.2
          have g3 : w.grownBy ((wr.setCell ⟨g, i, none⟩ (byteV y)).setCell ⟨g, p, none⟩ (byteV x)) (some g) := (HG.out.trans g1).trans g2
          exact ⟨g3.os, g3.tape, g3.output, g3.size, g3.block⟩
      case measure => simp [intOf]; omega
    · have h2 : ¬ (i : Int) < (j : Int) - 1 := by omega
      have HE : Hid (d.toList = l.reverse) := Lib.hid (by
        have := HL.out
        rw [Sort.reverseLoop, if_neg (by omega)] at this
        rw [this])
      go_wp2
      go_end0
      exact ⟨rfl, by rw [← List.map_reverse, ← HE.out]; exact HO.out, HG.out⟩
/-- The bytes of which Fresh is made. -/
def freshB : ByteArray := ⟨#[97, 98, 99, 100, 101, 102, 103, 104, 105, 106, 107, 108, 109, 110, 111, 112, 113, 114, 115, 116, 117, 118, 119, 120, 121, 122, 48, 49, 50, 51, 52, 53, 54, 55, 56, 57, 45, 95]⟩
theorem freshB_at : ∀ k : Nat, (h : k < 38) → (freshB[k]'h).toNat = (Sy.chr (k + 1)).toNat := by decide +kernel
set_option maxRecDepth 100000 in
set_option maxHeartbeats 4000000 in
theorem freshText_calls (n : Nat) (w : World) (hn : n ≤ 1099511627776) :
    Calls Try.prog 35 #[.int .i64 (n : Int)] w (NewText w.heap.size (Sy.cand n) w) := by
  have HPost : Hid (∀ t w', t = (⟨(Sy.cand n).toArray⟩ : ByteArray) → Below w.heap.size w w' → NewText w.heap.size (Sy.cand n) w (.returned (.string t)) w') := Lib.hid (fun t w' h hb => ⟨by rw [h], hb⟩)
  have HC := Lib.hid (Sy.cand_digs n)
  have HL := Lib.hid (Sy.digs_length (n + 1))
  generalize NewText w.heap.size (Sy.cand n) w = post at *
  generalize Sy.cand n = z at *
  go_enter Try.func35, Try.ntmps35
  go_wp2
  go_loopw [0, 3] (fun i v wr => ∃ (m k : Nat) (p : List UInt8), m ≤ n + 1 ∧ k + m ≤ n + 1 ∧ i = .int .i64 ((m : Int) - 1) ∧ Hid (p.length = k) ∧ Hid (p ++ Sy.digs m = Sy.digs (n + 1)) ∧ wr.ownsRow w.heap.size 5 1 v k (p.map byteV) ∧ Below w.heap.size w wr) (fun i _ _ => (intOf i + 1).toNat)
  case atStart => exact ⟨n + 1, 0, [], Nat.le_refl _, by omega, by congr 1; omega, Lib.hid rfl, Lib.hid rfl, World.ownsRow_nil _ _ _ _, Below.refl _ _⟩
  case round =>
    obtain ⟨m, k, p, hm, hkm, rfl, HP, HD, hown, hb⟩ := hrel
    have HOWN := Lib.hid hown
    clear hown
    cases m with
    | zero =>
      have h1 : ¬ (0 : Int) ≤ ((0 : Nat) : Int) - 1 := by omega
      have HE : Hid (p = Sy.digs (n + 1)) := Lib.hid (by have := HD.out; rw [Sy.digs_zero, List.append_nil] at this; exact this)
      have hk0 : 0 < k := by
        have h2 := HP.out
        rw [HE.out, Sy.digs_succ, List.length_cons] at h2
        omega
      obtain ⟨A, c, rfl, hA⟩ := own_any HOWN.out
      obtain ⟨g, rfl⟩ := hA hk0
      have hpl : p.length ≤ 2199023255552 := by rw [HP.out]; omega
      have hR := reverse_calls g c w.heap.size p wr (by rw [HP.out]; exact HOWN.out) hpl
      rw [HP.out] at hR
      have HR := Lib.hid hR
      have hg := (HOWN.out.lt g rfl).1
      have HZ : Hid (⟨p.reverse.toArray⟩ = (⟨z.toArray⟩ : ByteArray)) := Lib.hid (by rw [HC.out, HE.out])
      have hbs := hb.size
      have hb0 := Lib.hid hb
      clear hR hA hpl
      go_wp2_with fail
      refine HR.out.mono ?_
      rintro e w2 ⟨rfl, hown2, hg2⟩
      have hconv := own_string hown2
      go_wp2
      exact HPost.out _ _ HZ.out (hb0.out.grown hg2 hbs (fun k hk => by have hk := Option.some.inj hk; omega))
    | succ m =>
      have e1 : (((m + 1 : Nat) : Int) - 1) = (m : Int) := by omega
      have h1 : (0 : Int) ≤ (m : Int) := by omega
      have hq : m % 38 < 38 := Nat.mod_lt _ (by decide)
      have HD2 : Hid (Sy.digs (m + 1) = Sy.chr (m % 38 + 1) :: Sy.digs (m / 38)) := Lib.hid (Sy.digs_succ m)
      have HB := Lib.hid (freshB_at (m % 38) hq)
      have hbs := hb.size
      rw [e1]
      have hq1 : (0 : Int) ≤ (m : Int) % 38 := by omega
      have hq2 : (m : Int) % 38 < 38 := by omega
      go_wp2_with (at_builtin; refine wpList_append_one rfl _ _ 55 rfl w.heap.size 5 (.int .u8 0) 1 Try.underlying55 infoU8 rfl _ k _ rfl HOWN.out rfl rfl (by omega) (by omega) hbs ?_; intro v' w2 hown2 hb2 _ _)
      go_roundw
      case rel =>
        refine ⟨m / 38, k + 1, p ++ [Sy.chr (m % 38 + 1)], by omega, by omega, by congr 1, Lib.hid (by rw [List.length_append, HP.out]; rfl), Lib.hid ?_, ?_, hb.trans hb2⟩
        · rw [List.append_assoc]
          show p ++ (Sy.chr (m % 38 + 1) :: Sy.digs (m / 38)) = _
          rw [← HD2.out]
          exact HD.out
        · rw [bytesV_snoc, ← HB.out]
          exact hown2
      case measure => simp [intOf]; omega
set_option maxRecDepth 100000 in
set_option maxHeartbeats 4000000 in
theorem firstBeside_calls (mb n : Nat) (l t : List (List UInt8)) (w : World) (h : PlacesAt w mb n t) (hS : Sy.Sorted l t) (hl : l.length ≤ 1048576) :
    Calls Try.prog 26 #[.map (some mb)] w (NewText w.heap.size (Sy.fresh l) w) := by
  obtain ⟨K, hK, hF, hno, hall⟩ := Sy.fresh_is l
  have HPost : Hid (∀ (t : ByteArray) w', t.data.toList = Sy.fresh l → Below w.heap.size w w' → NewText w.heap.size (Sy.fresh l) w (.returned (.string t)) w') := Lib.hid (fun t w' h hb => ⟨by rw [← h], hb⟩)
  generalize NewText w.heap.size (Sy.fresh l) w = post at *
  generalize Sy.fresh l = z at *
  have HF := Lib.hid hF
  have HNO := Lib.hid hno
  have HALL := Lib.hid hall
  have HMEM := Lib.hid hS.mem
  have HM := Lib.hid h
  clear hF hno hall hS h
  go_enter Try.func26, Try.ntmps26
  go_wp2
  go_loopw [3] (fun i wr => ∃ k : Nat, k ≤ K ∧ i = .int .i64 k ∧ Below w.heap.size w wr) (fun i _ => K + 1 - (intOf i).toNat)
  case atStart => exact ⟨0, Nat.zero_le _, rfl, Below.refl _ _⟩
  case round =>
    obtain ⟨k, hk, rfl, hb⟩ := hrel
    have HT := Lib.hid (fun W => freshText_calls k W (by omega))
    obtain ⟨q, hq, hqd, hqs⟩ := text_of (Sy.cand k)
    have hcl : (Sy.cand k).length ≤ k + 1 := by rw [Sy.cand_digs, List.length_reverse]; exact Sy.digs_length _
    unfold NewText at HT
    rw [← hq] at HT
    have HKEY := Lib.hid (str_key (s := q) (by unfold maxLen; omega))
    have HQ := Lib.hid hqd
    have hbs := hb.size
    clear hq hqd hqs hcl
    by_cases hkK : k = K
    · have HIN : Hid (decide (q.data.toList ∈ t) = false) := Lib.hid (decide_eq_false (fun e => by
        rw [HQ.out, hkK] at e
        exact HNO.out ((HMEM.out _).1 e)))
      have HZ : Hid (q.data.toList = z) := Lib.hid (by rw [HQ.out, hkK, HF.out])
      clear hkK
      go_wp2_with fail
      refine (HT.out _).mono ?_
      rintro e w2 ⟨rfl, hb2⟩
      have hbb := hb.trans (hb2.mono hbs)
      obtain ⟨D, hown, hhas, hat⟩ := (HM.out.stays hbb).map
      have HH := Lib.hid (hhas q.data.toList)
      rw [HIN.out] at HH
      have HOWN := Lib.hid hown
      clear hown hhas hat
      go_wp2_with (at_lookup; refine wpList_lookup_own_ok_int _ rfl _ _ 46 rfl 9 3 .i64 strLaw Try.underlying46 Try.underlying3 (zeroInt14 _) mb n D rfl HOWN.out _ _ rfl HKEY.out ?_; intro c hc hwc; clear hc hwc; rw [HH.out])
      exact HPost.out _ _ HZ.out hbb
    · have hlt : k < K := by omega
      have HIN : Hid (decide (q.data.toList ∈ t) = true) := Lib.hid (decide_eq_true (by
        rw [HQ.out]
        exact (HMEM.out _).2 (HALL.out k hlt)))
      clear hkK
      go_wp2_with fail
      refine (HT.out _).mono ?_
      rintro e w2 ⟨rfl, hb2⟩
      have hbb := hb.trans (hb2.mono hbs)
      obtain ⟨D, hown, hhas, hat⟩ := (HM.out.stays hbb).map
      have HH := Lib.hid (hhas q.data.toList)
      rw [HIN.out] at HH
      have HOWN := Lib.hid hown
      clear hown hhas hat
      go_wp2_with (at_lookup; refine wpList_lookup_own_ok_int _ rfl _ _ 46 rfl 9 3 .i64 strLaw Try.underlying46 Try.underlying3 (zeroInt14 _) mb n D rfl HOWN.out _ _ rfl HKEY.out ?_; intro c hc hwc; clear hc hwc; rw [HH.out])
      go_roundw
      case rel => exact ⟨k + 1, by omega, by go_num, hbb⟩
      case measure => simp [intOf]; omega
end Go.Proofs.Ytaaclhgnbdcaaaa
