/- The walk of V6. -/
import Derived.Test.YtkajddopjflniaaGreatDoorCells
import Derived.Test.YtkajddopjflniaaGreatDoorStd
import Derived.Laws.CopyOwn
import Derived.Deep.MidRow
import Derived.Test.YtkajddopjflniaaGreatDoorOctets
import Derived.Deep.RegionHeld3
import Derived.Test.YtkajddopjflniaaGreatDoorPlains
namespace Go.Proofs.YtkajddopjflniaaGreatDoor
open Go.RowKit
theorem fits_two (n m : Nat) (gap : Bool) (w : World) (hn : n + m ≤ 1099511627776) :
    Calls Tryz.prog 84 #[.int .i64 ((n : Int) + (m : Int)), .bool gap] w fun e w' => e = .returned (.bool (Adr.fits (n + m) gap)) ∧ w = w' := by
  rw [show (n : Int) + (m : Int) = ((n + m : Nat) : Int) by omega]
  exact fits_calls (n + m) gap w hn
namespace Adr
theorem row_length (s : List UInt8) : (row s).length ≤ s.length + 1 := by
  unfold row
  split
  · simp
  · rw [List.length_map]; exact Oct.split_length 58 s
theorem cut_small (s : List UInt8) : (Lib.cut s [58, 58]).1.length ≤ s.length ∧ (Lib.cut s [58, 58]).2.1.length ≤ s.length := by
  unfold Lib.cut
  split
  · simp; omega
  · simp
theorem v6_some {s b h : List UInt8} {gap : Bool} (hc : Lib.cut s [58, 58] = (b, h, gap)) (h1 : isRow b = true) (h2 : isRow h = true) (h3 : fits ((row b).length + (row h).length) gap = true) :
    v6 s = some (row b ++ List.replicate (8 - ((row b).length + (row h).length)) 0 ++ row h) := by
  unfold v6; rw [hc]; simp only; rw [if_pos ⟨h1, h2, h3⟩]
theorem v6_none {s b h : List UInt8} {gap : Bool} (hc : Lib.cut s [58, 58] = (b, h, gap)) (hn : isRow b = false ∨ isRow h = false ∨ fits ((row b).length + (row h).length) gap = false) : v6 s = none := by
  unfold v6; rw [hc]; simp only
  refine if_neg fun ⟨h1, h2, h3⟩ => ?_
  rcases hn with hn | hn | hn
  · rw [hn] at h1; cases h1
  · rw [hn] at h2; cases h2
  · rw [hn] at h3; cases h3
theorem fits_le {n : Nat} {gap : Bool} (h : fits n gap = true) : n ≤ 8 := by
  unfold fits at h
  split at h <;> (have := of_decide_eq_true h; omega)
end Adr
theorem infoWordSize : (Tryz.prog.info? 84).map (·.size) = some 1 := by kernel_rfl
/-- The address of a text, and whether it is one; new memory. -/
def NewAddr (a : List UInt8) (ok : Bool) (w : World) (e : Ending) (w' : World) : Prop := e = .returned (.tuple #[.agg (bytesA a), .bool ok]) ∧ Below w.heap.size w w'

theorem no_addr {s : List UInt8} (h : Adr.v6 s = none) : NewAddr (Adr.addrOf (Adr.v6 s)) (Adr.v6 s).isSome = NewAddr zA false := by rw [h]; rfl
theorem copy_len (r : List UInt16) (n : Nat) (h : r.length ≤ n) : Hid ((r.map wordV).length = Nat.min r.length n) := by
  show (r.map wordV).length = Nat.min r.length n
  rw [List.length_map]; exact (Nat.min_eq_left h).symm
theorem copy_src {w w' : World} {A : Option Addr} {r : List UInt16} {B : Nat} (h : 0 < r.length → ∃ g, A = some ⟨g, 0, none⟩ ∧ B ≤ g ∧ Row w g 84 (wordsA r)) (hb : Below w.heap.size w w') :
    Hid (0 < (r.map wordV).length → ∃ ad, A = some ad ∧ ∀ j v, (r.map wordV)[j]? = some v → w'.cell? (ad.add j) = some v) := by
  intro hp
  rw [List.length_map] at hp
  obtain ⟨g, e, hg, hr⟩ := h hp
  refine ⟨_, e, fun j v hj => ?_⟩
  have R := hr.stays hb
  rw [Addr.add_mid, Nat.zero_add, R.cell, wordsA, List.getElem?_toArray]
  exact hj
theorem lenGroups : Tryz.prog.arrayLen 85 = 8 := by kernel_rfl
theorem elemGroups : Tryz.prog.elem 85 = 84 := by kernel_rfl
theorem slice_tail (g m : Nat) (hm : m ≤ 8) : ∃ A : Addr, (0 < m → A = ⟨g, 8 - m, none⟩) ∧
    ∀ W, (Instr.sliceAt 85 (.pointer (some ⟨g, 0, none⟩)) (some (.int .i64 (8 - (m : Int)))) none none).run Tryz.prog W = .ok (.slice (some A) m m) W := by
  refine ⟨if 8 = 8 - m then ⟨g, 0, none⟩ else (⟨g, 0, none⟩ : Addr).add ((8 - m) * 1), fun h => ?_, fun W => ?_⟩
  · rw [if_neg (by omega), Addr.add_mid, Nat.zero_add, Nat.mul_one]
  · have ht : Tryz.prog.underlying 85 = some (.array (Tryz.prog.arrayLen 85) (Tryz.prog.elem 85)) := by rw [lenGroups, elemGroups]; exact Tryz.underlying85
    rw [run_sliceAt_array_l W 85 ⟨g, 0, none⟩ ht .i64 (8 - (m : Int)) (by omega) (by rw [lenGroups]; omega), elemGroups]
    have hs : (sizeOf 84).run Tryz.prog W = .ok 1 W := by kernel_rfl
    rw [hs, Result.andThen_ok, lenGroups, slicedAt]
    have e : (8 - (m : Int)).toNat = 8 - m := by omega
    have e2 : 8 - (8 - m) = m := by omega
    rw [e, e2]
theorem splice_map {α β : Type} (f : α → β) (l : List α) (o : Nat) (c : List α) : splice (l.map f) o (c.map f) = (splice l o c).map f := by
  unfold splice; simp [List.map_take, List.map_drop]
theorem splice_groups (b h : List UInt16) (hle : b.length + h.length ≤ 8) : splice (splice zG 0 b) (8 - h.length) h = b ++ List.replicate (8 - (b.length + h.length)) 0 ++ h := by
  unfold splice zG
  have e1 : b ++ List.drop (0 + b.length) (List.replicate 8 (0 : UInt16)) = b ++ List.replicate (8 - b.length) 0 := by rw [Nat.zero_add, List.drop_replicate]
  have e2 : ([] : List UInt16) ++ (b ++ List.replicate (8 - b.length) 0) = b ++ List.replicate (8 - b.length) 0 := rfl
  rw [List.take_zero, e1, e2, List.take_append, List.take_of_length_le (by omega), List.take_replicate, List.drop_eq_nil_of_le (by simp; omega), List.append_nil]
  have e3 : min (8 - h.length - b.length) (8 - b.length) = 8 - (b.length + h.length) := by omega
  rw [e3]
theorem row_groups {w : World} {g : Nat} (b h : List UInt16) (hle : b.length + h.length ≤ 8) (hw : w.heap[g]? = some (.cells (splice (splice (zG.map wordV) 0 (b.map wordV)) (8 - h.length) (h.map wordV)).toArray 85 (0, 0))) :
    Row w g 85 (wordsA (b ++ List.replicate (8 - (b.length + h.length)) 0 ++ h)) := by
  rw [splice_map, splice_map, splice_groups b h hle] at hw
  exact hw
theorem words_one (r : List UInt16) : ∀ v ∈ r.map wordV, v.oneCell' = true := by
  intro v hv; obtain ⟨x, _, rfl⟩ := List.mem_map.1 hv; rfl

set_option maxHeartbeats 2000000 in
theorem v6_calls (s : ByteArray) (w : World) (hw : Std w) (hs : s.size ≤ 1048576) :
    Calls Tryz.prog 67 #[.string s] w (NewAddr (Adr.addrOf (Adr.v6 s.data.toList)) (Adr.v6 s.data.toList).isSome w) := by
  have hcs := Adr.cut_small s.data.toList
  rw [Oct.length_bytes] at hcs
  have HC := Lib.hid (fun W (h : Std W) => cut_calls s ⟨#[58, 58]⟩ W h (by omega))
  have esep : (⟨#[58, 58]⟩ : ByteArray).data.toList = [58, 58] := rfl
  rw [esep] at HC
  clear esep
  generalize hcut : Lib.cut s.data.toList [58, 58] = c at *
  obtain ⟨b, h, gap⟩ := c
  have HCUT := Lib.hid hcut
  clear hcut
  simp only at HC hcs
  have lb := Adr.row_length b
  have lh := Adr.row_length h
  obtain ⟨sb, hsb⟩ : ∃ x : ByteArray, x = ⟨b.toArray⟩ := ⟨_, rfl⟩
  obtain ⟨sh, hsh⟩ : ∃ x : ByteArray, x = ⟨h.toArray⟩ := ⟨_, rfl⟩
  have zb : sb.size = b.length := by rw [hsb]; exact List.size_toArray
  have zh : sh.size = h.length := by rw [hsh]; exact List.size_toArray
  have RB := Lib.hid (fun W => row_calls sb W (by omega))
  have RH := Lib.hid (fun W => row_calls sh W (by omega))
  have eb : sb.data.toList = b := by rw [hsb]
  have eh : sh.data.toList = h := by rw [hsh]
  rw [eb] at RB
  rw [eh] at RH
  rw [← hsb, ← hsh] at HC
  clear hsb hsh zb zh eb eh
  have z1 := bytesA_zA
  have z2 := wordsA_zG
  go_enter Tryz.func67, Tryz.ntmps67
  go_wp2_with fail
  have H0 := hw.below ((Below.refl _ _).alloc (Nat.le_refl _) (.cells (bytesA zA) 23))
  have R0 := Row.new w 23 (bytesA zA)
  have B0 := (Below.refl w.heap.size w).alloc (Nat.le_refl _) (.cells (bytesA zA) 23)
  have s0 : w.heap.size < (w.alloc (.cells (bytesA zA) 23)).heap.size := by simp
  generalize w.alloc (.cells (bytesA zA) 23) = w0 at *
  refine (HC.out _ H0).mono ?_
  rintro e w1 ⟨rfl, b1⟩
  have R1 := R0.stays b1
  have B1 := B0.trans (b1.mono (Nat.le_of_lt s0))
  have s1 := b1.size
  clear R0 B0 b1 HC H0
  go_wp2_with fail
  refine (RB.out _).mono ?_
  rintro e w2 hr
  obtain ⟨b2, hr⟩ := hr.parts
  have R2 := R1.stays b2
  have B2 := B1.trans (b2.mono (by omega))
  have s2 := b2.size
  clear R1 B1 b2
  cases hf : Adr.fits ((Adr.row b).length + (Adr.row h).length) gap with
  | true =>
    have hle := Adr.fits_le hf
    have FT := Lib.hid (fun W => fits_two (Adr.row b).length (Adr.row h).length gap W (by omega))
    rw [hf] at FT
    have HF := Lib.hid hf
    clear hf
    rcases hr with ⟨y1, rfl⟩ | ⟨y1, A, rfl, hA⟩
    · have HN := Lib.hid (no_addr (Adr.v6_none HCUT.out (.inl y1)))
      clear y1
      go_wp2_with fail
      refine (RH.out _).mono ?_
      rintro e w3 hr
      obtain ⟨b3, hr⟩ := hr.parts
      have R3 := R2.stays b3
      have B3 := B2.trans (b3.mono (by omega))
      clear R2 B2 b3
      rcases hr with ⟨y2, rfl⟩ | ⟨y2, A2, rfl, hA2⟩
      all_goals
        clear y2
        go_wp2_with (refine wpList_store_row rfl 23 _ _ rfl w.heap.size (bytesA zA) rfl rfl 23 _ R3 infoAddr rfl (bytesA_one _) ?_)
        rw [HN.out]
        exact bodyPost_ret (results_cell_two rfl _ _ w.heap.size _ _ _ rfl _ rfl (R3.whole _) Tryz.underlying23 rfl infoAddr) rfl ⟨rfl, below_setRow B3 (Nat.le_refl _) _⟩
    · have HY1 := Lib.hid y1
      clear y1
      go_wp2_with fail
      refine (RH.out _).mono ?_
      rintro e w3 hr
      obtain ⟨b3, hr⟩ := hr.parts
      have R3 := R2.stays b3
      have B3 := B2.trans (b3.mono (by omega))
      have hA3 : 0 < (Adr.row b).length → ∃ g, A = some ⟨g, 0, none⟩ ∧ w1.heap.size ≤ g ∧ Row w3 g 84 (wordsA (Adr.row b)) := fun hp => by
        obtain ⟨g, e, hg, hr⟩ := hA hp
        exact ⟨g, e, hg, hr.stays b3⟩
      have s3 := b3.size
      clear R2 B2 b3 hA
      rcases hr with ⟨y2, rfl⟩ | ⟨y2, A2, rfl, hA2⟩
      · have HN := Lib.hid (no_addr (Adr.v6_none HCUT.out (.inr (.inl y2))))
        clear y2
        go_wp2_with (refine wpList_store_row rfl 23 _ _ rfl w.heap.size (bytesA zA) rfl rfl 23 _ R3 infoAddr rfl (bytesA_one _) ?_)
        rw [HN.out]
        exact bodyPost_ret (results_cell_two rfl _ _ w.heap.size _ _ _ rfl _ rfl (R3.whole _) Tryz.underlying23 rfl infoAddr) rfl ⟨rfl, below_setRow B3 (Nat.le_refl _) _⟩
      · have HS := Lib.hid (Adr.v6_some HCUT.out HY1.out y2 HF.out)
        have HG := Lib.hid (show (Adr.row b ++ List.replicate (8 - ((Adr.row b).length + (Adr.row h).length)) 0 ++ Adr.row h).length = 8 by simp; omega)
        clear y2
        have HA3 := Lib.hid hA3
        have HA2 := Lib.hid hA2
        clear hA3 hA2
        have P1 := copy_len (Adr.row b) 8 (by omega)
        have P2 := copy_src HA3.out ((Below.refl w3.heap.size w3).alloc (Nat.le_refl _) (.cells (wordsA zG) 85))
        have P3 := Lib.hid (show 0 + ((Adr.row b).map wordV).length ≤ (zG.map wordV).length by simp [zG_length]; omega)
        have Q1 := copy_len (Adr.row h) (Adr.row h).length (Nat.le_refl _)
        obtain ⟨A3, hA3, hsl⟩ := slice_tail w3.heap.size (Adr.row h).length (by omega)
        have HA4 := Lib.hid hA3
        clear hA3
        have Q3 := Lib.hid (show 8 - (Adr.row h).length + ((Adr.row h).map wordV).length ≤ (splice (zG.map wordV) 0 ((Adr.row b).map wordV)).length by rw [length_splice _ _ _ P3.out, List.length_map, List.length_map, zG_length]; omega)
        go_wp2_with (first
          | (go_at_call 84; refine (FT.out _).mono ?_; rintro e w4 ⟨rfl, rfl⟩)
          | (refine at_slot 47 rfl ?_
             refine wpList_copy_splice rfl (.tmp 45) (.tmp 46) 90 90 rfl 84 Tryz.underlying90 infoWordSize (some ⟨w3.heap.size, 0, none⟩) A 8 8 (Adr.row b).length (Adr.row b).length rfl rfl
               w3.heap.size 0 (zG.map wordV) 85 (Row.new w3 85 (wordsA zG)) ((Adr.row b).map wordV) P1.out (fun hp => ⟨rfl, P2.out hp⟩) P3.out (words_one _) w3.heap.size _ (Below.refl _ _) (Nat.le_refl _) ?_
             intro w4 hw4 hb4
             have HB4 := Lib.hid (((Below.refl w3.heap.size w3).alloc (Nat.le_refl _) (.cells (wordsA zG) 85)).trans hb4)
             have s4 : w3.heap.size < w4.heap.size := by have := hb4.size; simp at this; omega
             have Q2 := copy_src HA2.out HB4.out
             clear hb4)
          | (refine at_slot 53 rfl ?_
             refine wpList_copy_splice rfl (.tmp 51) (.tmp 52) 90 90 rfl 84 Tryz.underlying90 infoWordSize (some A3) A2 (Adr.row h).length (Adr.row h).length (Adr.row h).length (Adr.row h).length rfl rfl
               w3.heap.size (8 - (Adr.row h).length) (splice (zG.map wordV) 0 ((Adr.row b).map wordV)) 85 hw4.out ((Adr.row h).map wordV) Q1.out (fun hp => ⟨by rw [HA4.out (by simpa using hp)], Q2.out hp⟩) Q3.out (words_one _) w3.heap.size _ (Below.refl _ _) (Nat.le_refl _) ?_
             intro w5 hw5 hb5
             have HB5 := Lib.hid (HB4.out.trans hb5)
             have R5 := row_groups (Adr.row b) (Adr.row h) hle hw5.out
             generalize Adr.row b ++ List.replicate (8 - ((Adr.row b).length + (Adr.row h).length)) 0 ++ Adr.row h = G at *
             have R6 := R3.stays HB5.out
             have HT := Lib.hid (fun W => from_calls G HG.out W)
             have HZ := Lib.hid (show (wordsA G).size = 8 by rw [wordsA_size, HG.out])
             clear hb5)
          | (refine at_slot 54 rfl ?_
             refine wpList_load_row rfl 85 _ rfl w3.heap.size rfl 85 _ (0, 0) _ R5 Tryz.underlying85 rfl (by rw [HZ.out]; exact infoGroups) ?_)
          | (go_at_call 85
             refine (HT.out _).mono ?_
             rintro e w6 ⟨rfl, b6⟩
             have R7 := R6.stays b6
             have HZ2 := Lib.hid (show (bytesA (Adr.from_ G)).size = 16 by rw [bytesA_size, Adr.from_length, HG.out]))
          | (refine wpList_store_row rfl 23 _ _ rfl w.heap.size (bytesA (Adr.from_ G)) rfl rfl 23 _ R7 (by rw [HZ2.out]; exact infoAddr) (by rw [HZ2.out]; rfl) (bytesA_one _) ?_))
        rw [HS.out]
        have s35 : w3.heap.size ≤ w5.heap.size := HB5.out.size
        have s03 : w.heap.size ≤ w3.heap.size := B3.size
        have B6 := B3.trans ((HB5.out.trans (b6.mono s35)).mono s03)
        exact bodyPost_ret (results_cell_two rfl _ _ w.heap.size _ _ _ rfl _ rfl (R7.whole _) Tryz.underlying23 rfl (by rw [HZ2.out]; exact infoAddr)) rfl ⟨rfl, below_setRow B6 (Nat.le_refl _) _⟩
  | false =>
    have HN := Lib.hid (no_addr (Adr.v6_none HCUT.out (.inr (.inr hf))))
    have FT := Lib.hid (fun W => fits_two (Adr.row b).length (Adr.row h).length gap W (by omega))
    rw [hf] at FT
    have HF := Lib.hid hf
    clear hf
    rcases hr with ⟨y1, rfl⟩ | ⟨y1, A, rfl, hA⟩
    all_goals
      have HY1 := Lib.hid y1
      clear y1
      go_wp2_with fail
      refine (RH.out _).mono ?_
      rintro e w3 hr
      obtain ⟨b3, hr⟩ := hr.parts
      have R3 := R2.stays b3
      have B3 := B2.trans (b3.mono (by omega))
      clear R2 B2 b3
      rcases hr with ⟨y2, rfl⟩ | ⟨y2, A2, rfl, hA2⟩
      all_goals
        have HY2 := Lib.hid y2
        clear y2
        go_wp2_with (first
          | (go_at_call 84; refine (FT.out _).mono ?_; rintro e w4 ⟨rfl, rfl⟩)
          | (refine wpList_store_row rfl 23 _ _ rfl w.heap.size (bytesA zA) rfl rfl 23 _ R3 infoAddr rfl (bytesA_one _) ?_))
        rw [HN.out]
        exact bodyPost_ret (results_cell_two rfl _ _ w.heap.size _ _ _ rfl _ rfl (R3.whole _) Tryz.underlying23 rfl infoAddr) rfl ⟨rfl, below_setRow B3 (Nat.le_refl _) _⟩
end Go.Proofs.YtkajddopjflniaaGreatDoor
/- The walk of V4. -/
namespace Go.Proofs.YtkajddopjflniaaGreatDoor
open Go.RowKit
namespace Adr
def nums (ps : List (List UInt8)) : List UInt8 := ps.map fun p => UInt8.ofNat (Oct.number p)
theorem nums_length (ps : List (List UInt8)) : (nums ps).length = ps.length := by simp [nums]
theorem nums_at {ps : List (List UInt8)} {k : Nat} {p : List UInt8} (h : ps[k]? = some p) : (nums ps)[k]? = some (UInt8.ofNat (Oct.number p)) := by simp [nums, h]
theorem v4_count {s : List UInt8} (h : (Oct.split 46 s).length ≠ 4) : v4 s = none := by unfold v4; rw [if_neg fun h1 => h h1.1]
theorem v4_no {s : List UInt8} {k : Nat} {p : List UInt8} (hp : (Oct.split 46 s)[k]? = some p) (hn : okNum p = false) : v4 s = none := by
  unfold v4
  rw [if_neg fun h1 => ?_]
  have := List.all_eq_true.1 h1.2 p (List.mem_of_getElem? hp)
  rw [hn] at this; cases this
theorem v4_yes {s : List UInt8} (h : (Oct.split 46 s).length = 4) (ha : (Oct.split 46 s).all okNum = true) : v4 s = some (nums (Oct.split 46 s)) := by unfold v4; rw [if_pos ⟨h, ha⟩]; rfl
theorem num_more {ps : List (List UInt8)} {k : Nat} {p : List UInt8} (h : (ps.take k).all okNum = true) (hp : ps[k]? = some p) (hq : okNum p = true) : (ps.take (k + 1)).all okNum = true := by
  rw [List.all_eq_true] at h ⊢
  exact Oct.take_more (Q := fun p => okNum p = true) h hp hq
theorem okNum_cases (p : List UInt8) : (okNum p = false ∧ Oct.isNum p = false) ∨ (okNum p = false ∧ Oct.isNum p = true ∧ 255 < Oct.number p) ∨ (okNum p = true ∧ Oct.isNum p = true ∧ Oct.number p ≤ 255) := by
  unfold okNum
  cases h : Oct.isNum p
  · exact .inl ⟨by simp, rfl⟩
  · by_cases h2 : Oct.number p ≤ 255
    · exact .inr (.inr ⟨by simp [h2], rfl, h2⟩)
    · exact .inr (.inl ⟨by simp [h2], rfl, by omega⟩)
theorem number_big (p : List UInt8) : Oct.number p ≤ 999999999999999999 := by
  unfold Oct.number
  split
  · rename_i h
    unfold Oct.isNum at h
    rw [Bool.and_eq_true, Bool.and_eq_true] at h
    obtain ⟨⟨hd, hl⟩, _⟩ := h
    have hl := of_decide_eq_true hl
    have := Oct.numOf_lt (s := ⟨p.toArray⟩) hd p.length (by show p.length ≤ p.toArray.size; simp)
    rw [List.take_of_length_le (by show p.toArray.toList.length ≤ _; simp)] at this
    have h2 : 10 ^ p.length ≤ 10 ^ 18 := Nat.pow_le_pow_right (by omega) hl
    have e : (⟨p.toArray⟩ : ByteArray).data.toList = p := rfl
    rw [e] at this
    omega
  · omega
end Adr
def zF : List UInt8 := List.replicate 4 0
theorem bytes4 : #[Value.int .u8 0, .int .u8 0, .int .u8 0, .int .u8 0] = bytesA zF := by rfl
theorem fill_zF (l : List UInt8) : Adr.fill l 0 4 0 = zF := Adr.fill_zero l 0 4
theorem infoByteSize : (Tryz.prog.info? 5).map (·.size) = some 1 := by kernel_rfl
theorem bytes_one (r : List UInt8) : ∀ v ∈ r.map byteV, v.oneCell' = true := by
  intro v hv; obtain ⟨x, _, rfl⟩ := List.mem_map.1 hv; rfl
theorem splice_end (l : List UInt8) (hl : l.length = 4) : splice zA 12 l = List.replicate 12 0 ++ l := by
  unfold splice zA
  rw [List.take_replicate, List.drop_eq_nil_of_le (by simp; omega), List.append_nil]; rfl
theorem row_end {w : World} {g : Nat} (l : List UInt8) (hl : l.length = 4) (hw : w.heap[g]? = some (.cells (splice (zA.map byteV) 12 (l.map byteV)).toArray 23 (0, 0))) : Row w g 23 (bytesA (List.replicate 12 0 ++ l)) := by
  rw [splice_map, splice_end l hl] at hw
  exact hw
theorem row_source {w : World} {g : Nat} {t : TypeId} {l : List UInt8} (h : Row w g t (bytesA l)) : ∀ j v, (l.map byteV)[j]? = some v → w.cell? ((⟨g, 0, none⟩ : Addr).add j) = some v := by
  intro j v hj
  rw [Addr.add_mid, Nat.zero_add, h.cell, bytesA, List.getElem?_toArray]
  exact hj

set_option maxHeartbeats 2000000 in
theorem v4_calls (s : ByteArray) (w : World) (hs : s.size ≤ 1048576) :
    Calls Tryz.prog 68 #[.string s] w (NewAddr (Adr.addr4 (Adr.v4 s.data.toList)) (Adr.v4 s.data.toList).isSome w) := by
  have hlen := Oct.split_length 46 s.data.toList
  have hp := Oct.split_pos 46 s.data.toList
  have hsm := Oct.split_small 46 s.data.toList
  rw [Oct.length_bytes] at hlen hsm
  obtain ⟨ps, hps⟩ : ∃ ps, ps = Oct.split 46 s.data.toList := ⟨_, rfl⟩
  rw [← hps] at hlen hp hsm
  have HP := Lib.hid hps
  have HSM := Lib.hid hsm
  have HC : ∀ W, Calls Tryz.prog 46 #[.string s, .int .u8 46] W (NewTextsAt W.heap.size ps W) := fun W => by rw [hps]; exact split_at s 46 W (by omega)
  have HCC := Lib.hid HC
  clear hps HC hsm
  have z1 := bytesA_zA
  go_enter Tryz.func68, Tryz.ntmps68
  go_wp2_with fail
  have R0 := Row.new w 23 (bytesA zA)
  have B0 := (Below.refl w.heap.size w).alloc (Nat.le_refl _) (.cells (bytesA zA) 23)
  have s0 : w.heap.size < (w.alloc (.cells (bytesA zA) 23)).heap.size := by simp
  generalize w.alloc (.cells (bytesA zA) 23) = w0 at *
  refine (HCC.out _).mono ?_
  rintro e w1 ⟨g, cap, rfl, hown, hb⟩
  have R1 := R0.stays hb
  have B1 := B0.trans (hb.mono (Nat.le_of_lt s0))
  have s1 := hb.size
  have hgl := (hown.lt g rfl)
  clear R0 B0 hb
  by_cases h4 : ps.length = 4
  · have HL := Lib.hid h4
    have h4b : ((ps.length : Int) != 4) = false := by rw [h4]; rfl
    clear h4
    have z4 := bytes4
    go_wp2
    have hown2 := hown.alloc (.cells (bytesA zF) 98)
    have R2 := R1.alloc (.cells (bytesA zF) 98)
    have F2 := Row.new w1 98 (bytesA zF)
    rw [← fill_zF (Adr.nums ps)] at F2
    have B2 := B1.alloc (by omega) (.cells (bytesA zF) 98)
    have n1 : w0.heap.size ≤ w1.heap.size := s1
    generalize w1.heap.size = N at *
    clear hown R1 B1
    have HLN := Lib.hid (show (Adr.nums ps).length = 4 by rw [Adr.nums_length, HL.out])
    go_loopw [16] (fun i wr => ∃ k : Nat, k ≤ 4 ∧ i = .int .i64 k ∧ wr.ownsRow w0.heap.size 9 1 (.slice (some ⟨g, 0, none⟩) ps.length cap) ps.length (ps.map strV) ∧ Row wr w.heap.size 23 (bytesA zA) ∧ Row wr N 98 (bytesA (Adr.fill (Adr.nums ps) 0 4 k)) ∧ (ps.take k).all Adr.okNum = true ∧ Below w.heap.size w wr) (fun i _ => 4 - (intOf i).toNat)
    case atStart => exact ⟨0, Nat.zero_le _, rfl, hown2, R2, F2, by simp, B2⟩
    case round =>
      clear hown2 R2 F2 B2
      obtain ⟨k, hk, rfl, hown, R, F, hall, hb⟩ := hrel
      have HA := Lib.hid hall
      clear hall
      by_cases hlt : k < 4
      · have hkl : k < ps.length := by rw [HL.out]; exact hlt
        obtain ⟨p, t, h1, hcell, h3, _, h5⟩ := own_cell hown hkl
        have hpl := HSM.out p (List.mem_of_getElem? h1)
        have ht : t.size ≤ maxLen := by unfold maxLen; omega
        have HC := Lib.hid (fun W => number_calls t W ht)
        rw [h3] at HC
        have H1 := Lib.hid h1
        have hbig := Adr.number_big p
        clear h1 h3 h5 hpl ht
        rcases Adr.okNum_cases p with ⟨hk1, hk2⟩ | ⟨hk1, hk2, hk3⟩ | ⟨hk1, hk2, hk3⟩
        · have HN := Lib.hid (show NewAddr (Adr.addr4 (Adr.v4 s.data.toList)) (Adr.v4 s.data.toList).isSome = NewAddr zA false by rw [Adr.v4_no (by rw [← HP.out]; exact H1.out) hk1]; rfl)
          rw [hk2] at HC
          clear hk1 hk2
          go_wp2_with (first
            | (go_at_call 86; refine (HC.out _).mono ?_; rintro e w' ⟨rfl, rfl⟩)
            | (refine wpList_store_row rfl 23 _ _ rfl w.heap.size (bytesA zA) rfl rfl 23 _ R infoAddr rfl (bytesA_one _) ?_))
          rw [HN.out]
          exact bodyPost_ret (results_cell_two rfl _ _ w.heap.size _ _ _ rfl _ rfl (R.whole _) Tryz.underlying23 rfl infoAddr) rfl ⟨rfl, below_setRow hb (Nat.le_refl _) _⟩
        · have HN := Lib.hid (show NewAddr (Adr.addr4 (Adr.v4 s.data.toList)) (Adr.v4 s.data.toList).isSome = NewAddr zA false by rw [Adr.v4_no (by rw [← HP.out]; exact H1.out) hk1]; rfl)
          rw [hk2] at HC
          clear hk1 hk2
          go_wp2_with (first
            | (go_at_call 86; refine (HC.out _).mono ?_; rintro e w' ⟨rfl, rfl⟩)
            | (refine wpList_store_row rfl 23 _ _ rfl w.heap.size (bytesA zA) rfl rfl 23 _ R infoAddr rfl (bytesA_one _) ?_))
          rw [HN.out]
          exact bodyPost_ret (results_cell_two rfl _ _ w.heap.size _ _ _ rfl _ rfl (R.whole _) Tryz.underlying23 rfl infoAddr) rfl ⟨rfl, below_setRow hb (Nat.le_refl _) _⟩
        · rw [hk2] at HC
          have HAll := Lib.hid (Adr.num_more HA.out H1.out hk1)
          have hw := Adr.nums_at H1.out
          have hv : Value.int .u8 (Oct.number p : Int) = byteV (UInt8.ofNat (Oct.number p)) := by unfold byteV; rw [UInt8.toNat_ofNat']; exact val_int (by omega)
          have hfl := Adr.fill_length (z := (0 : UInt8)) (n := 4) (k := k) HLN.out hk
          obtain ⟨u1, c1⟩ : ∃ u, wr.cell? ⟨N, k, none⟩ = some u := ⟨_, by rw [F.cell]; exact Array.getElem?_eq_getElem (by rw [bytesA_size, hfl]; exact hlt)⟩
          have f1 := F.free k
          have F3 := F.set k (byteV (UInt8.ofNat (Oct.number p)))
          rw [bytesA_set, Adr.fill_set HLN.out hlt hw, ← hv] at F3
          have B3 := hb.setCell (p := ⟨N, k, none⟩) (by simp; omega) (.int .u8 (Oct.number p : Int))
          have R3 := R.other (p := ⟨N, k, none⟩) (by simp; omega) (.int .u8 (Oct.number p : Int))
          have O3 := own_far hown (p := ⟨N, k, none⟩) (by simp [Value.ownBlock]; omega) (.int .u8 (Oct.number p : Int))
          clear hk1 hk2 hw hv hfl F hb R hown
          generalize Oct.number p = x at *
          go_wp2_with (go_at_call 86; refine (HC.out _).mono ?_; rintro e w' ⟨rfl, rfl⟩)
          go_roundw
          case rel => exact ⟨k + 1, by omega, by go_num, O3, R3, F3, HAll.out, B3⟩
          case measure => simp [intOf]; omega
      · have hkk : k = 4 := by omega
        subst hkk
        rw [Adr.fill_end HLN.out] at F
        have HS := Lib.hid (show Adr.v4 s.data.toList = some (Adr.nums ps) by
          have := Adr.v4_yes (s := s.data.toList) (by rw [← HP.out]; exact HL.out) (by rw [← HP.out]; have := HA.out; rw [List.take_of_length_le (by have := HL.out; omega)] at this; exact this)
          rw [← HP.out] at this
          exact this)
        have P1 := Lib.hid (show ((Adr.nums ps).map byteV).length = Nat.min 4 4 by rw [List.length_map, HLN.out]; rfl)
        have P3 := Lib.hid (show 12 + ((Adr.nums ps).map byteV).length ≤ (zA.map byteV).length by rw [List.length_map, List.length_map, HLN.out, zA_length]; exact Nat.le_refl 16)
        have P2 := Lib.hid (row_source ((F.alloc (.cells (bytesA zA) 23)).drew))
        have PN := Lib.hid ((Row.new wr 23 (bytesA zA)).drew)
        have BB := Lib.hid (((Below.refl wr.heap.size wr).alloc (Nat.le_refl _) (.cells (bytesA zA) 23)).drew)
        have sB := hb.size
        go_wp2
        go_region_held3 (fun _ => True) (trivial) ((refine step_copy_splice (by rfl) (.tmp 39) (.tmp 40) 59 59 (by rfl) 5 Tryz.underlying59 infoByteSize (some ⟨wr.heap.size, 12, none⟩) (some ⟨N, 0, none⟩) 4 4 4 4 (by rfl) (by rfl) wr.heap.size 12 (zA.map byteV) 23 PN.out ((Adr.nums ps).map byteV) P1.out (fun _ => ⟨rfl, _, rfl, P2.out⟩) P3.out (bytes_one _) wr.heap.size _ (Below.refl _ _) (Nat.le_refl _) ?_; intro w5 hw5 hb5))
        all_goals
          have R5 := row_end (Adr.nums ps) HLN.out hw5.out
          have H5 := Lib.hid (BB.out.trans hb5)
          have R6 := R.stays H5.out
          have HZ := Lib.hid (show (bytesA (List.replicate 12 0 ++ Adr.nums ps)).size = 16 by rw [bytesA_size, List.length_append, HLN.out, List.length_replicate])
          have HD := Lib.hid (show Adr.addr4 (some (Adr.nums ps)) = List.replicate 12 0 ++ Adr.nums ps from rfl)
          generalize List.replicate 12 0 ++ Adr.nums ps = G at *
          have B6 := hb.trans (H5.out.mono sB)
          clear hb5 hw5 hown F
          go_wp2_with (first
            | (refine at_slot 42 rfl ?_
               refine wpList_load_row rfl 23 _ rfl wr.heap.size rfl 23 _ (0, 0) _ R5 Tryz.underlying23 rfl (by rw [HZ.out]; exact infoAddr) ?_)
            | (refine wpList_store_row rfl 23 _ _ rfl w.heap.size (bytesA G) rfl rfl 23 _ R6 (by rw [HZ.out]; exact infoAddr) (by rw [HZ.out]; rfl) (bytesA_one _) ?_))
          rw [HS.out, HD.out]
          exact bodyPost_ret (results_cell_two rfl _ _ w.heap.size _ _ _ rfl _ rfl (R6.whole _) Tryz.underlying23 rfl (by rw [HZ.out]; exact infoAddr)) rfl ⟨rfl, below_setRow B6 (Nat.le_refl _) _⟩
  · have HN := Lib.hid (show NewAddr (Adr.addr4 (Adr.v4 s.data.toList)) (Adr.v4 s.data.toList).isSome = NewAddr zA false by rw [Adr.v4_count (by rw [← HP.out]; exact h4)]; rfl)
    have h4b : ((ps.length : Int) != 4) = true := by rw [bne_iff_ne]; omega
    clear h4
    go_wp2_with (refine wpList_store_row rfl 23 _ _ rfl w.heap.size (bytesA zA) rfl rfl 23 _ R1 infoAddr rfl (bytesA_one _) ?_)
    rw [HN.out]
    exact bodyPost_ret (results_cell_two rfl _ _ w.heap.size _ _ _ rfl _ rfl (R1.whole _) Tryz.underlying23 rfl infoAddr) rfl ⟨rfl, below_setRow B1 (Nat.le_refl _) _⟩
end Go.Proofs.YtkajddopjflniaaGreatDoor
/- The walks of the hosts that are addresses. -/
namespace Go.Proofs.YtkajddopjflniaaGreatDoor
open Go.RowKit
namespace Hst
theorem suffix_yes {l : List UInt8} (h : l.getLast? = some 93) : Lib.hasSuffix l [93] = true ∧ Lib.trimSuffix l [93] = l.dropLast := by
  obtain ⟨r, rfl⟩ : ∃ r, l = r ++ [93] := by
    rcases List.eq_nil_or_concat l with rfl | ⟨r, c, rfl⟩
    · cases h
    · rw [List.concat_eq_append, List.getLast?_append] at h
      simp at h
      exact ⟨r, by rw [List.concat_eq_append, h]⟩
  have e : Lib.hasSuffix (r ++ [93]) [93] = true := by unfold Lib.hasSuffix; exact List.isSuffixOf_iff_suffix.2 ⟨r, rfl⟩
  refine ⟨e, ?_⟩
  unfold Lib.trimSuffix
  rw [if_pos e]
  simp
theorem suffix_no {l : List UInt8} (h : l.getLast? ≠ some 93) : Lib.hasSuffix l [93] = false := by
  cases e : Lib.hasSuffix l [93] with
  | false => rfl
  | true =>
    obtain ⟨r, rfl⟩ := List.isSuffixOf_iff_suffix.1 e
    exact absurd (by simp) h
theorem v6part_eq (l : List UInt8) : v6part l = if (Lib.hasSuffix l [93] && (Adr.v6 (Lib.trimSuffix l [93])).isSome) = true then some ⟨3, [], Adr.addrOf (Adr.v6 (Lib.trimSuffix l [93]))⟩ else none := by
  unfold v6part
  by_cases h : l.getLast? = some 93
  · obtain ⟨e1, e2⟩ := suffix_yes h
    rw [if_pos h, e1, e2]
    cases Adr.v6 l.dropLast <;> rfl
  · rw [if_neg h, suffix_no h]; rfl
theorem v4part_eq (l : List UInt8) : v4part l = if (Adr.v4 l).isSome = true then some ⟨2, [], Adr.addr4 (Adr.v4 l)⟩ else none := by
  unfold v4part
  cases Adr.v4 l <;> rfl
theorem addr4_length (s : List UInt8) : (Adr.addr4 (Adr.v4 s)).length = 16 := by
  unfold Adr.v4
  split
  · next h => show (List.replicate 12 0 ++ _).length = 16; rw [List.length_append, List.length_replicate, List.length_map, h.1]
  · rfl
end Hst
set_option maxRecDepth 100000 in
set_option maxHeartbeats 2000000 in
theorem hgroups_calls (r : ByteArray) (w : World) (hw : Std w) (hs : r.size ≤ 1048576) :
    Calls Tryz.prog 54 #[.string r] w (NewHost (Hst.v6part r.data.toList) w) := by
  have z0 := zeroHost
  have z1 := bytesA_zA
  have HZ0 := Lib.hid (show (hostA Hst.zero).size = 18 from rfl)
  have H1 := Lib.hid (fun W => Tryz.strings_CutSuffix r ⟨#[93]⟩ W (by omega))
  have hle := Lib.trimSuffix_le r.data.toList [93]
  rw [Oct.length_bytes] at hle
  have H2 := Lib.hid (fun W h => v6_calls ⟨(Lib.trimSuffix r.data.toList [93]).toArray⟩ W h (by show (List.toArray _).size ≤ _; simp; omega))
  have HN := Lib.hid (Hst.v6part_eq r.data.toList)
  have ha : (Adr.addrOf (Adr.v6 (Lib.trimSuffix r.data.toList [93]))).length = 16 := Adr.addrOf_length _
  have e1 : (⟨#[93]⟩ : ByteArray).data.toList = [93] := rfl
  have e2 : (⟨(Lib.trimSuffix r.data.toList [93]).toArray⟩ : ByteArray).data.toList = Lib.trimSuffix r.data.toList [93] := rfl
  rw [e1] at H1
  rw [e2] at H2
  generalize Hst.v6part r.data.toList = V at *
  generalize Adr.addrOf (Adr.v6 (Lib.trimSuffix r.data.toList [93])) = a at *
  generalize (Adr.v6 (Lib.trimSuffix r.data.toList [93])).isSome = ok at *
  generalize Lib.hasSuffix r.data.toList [93] = closed at *
  generalize (⟨(Lib.trimSuffix r.data.toList [93]).toArray⟩ : ByteArray) = i at *
  clear hle e1 e2
  have HZA := Lib.hid (show (bytesA a).size = 16 by rw [bytesA_size, ha])
  have HH := Lib.hid (hostA_size ⟨3, [], a⟩ ha)
  have HB := Lib.hid (built_addr 3 a ha)
  clear ha
  go_enter Tryz.func54, Tryz.ntmps54
  go_wp2_with fail
  have R0 := Row.new w 25 (hostA Hst.zero)
  have B0 := (Below.refl w.heap.size w).alloc (Nat.le_refl _) (.cells (hostA Hst.zero) 25)
  generalize w.alloc (.cells (hostA Hst.zero) 25) = w0 at *
  refine (H1.out _).mono ?_
  rintro e v1 ⟨rfl, rfl⟩
  go_wp2_with fail
  refine (H2.out _ (hw.below B0)).mono ?_
  rintro e v2 ⟨rfl, d2⟩
  have R1 := R0.stays d2
  have B1 := B0.trans (d2.mono B0.size)
  obtain ⟨T, U, C, L⟩ := lay_row 23 (bytesA zA) (bytesA a) B1 B1.size
  have R2 := L _ _ _ R1
  clear L R0 R1 B0 B1 d2
  cases closed <;> cases ok
  all_goals
    go_wp2_with (first
      | (refine wpList_store_row rfl 23 _ _ rfl v2.heap.size (bytesA a) rfl rfl 23 _ T (by rw [HZA.out]; exact infoAddr) (by rw [HZA.out]; rfl) (bytesA_one _) ?_)
      | (refine at_slot 25 rfl ?_; refine load_row rfl 23 _ rfl v2.heap.size rfl U Tryz.underlying23 rfl (by rw [HZA.out]; exact infoAddr) ?_)
      | (refine at_slot 26 rfl ?_; refine build_two rfl 25 0 2 _ _ rfl _ _ rfl rfl (hostA ⟨3, [], a⟩) HB.out ?_)
      | (refine wpList_store_row rfl 25 _ _ rfl w.heap.size (hostA Hst.zero) rfl rfl 25 _ R2 (by rw [HZ0.out]; exact infoHost) rfl (hostA_one _) ?_)
      | (refine wpList_store_row rfl 25 _ _ rfl w.heap.size (hostA ⟨3, [], a⟩) rfl rfl 25 _ R2 (by rw [HH.out]; exact infoHost) (by rw [HH.out]; rfl) (hostA_one _) ?_))
    rw [HN.out]
    first
      | exact bodyPost_ret (v := .tuple #[.agg (hostA Hst.zero), .int .i64 31]) (results_cell_two rfl _ _ w.heap.size _ _ _ rfl _ rfl (R2.whole _) Tryz.underlying25 rfl (by rw [HZ0.out]; exact infoHost)) rfl ⟨rfl, below_setRow C (Nat.le_refl _) _⟩
      | exact bodyPost_ret (v := .tuple #[.agg (hostA ⟨3, [], a⟩), .int .i64 0]) (results_cell_two rfl _ _ w.heap.size _ _ _ rfl _ rfl (R2.whole _) Tryz.underlying25 rfl (by rw [HH.out]; exact infoHost)) rfl ⟨rfl, below_setRow C (Nat.le_refl _) _⟩
set_option maxRecDepth 100000 in
set_option maxHeartbeats 2000000 in
theorem numbers_calls (s : ByteArray) (w : World) (hs : s.size ≤ 1048576) :
    Calls Tryz.prog 56 #[.string s] w (NewHost (Hst.v4part s.data.toList) w) := by
  have z0 := zeroHost
  have z1 := bytesA_zA
  have HZ0 := Lib.hid (show (hostA Hst.zero).size = 18 from rfl)
  have H2 := Lib.hid (fun W => v4_calls s W hs)
  have HN := Lib.hid (Hst.v4part_eq s.data.toList)
  have ha : (Adr.addr4 (Adr.v4 s.data.toList)).length = 16 := Hst.addr4_length _
  generalize Hst.v4part s.data.toList = V at *
  generalize Adr.addr4 (Adr.v4 s.data.toList) = a at *
  generalize (Adr.v4 s.data.toList).isSome = ok at *
  have HZA := Lib.hid (show (bytesA a).size = 16 by rw [bytesA_size, ha])
  have HH := Lib.hid (hostA_size ⟨2, [], a⟩ ha)
  have HB := Lib.hid (built_addr 2 a ha)
  clear ha
  go_enter Tryz.func56, Tryz.ntmps56
  go_wp2_with fail
  have R0 := Row.new w 25 (hostA Hst.zero)
  have B0 := (Below.refl w.heap.size w).alloc (Nat.le_refl _) (.cells (hostA Hst.zero) 25)
  generalize w.alloc (.cells (hostA Hst.zero) 25) = w0 at *
  refine (H2.out _).mono ?_
  rintro e v2 ⟨rfl, d2⟩
  have R1 := R0.stays d2
  have B1 := B0.trans (d2.mono B0.size)
  obtain ⟨T, U, C, L⟩ := lay_row 23 (bytesA zA) (bytesA a) B1 B1.size
  have R2 := L _ _ _ R1
  clear L R0 R1 B0 B1 d2
  cases ok
  all_goals
    go_wp2_with (first
      | (refine wpList_store_row rfl 23 _ _ rfl v2.heap.size (bytesA a) rfl rfl 23 _ T (by rw [HZA.out]; exact infoAddr) (by rw [HZA.out]; rfl) (bytesA_one _) ?_)
      | (refine at_slot 14 rfl ?_; refine load_row rfl 23 _ rfl v2.heap.size rfl U Tryz.underlying23 rfl (by rw [HZA.out]; exact infoAddr) ?_)
      | (refine at_slot 15 rfl ?_; refine build_two rfl 25 0 2 _ _ rfl _ _ rfl rfl (hostA ⟨2, [], a⟩) HB.out ?_)
      | (refine wpList_store_row rfl 25 _ _ rfl w.heap.size (hostA Hst.zero) rfl rfl 25 _ R2 (by rw [HZ0.out]; exact infoHost) rfl (hostA_one _) ?_)
      | (refine wpList_store_row rfl 25 _ _ rfl w.heap.size (hostA ⟨2, [], a⟩) rfl rfl 25 _ R2 (by rw [HH.out]; exact infoHost) (by rw [HH.out]; rfl) (hostA_one _) ?_))
    rw [HN.out]
    first
      | exact bodyPost_ret (v := .tuple #[.agg (hostA Hst.zero), .int .i64 31]) (results_cell_two rfl _ _ w.heap.size _ _ _ rfl _ rfl (R2.whole _) Tryz.underlying25 rfl (by rw [HZ0.out]; exact infoHost)) rfl ⟨rfl, below_setRow C (Nat.le_refl _) _⟩
      | exact bodyPost_ret (v := .tuple #[.agg (hostA ⟨2, [], a⟩), .int .i64 0]) (results_cell_two rfl _ _ w.heap.size _ _ _ rfl _ rfl (R2.whole _) Tryz.underlying25 rfl (by rw [HH.out]; exact infoHost)) rfl ⟨rfl, below_setRow C (Nat.le_refl _) _⟩
end Go.Proofs.YtkajddopjflniaaGreatDoor
/- The walks of what tells whether labels can stand in a name. -/
namespace Go.Proofs.YtkajddopjflniaaGreatDoor
open Go.RowKit
theorem ofName_calls (c : UInt8) (w : World) :
    Calls Tryz.prog 71 #[.int .u8 (c.toNat : Int)] w fun e w' => e = .returned (.bool (Hst.okB c)) ∧ w = w' := by
  have hc : c.toNat < 256 := c.toNat_lt
  go_enter Tryz.func71, Tryz.ntmps71
  go_wp2
  all_goals
    go_ret
    exact ⟨ret_bool (by rw [Bool.eq_iff_iff]; simp [Hst.okB]; omega), rfl⟩
theorem alien_calls (c : UInt8) (w : World) :
    Calls Tryz.prog 70 #[.int .u8 (c.toNat : Int)] w fun e w' => e = .returned (.bool (!Hst.okB c)) ∧ w = w' := by
  go_enter Tryz.func70, Tryz.ntmps70
  go_wp2_with (go_at_call 71; refine (ofName_calls _ _).mono ?_; rintro e w' ⟨rfl, rfl⟩)
  go_ret
  exact ⟨rfl, rfl⟩
/-- Whether there is a place, and none behind it was told of before. -/
theorem any_hit {α : Type} {p : α → Bool} {l : List α} {k : Nat} {x : α} (h : l[k]? = some x) (hp : p x = true) : l.any p = true :=
  List.any_eq_true.2 ⟨x, List.mem_of_getElem? h, hp⟩
theorem any_miss {α : Type} {p : α → Bool} {l : List α} {k : Nat} (hk : l.length ≤ k) (h : ∀ x ∈ l.take k, p x = false) : l.any p = false := by
  rw [List.take_of_length_le hk] at h
  rw [List.any_eq_false]
  intro x hx
  rw [h x hx]; simp
theorem any_all {α : Type} (p : α → Bool) (l : List α) : (l.any fun x => !p x) = !l.all p := by
  induction l with
  | nil => rfl
  | cons a l ih => rw [List.any_cons, List.all_cons, ih, Bool.not_and]
set_option maxHeartbeats 1000000 in
theorem indexB_calls (w : World) (g n cap : Nat) (l : List UInt8) (hn : l.length = n) (hl : n ≤ 1099511627776) (hB : Bytes w g l) :
    Calls Tryz.prog 87 #[.slice (some ⟨g, 0, none⟩) n cap, .func (.func 70) #[] #[]] w fun e w' => (∃ r : Int, e = .returned (.int .i64 r) ∧ decide (0 ≤ r) = l.any (fun c => !Hst.okB c)) ∧ w = w' := by
  go_enter Tryz.func87, Tryz.ntmps87
  go_wp2
  go_loop [5, 8] (fun _ i => ∃ k : Nat, k ≤ n ∧ i = .int .i64 k ∧ ∀ c ∈ l.take k, (!Hst.okB c) = false) (fun _ i => n - (intOf i).toNat)
  case atStart => exact ⟨0, Nat.zero_le _, rfl, by simp⟩
  case round =>
    obtain ⟨k, hk, rfl, hall⟩ := hrel
    have HA := Lib.hid hall
    clear hall
    by_cases hlt : k < n
    · obtain ⟨c, hc⟩ : ∃ c, l[k]? = some c := ⟨_, List.getElem?_eq_getElem (by omega)⟩
      have hcell := hB.cell k c hc
      unfold byteV at hcell
      have HC := Lib.hid hc
      clear hc hB
      cases hq : Hst.okB c with
      | true =>
        go_wp2_with (go_at_call 70; refine (alien_calls _ _).mono ?_; rintro e w' ⟨rfl, rfl⟩; rw [hq])
        go_round
        case rel => exact ⟨k + 1, by omega, by go_num, Oct.take_more HA.out HC.out (by rw [hq]; rfl)⟩
        case measure => simp [intOf]; omega
      | false =>
        go_wp2_with (go_at_call 70; refine (alien_calls _ _).mono ?_; rintro e w' ⟨rfl, rfl⟩; rw [hq])
        go_ret
        exact ⟨⟨k, rfl, by rw [any_hit (p := fun c => !Hst.okB c) HC.out (by show (!Hst.okB c) = true; rw [hq]; rfl)]; simp⟩, rfl⟩
    · go_wp2
      go_ret
      exact ⟨⟨-1, rfl, by rw [any_miss (k := k) (by omega) HA.out]; rfl⟩, rfl⟩
theorem containsB_calls (w : World) (g n cap : Nat) (l : List UInt8) (hn : l.length = n) (hl : n ≤ 1099511627776) (hB : Bytes w g l) :
    Calls Tryz.prog 72 #[.slice (some ⟨g, 0, none⟩) n cap, .func (.func 70) #[] #[]] w fun e w' => e = .returned (.bool (l.any (fun c => !Hst.okB c))) ∧ w = w' := by
  have HC := Lib.hid (indexB_calls w g n cap l hn hl hB)
  go_enter Tryz.func72, Tryz.ntmps72
  go_wp2_with (go_at_call 87; refine HC.out.mono ?_; rintro e w' ⟨⟨r, rfl, hr⟩, rfl⟩)
  go_ret
  exact ⟨rfl, rfl⟩
set_option maxRecDepth 100000 in
set_option maxHeartbeats 1000000 in
theorem wrong_calls (s : ByteArray) (w : World) (hs : s.size ≤ 1099511627776) :
    Calls Tryz.prog 69 #[.string s] w fun e w' => e = .returned (.bool (!Hst.lab s.data.toList)) ∧ Below w.heap.size w w' := by
  have hcv := fun W => run_bytes_of_string (P := Tryz.prog) W 9 59 5 s Tryz.underlying9 Tryz.underlying59 Tryz.underlying5
  have HL := Lib.hid (Oct.length_bytes s)
  by_cases h0 : s.size = 0
  · have e0 : s.toList = [] := (Oct.nil_bytes s).2 ((Oct.nil_size s).2 h0)
    go_enter Tryz.func69, Tryz.ntmps69
    go_wp2
    go_ret
    exact ⟨ret_bool (by unfold Hst.lab; rw [HL.out]; simp [h0]), Below.refl _ _⟩
  · have e0 : s.toList.isEmpty = false := by
      cases e : s.toList with
      | nil => exact absurd ((Oct.nil_size s).1 ((Oct.nil_bytes s).1 e)) h0
      | cons => rfl
    by_cases h1 : s.size ≤ 63
    · have HB := Lib.hid (Bytes.new w s)
      generalize s.data.toList = l at *
      go_enter Tryz.func69, Tryz.ntmps69
      go_wp2_with (go_at_call 72; refine (containsB_calls _ w.heap.size s.size _ l HL.out (by omega) (HB.out _ _)).mono ?_; rintro e w' ⟨rfl, rfl⟩)
      go_ret
      exact ⟨ret_bool (by rw [decide_eq_false (show ¬ (63 : Int) < (s.size : Int) by omega), any_all]; unfold Hst.lab; rw [HL.out, decide_eq_true (show 1 ≤ s.size ∧ s.size ≤ 63 by omega)]; rfl), ((Below.refl _ w).alloc (Nat.le_refl _) _).drew⟩
    · go_enter Tryz.func69, Tryz.ntmps69
      go_wp2
      go_ret
      exact ⟨ret_bool (by unfold Hst.lab; rw [HL.out, decide_eq_false (show ¬ (1 ≤ s.size ∧ s.size ≤ 63) by omega)]; rfl), Below.refl _ _⟩
set_option maxHeartbeats 1000000 in
theorem indexS_calls (w : World) (B g n cap : Nat) (ps : List (List UInt8)) (hn : ps.length = n) (hl : n ≤ 1099511627776) (hz : ∀ p ∈ ps, p.length ≤ 1099511627776) (hown : w.ownsRow B 9 1 (.slice (some ⟨g, 0, none⟩) n cap) n (ps.map strV)) :
    Calls Tryz.prog 88 #[.slice (some ⟨g, 0, none⟩) n cap, .func (.func 69) #[] #[]] w fun e w' => (∃ r : Int, e = .returned (.int .i64 r) ∧ decide (0 ≤ r) = ps.any (fun p => !Hst.lab p)) ∧ Below w.heap.size w w' := by
  subst hn
  have HO := Lib.hid hown
  have HZ := Lib.hid hz
  clear hown hz
  go_enter Tryz.func88, Tryz.ntmps88
  go_wp2
  go_loopw [5, 8] (fun _ i wr => ∃ k : Nat, k ≤ ps.length ∧ i = .int .i64 k ∧ (∀ p ∈ ps.take k, (!Hst.lab p) = false) ∧ Below w.heap.size w wr) (fun _ i _ => ps.length - (intOf i).toNat)
  case atStart => exact ⟨0, Nat.zero_le _, rfl, by simp, Below.refl _ _⟩
  case round =>
    obtain ⟨k, hk, rfl, hall, hb⟩ := hrel
    have HA := Lib.hid hall
    clear hall
    by_cases hlt : k < ps.length
    · obtain ⟨p, s, hp, hcell, hd, _, hsz⟩ := own_cell (own_keep HO.out hb) hlt
      have hps := HZ.out p (List.mem_of_getElem? hp)
      have HP := Lib.hid hp
      have hw := fun W => wrong_calls s W (by omega)
      rw [hd] at hw
      clear hp hd
      cases hq : Hst.lab p with
      | true =>
        rw [hq] at hw
        have HW := Lib.hid hw
        clear hw
        go_wp2_with (go_at_call 69; refine (HW.out _).mono ?_; rintro e w' ⟨rfl, hb2⟩)
        go_roundw
        case rel => exact ⟨k + 1, by omega, by go_num, Oct.take_more HA.out HP.out (by rw [hq]; rfl), hb.trans (hb2.mono hb.size)⟩
        case measure => simp [intOf]; omega
      | false =>
        rw [hq] at hw
        have HW := Lib.hid hw
        clear hw
        go_wp2_with (go_at_call 69; refine (HW.out _).mono ?_; rintro e w' ⟨rfl, hb2⟩)
        go_ret
        exact ⟨⟨k, rfl, by rw [any_hit (p := fun p => !Hst.lab p) HP.out (by show (!Hst.lab p) = true; rw [hq]; rfl)]; simp⟩, hb.trans (hb2.mono hb.size)⟩
    · go_wp2
      go_ret
      exact ⟨⟨-1, rfl, by rw [any_miss (k := k) (by omega) HA.out]; rfl⟩, hb⟩
theorem containsS_calls (w : World) (B g n cap : Nat) (ps : List (List UInt8)) (hn : ps.length = n) (hl : n ≤ 1099511627776) (hz : ∀ p ∈ ps, p.length ≤ 1099511627776) (hown : w.ownsRow B 9 1 (.slice (some ⟨g, 0, none⟩) n cap) n (ps.map strV)) :
    Calls Tryz.prog 73 #[.slice (some ⟨g, 0, none⟩) n cap, .func (.func 69) #[] #[]] w fun e w' => e = .returned (.bool (ps.any (fun p => !Hst.lab p))) ∧ Below w.heap.size w w' := by
  have HC := Lib.hid (indexS_calls w B g n cap ps hn hl hz hown)
  clear hown
  go_enter Tryz.func73, Tryz.ntmps73
  go_wp2_with (go_at_call 88; refine HC.out.mono ?_; rintro e w' ⟨⟨r, rfl, hr⟩, hb⟩)
  go_ret
  exact ⟨rfl, hb⟩
theorem name_calls (w : World) (B g n cap : Nat) (ps : List (List UInt8)) (hn : ps.length = n) (hl : n ≤ 1099511627776) (hz : ∀ p ∈ ps, p.length ≤ 1099511627776) (hown : w.ownsRow B 9 1 (.slice (some ⟨g, 0, none⟩) n cap) n (ps.map strV)) :
    Calls Tryz.prog 57 #[.slice (some ⟨g, 0, none⟩) n cap] w fun e w' => e = .returned (.bool (ps.all Hst.lab)) ∧ Below w.heap.size w w' := by
  have HC := Lib.hid (containsS_calls w B g n cap ps hn hl hz hown)
  clear hown
  go_enter Tryz.func57, Tryz.ntmps57
  go_wp2_with (go_at_call 73; refine HC.out.mono ?_; rintro e w' ⟨rfl, hb⟩)
  go_ret
  exact ⟨ret_bool (by rw [any_all, Bool.not_not]), hb⟩
end Go.Proofs.YtkajddopjflniaaGreatDoor
/- The walk of host's Parse. -/
namespace Go.Proofs.YtkajddopjflniaaGreatDoor
open Go.RowKit
namespace Hst
theorem prefix_yes {l : List UInt8} (h : l.head? = some 91) : Lib.hasPrefix l [91] = true ∧ Lib.trimPrefix l [91] = l.tail := by
  cases l with
  | nil => cases h
  | cons c r =>
    simp at h
    subst h
    exact ⟨rfl, rfl⟩
theorem prefix_no {l : List UInt8} (h : l.head? ≠ some 91) : Lib.hasPrefix l [91] = false := by
  cases l with
  | nil => rfl
  | cons c r =>
    have hn : (91 : UInt8) ≠ c := fun e => h (by rw [← e]; rfl)
    show ((91 : UInt8) == c && _) = false
    rw [beq_eq_false_iff_ne.2 hn]; rfl
def code (o : Option Host) : Int := if o.isSome then 0 else 31
def host (o : Option Host) : Host := o.getD zero
theorem v6part_length (l : List UInt8) : (host (v6part l)).addr.length = 16 := by
  rw [v6part_eq]
  split
  · exact Adr.addrOf_length _
  · rfl
theorem v4part_length (l : List UInt8) : (host (v4part l)).addr.length = 16 := by
  rw [v4part_eq]
  split
  · exact addr4_length _
  · rfl
theorem parse_length (l : List UInt8) : (host (parse l)).addr.length = 16 := by
  unfold parse
  split
  · rfl
  · split
    · exact v6part_length _
    · split
      · exact v4part_length _
      · split <;> rfl
end Hst
/-- A host that may have an error. -/
theorem newHost_of {o : Option Hst.Host} {w w' : World} {h : Hst.Host} {c : Int} (hh : Hst.host o = h) (hc : Hst.code o = c) (hb : Below w.heap.size w w') : NewHost o w (.returned (.tuple #[.agg (hostA h), .int .i64 c])) w' := by
  subst hh; subst hc; exact ⟨rfl, hb⟩
theorem newHost_is {o : Option Hst.Host} {w w' : World} {e : Ending} (h : NewHost o w e w') : e = .returned (.tuple #[.agg (hostA (Hst.host o)), .int .i64 (Hst.code o)]) ∧ Below w.heap.size w w' := h
set_option maxRecDepth 100000 in
set_option maxHeartbeats 4000000 in
theorem parse_calls (s : ByteArray) (w : World) (hw : Std w) (hs : s.size ≤ 1048576) :
    Calls Tryz.prog 44 #[.string s] w (NewHost (Hst.parse s.data.toList) w) := by
  have z0 := zeroHost
  have HZ0 := Lib.hid (show (hostA Hst.zero).size = 18 from rfl)
  have hl := Oct.length_bytes s
  by_cases hbig : 253 < s.size
  · have HN := Lib.hid (show Hst.parse s.data.toList = none by unfold Hst.parse; rw [if_pos (by omega)])
    have hbig1 : (253 : Int) < (s.size : Int) := by omega
    clear hl
    go_enter Tryz.func44, Tryz.ntmps44
    have R0 := Row.new w 25 (hostA Hst.zero)
    have B0 := (Below.refl w.heap.size w).alloc (Nat.le_refl _) (.cells (hostA Hst.zero) 25)
    go_wp2_with (first
      | (refine wpList_store_row rfl 25 _ _ rfl w.heap.size (hostA Hst.zero) rfl rfl 25 _ R0 (by rw [HZ0.out]; exact infoHost) rfl (hostA_one _) ?_))
    rw [HN.out]
    exact bodyPost_ret (v := .tuple #[.agg (hostA Hst.zero), .int .i64 31]) (results_cell_two rfl _ _ w.heap.size _ _ _ rfl _ rfl (R0.whole _) Tryz.underlying25 rfl (by rw [HZ0.out]; exact infoHost)) rfl (newHost_of rfl rfl (below_setRow B0 (Nat.le_refl _) _))
  have hbig1 : ¬ (253 : Int) < (s.size : Int) := by omega
  have H1 := Lib.hid (fun W => Tryz.strings_CutPrefix s ⟨#[91]⟩ W)
  have e1 : (⟨#[91]⟩ : ByteArray).data.toList = [91] := rfl
  rw [e1] at H1
  clear e1
  by_cases hhead : s.data.toList.head? = some 91
  · obtain ⟨p1, p2⟩ := Hst.prefix_yes hhead
    rw [p1, p2] at H1
    have HN := Lib.hid (show Hst.parse s.data.toList = Hst.v6part s.data.toList.tail by unfold Hst.parse; rw [if_neg (by omega), if_pos hhead])
    have hx := Hst.v6part_length s.data.toList.tail
    have H2 := Lib.hid (fun W h => (hgroups_calls ⟨s.data.toList.tail.toArray⟩ W h (by show (List.toArray _).size ≤ _; simp; omega)).mono fun e w' h => newHost_is h)
    have e2 : (⟨s.data.toList.tail.toArray⟩ : ByteArray).data.toList = s.data.toList.tail := rfl
    rw [e2] at H2
    rw [HN.out]
    clear HN
    generalize Hst.v6part s.data.toList.tail = o at *
    have HO : Hid (∀ w', Below w.heap.size w w' → NewHost o w (.returned (.tuple #[.agg (hostA (Hst.host o)), .int .i64 (Hst.code o)])) w') := Lib.hid (fun w' hb => newHost_of rfl rfl hb)
    generalize NewHost o w = post at *
    generalize Hst.code o = c at *
    generalize Hst.host o = X at *
    have HX := Lib.hid (hostA_size X hx)
    generalize (⟨s.data.toList.tail.toArray⟩ : ByteArray) = i at *
    clear hx p1 p2 hhead hl e2
    go_enter Tryz.func44, Tryz.ntmps44
    go_wp2_with fail
    have R0 := Row.new w 25 (hostA Hst.zero)
    have B0 := (Below.refl w.heap.size w).alloc (Nat.le_refl _) (.cells (hostA Hst.zero) 25)
    generalize w.alloc (.cells (hostA Hst.zero) 25) = w0 at *
    refine (H1.out _).mono ?_
    rintro e v1 ⟨rfl, rfl⟩
    go_wp2_with fail
    refine (H2.out _ (hw.below B0)).mono ?_
    rintro e v2 ⟨rfl, d2⟩
    have R1 := R0.stays d2
    have B1 := B0.trans (d2.mono B0.size)
    go_wp2_with (first
      | (refine wpList_store_row rfl 25 _ _ rfl w.heap.size (hostA X) rfl rfl 25 _ R1 (by rw [HX.out]; exact infoHost) (by rw [HX.out]; rfl) (hostA_one _) ?_))
    exact bodyPost_ret (v := .tuple #[.agg (hostA X), .int .i64 c]) (results_cell_two rfl _ _ w.heap.size _ _ _ rfl _ rfl (R1.whole _) Tryz.underlying25 rfl (by rw [HX.out]; exact infoHost)) rfl (HO.out _ (below_setRow B1 (Nat.le_refl _) _))
  have p1 := Hst.prefix_no hhead
  rw [p1] at H1
  generalize (⟨(Lib.trimPrefix s.data.toList [91]).toArray⟩ : ByteArray) = i at *
  have hlen := Oct.split_length 46 s.data.toList
  have hpos := Oct.split_pos 46 s.data.toList
  have hsm := Oct.split_small 46 s.data.toList
  have H3 : ∀ W, Calls Tryz.prog 46 #[.string s, .int .u8 46] W (NewTextsAt W.heap.size (Oct.split 46 s.data.toList) W) := fun W => split_at s 46 W (by omega)
  have H3 := Lib.hid H3
  rw [hl] at hlen
  have hlast : ∃ p, (Oct.split 46 s.data.toList)[(Oct.split 46 s.data.toList).length - 1]? = some p := ⟨_, List.getElem?_eq_getElem (by omega)⟩
  obtain ⟨p, hp⟩ := hlast
  have hlastp : Hst.last s.data.toList = p := by unfold Hst.last; rw [hp]; rfl
  have hps : p.length ≤ s.size := by have := hsm p (List.mem_of_getElem? hp); omega
  have hsz : ∀ q ∈ Oct.split 46 s.data.toList, q.length ≤ 1099511627776 := fun q hq => by have := hsm q hq; omega
  have HSZ := Lib.hid hsz
  have HP := Lib.hid hp
  have HNP : Hid (Hst.parse s.data.toList = if Oct.digits p = true then Hst.v4part s.data.toList else if (Oct.split 46 s.data.toList).all Hst.lab = true then some ⟨1, s.data.toList.map Oct.low, Hst.nil16⟩ else none) :=
    Lib.hid (by unfold Hst.parse; rw [if_neg (by omega), if_neg hhead, hlastp])
  have H5 := Lib.hid (fun W => (numbers_calls s W hs).mono fun e w' h => newHost_is h)
  have hx := Hst.v4part_length s.data.toList
  have H7 := Lib.hid (fun W => lower_calls s W (by omega))
  rw [HNP.out]
  clear HNP hp hsz hsm hlastp p1 hhead hl
  generalize Oct.split 46 s.data.toList = ps at *
  obtain ⟨t, ht⟩ : ∃ t : ByteArray, t = ⟨p.toArray⟩ := ⟨_, rfl⟩
  have hts : t.size ≤ s.size := by rw [ht]; show (List.toArray _).size ≤ _; simp; omega
  have H4 : ∀ W, Calls Tryz.prog 55 #[.string t] W fun e w' => e = .returned (.bool (Oct.digits p)) ∧ W = w' := fun W => by
    have := digits_calls t W (by unfold maxLen; omega)
    have e : t.data.toList = p := by rw [ht]
    rw [e] at this
    exact this
  have H4 := Lib.hid H4
  have HT := Lib.hid ht
  clear ht
  have hz : ((ps.length : Int) - 1).toNat = ps.length - 1 := by omega
  cases hd : Oct.digits p with
  | true =>
    rw [hd] at H4
    rw [if_pos rfl]
    generalize Hst.v4part s.data.toList = o at *
    have HO : Hid (∀ w', Below w.heap.size w w' → NewHost o w (.returned (.tuple #[.agg (hostA (Hst.host o)), .int .i64 (Hst.code o)])) w') := Lib.hid (fun w' hb => newHost_of rfl rfl hb)
    generalize NewHost o w = post at *
    generalize Hst.code o = c at *
    generalize Hst.host o = X at *
    have HX := Lib.hid (hostA_size X hx)
    clear hx hd H7
    go_enter Tryz.func44, Tryz.ntmps44
    go_wp2_with fail
    have R0 := Row.new w 25 (hostA Hst.zero)
    have B0 := (Below.refl w.heap.size w).alloc (Nat.le_refl _) (.cells (hostA Hst.zero) 25)
    generalize w.alloc (.cells (hostA Hst.zero) 25) = w0 at *
    refine (H1.out _).mono ?_
    rintro e v1 ⟨rfl, rfl⟩
    go_wp2_with fail
    refine (H3.out _).mono ?_
    rintro e v2 ⟨g, cap, rfl, hown, d2⟩
    have R1 := R0.stays d2
    have B1 := B0.trans (d2.mono B0.size)
    have hcell := own_text (k := ps.length - 1) hown HP.out HT.out
    have hcap := own_cap hown
    clear hown d2 R0 B0
    go_wp2_with fail
    refine (H4.out _).mono ?_
    rintro e v3 ⟨rfl, rfl⟩
    go_wp2_with fail
    refine (H5.out _).mono ?_
    rintro e v4 ⟨rfl, d4⟩
    have R2 := R1.stays d4
    have B2 := B1.trans (d4.mono B1.size)
    go_wp2_with (first
      | (refine wpList_store_row rfl 25 _ _ rfl w.heap.size (hostA X) rfl rfl 25 _ R2 (by rw [HX.out]; exact infoHost) (by rw [HX.out]; rfl) (hostA_one _) ?_))
    exact bodyPost_ret (v := .tuple #[.agg (hostA X), .int .i64 c]) (results_cell_two rfl _ _ w.heap.size _ _ _ rfl _ rfl (R2.whole _) Tryz.underlying25 rfl (by rw [HX.out]; exact infoHost)) rfl (HO.out _ (below_setRow B2 (Nat.le_refl _) _))
  | false =>
    rw [hd] at H4
    rw [if_neg (by simp)]
    clear hd hx H5
    have HNM := Lib.hid (fun W B g cap h => name_calls W B g ps.length cap ps rfl (by omega) HSZ.out h)
    obtain ⟨u, hu⟩ : ∃ u : ByteArray, u = ⟨(s.data.toList.map Oct.low).toArray⟩ := ⟨_, rfl⟩
    have hul : s.data.toList.map Oct.low = u.data.toList := by rw [hu]
    have HB := Lib.hid (built_name 1 u)
    rw [hul]
    unfold NewText at H7
    rw [← hu] at H7
    clear hul hu
    generalize u.data.toList = ul at *
    have HXZ := Lib.hid (hostA_size ⟨1, ul, Hst.nil16⟩ rfl)
    generalize ps.all Hst.lab = ok at *
    have HF : Hid (ok = false → ∀ w', Below w.heap.size w w' → NewHost (if ok = true then some ⟨1, ul, Hst.nil16⟩ else none) w (.returned (.tuple #[.agg (hostA Hst.zero), .int .i64 31])) w') := Lib.hid (fun h w' hb => by subst h; exact newHost_of rfl rfl hb)
    have HTT : Hid (ok = true → ∀ w', Below w.heap.size w w' → NewHost (if ok = true then some ⟨1, ul, Hst.nil16⟩ else none) w (.returned (.tuple #[.agg (hostA ⟨1, ul, Hst.nil16⟩), .int .i64 0])) w') := Lib.hid (fun h w' hb => by subst h; exact newHost_of rfl rfl hb)
    generalize NewHost (if ok = true then some ⟨1, ul, Hst.nil16⟩ else none) w = post at *
    go_enter Tryz.func44, Tryz.ntmps44
    go_wp2_with fail
    have R0 := Row.new w 25 (hostA Hst.zero)
    have B0 := (Below.refl w.heap.size w).alloc (Nat.le_refl _) (.cells (hostA Hst.zero) 25)
    generalize w.alloc (.cells (hostA Hst.zero) 25) = w0 at *
    refine (H1.out _).mono ?_
    rintro e v1 ⟨rfl, rfl⟩
    go_wp2_with fail
    refine (H3.out _).mono ?_
    rintro e v2 ⟨g, cap, rfl, hown, d2⟩
    have R1 := R0.stays d2
    have B1 := B0.trans (d2.mono B0.size)
    have hcell := own_text (k := ps.length - 1) hown HP.out HT.out
    have hcap := own_cap hown
    have HOWN := Lib.hid hown
    clear hown d2 R0 B0
    go_wp2_with fail
    refine (H4.out _).mono ?_
    rintro e v3 ⟨rfl, rfl⟩
    go_wp2_with fail
    refine (HNM.out _ _ _ _ HOWN.out).mono ?_
    rintro e v4 ⟨rfl, d4⟩
    have R2 := R1.stays d4
    have B2 := B1.trans (d4.mono B1.size)
    clear R1 B1 d4 hcell
    cases ok with
    | false =>
      go_wp2_with (first
        | (refine wpList_store_row rfl 25 _ _ rfl w.heap.size (hostA Hst.zero) rfl rfl 25 _ R2 (by rw [HZ0.out]; exact infoHost) rfl (hostA_one _) ?_))
      exact bodyPost_ret (v := .tuple #[.agg (hostA Hst.zero), .int .i64 31]) (results_cell_two rfl _ _ w.heap.size _ _ _ rfl _ rfl (R2.whole _) Tryz.underlying25 rfl (by rw [HZ0.out]; exact infoHost)) rfl (HF.out (by trivial) _ (below_setRow B2 (Nat.le_refl _) _))
    | true =>
      go_wp2_with fail
      refine (H7.out _).mono ?_
      rintro e v5 ⟨rfl, d5⟩
      have R3 := R2.stays d5
      have B3 := B2.trans (d5.mono B2.size)
      go_wp2_with (first
        | (refine at_slot 40 rfl ?_; refine build_two rfl 25 0 1 _ _ rfl _ _ rfl rfl (hostA ⟨1, ul, Hst.nil16⟩) HB.out ?_)
        | (refine wpList_store_row rfl 25 _ _ rfl w.heap.size (hostA ⟨1, ul, Hst.nil16⟩) rfl rfl 25 _ R3 (by rw [HXZ.out]; exact infoHost) rfl (hostA_one _) ?_))
      exact bodyPost_ret (v := .tuple #[.agg (hostA ⟨1, ul, Hst.nil16⟩), .int .i64 0]) (results_cell_two rfl _ _ w.heap.size _ _ _ rfl _ rfl (R3.whole _) Tryz.underlying25 rfl (by rw [HXZ.out]; exact infoHost)) rfl (HTT.out (by trivial) _ (below_setRow B3 (Nat.le_refl _) _))
end Go.Proofs.YtkajddopjflniaaGreatDoor
/- The walks of host's Text and Right, of names. -/
namespace Go.Proofs.YtkajddopjflniaaGreatDoor
open Go.RowKit
set_option maxHeartbeats 1000000 in
theorem text1_calls (h : Hst.Host) (hk : h.kind = 1) (t : ByteArray) (ht : t = ⟨h.name.toArray⟩) (w : World) :
    Calls Tryz.prog 45 #[.agg (hostA h)] w fun e w' => e = .returned (.string t) ∧ Below w.heap.size w w' := by
  have R := Row.new w 25 (hostA h)
  have c0 : (w.alloc (.cells (hostA h) 25)).cell? ⟨w.heap.size, 0, none⟩ = some (.int .i64 1) := by rw [R.cell, hostA_kind, hk]
  have c1 : (w.alloc (.cells (hostA h) 25)).cell? ⟨w.heap.size, 1, none⟩ = some (.string t) := by rw [R.cell, hostA_name, ht]; rfl
  have B := (Below.refl w.heap.size w).alloc (Nat.le_refl _) (.cells (hostA h) 25)
  have HB := Lib.hid B
  clear B R ht
  go_enter Tryz.func45, Tryz.ntmps45
  generalize hostA h = H at *
  go_wp2
  go_ret
  exact ⟨rfl, HB.out⟩
set_option maxRecDepth 100000 in
set_option maxHeartbeats 4000000 in
theorem right1_calls (h : Hst.Host) (hk : h.kind = 1) (ha : h.addr.length = 16) (hs : h.name.length ≤ 1048576) (w : World) (hw : Std w) :
    Calls Tryz.prog 27 #[.agg (hostA h)] w fun e w' => e = .returned (.bool (Hst.right h)) ∧ Below w.heap.size w w' := by
  have z0 := zeroHost
  obtain ⟨t, ht⟩ : ∃ t : ByteArray, t = ⟨h.name.toArray⟩ := ⟨_, rfl⟩
  have H1 := Lib.hid (fun W => text1_calls h hk t ht W)
  have htl : t.data.toList = h.name := by rw [ht]
  have hts : t.size = h.name.length := by rw [← htl, Oct.length_bytes]
  have H2 := Lib.hid (fun W hW => (parse_calls t W hW (by omega)).mono fun e w' h => newHost_is h)
  rw [htl] at H2
  have hx := Hst.parse_length h.name
  have HR : Hid (Hst.right h = decide (Hst.parse h.name = some h)) := Lib.hid rfl
  have HZ0 := Lib.hid (show (hostA Hst.zero).size = 18 from rfl)
  have HH := Lib.hid (hostA_size h ha)
  cases ho : Hst.parse h.name with
  | none =>
    rw [ho] at H2 HR
    have HR2 : Hid (Hst.right h = false) := Lib.hid (by rw [HR.out]; rfl)
    have e1 : Hst.host none = Hst.zero := rfl
    have e2 : Hst.code none = 31 := rfl
    rw [e1, e2] at H2
    clear ho hx hts htl ht HR e1 e2
    rw [HR2.out]
    generalize hostA h = H at *
    have R0 := Row.new w 25 H
    have B0 := (Below.refl w.heap.size w).alloc (Nat.le_refl _) (.cells H 25)
    go_enter Tryz.func27, Tryz.ntmps27
    go_wp2_with (refine at_slot 6 rfl ?_; refine load_row rfl 25 _ rfl w.heap.size rfl R0 Tryz.underlying25 rfl (by rw [HH.out]; exact infoHost) ?_)
    generalize w.alloc (.cells H 25) = w0 at *
    refine (H1.out _).mono ?_
    rintro e v1 ⟨rfl, d1⟩
    have B1 := B0.trans (d1.mono B0.size)
    go_wp2_with fail
    refine (H2.out _ (hw.below B1)).mono ?_
    rintro e v2 ⟨rfl, d2⟩
    have B2 := B1.trans (d2.mono B1.size)
    obtain ⟨T, U, C, L⟩ := lay_row 25 (hostA Hst.zero) (hostA Hst.zero) B2 B2.size
    clear B0 B1 B2 d1 d2 R0 L
    go_wp2_with (first
      | (refine wpList_store_row rfl 25 _ _ rfl v2.heap.size (hostA Hst.zero) rfl rfl 25 _ T (by rw [HZ0.out]; exact infoHost) rfl (hostA_one _) ?_))
    go_ret
    exact ⟨rfl, C⟩
  | some g =>
    rw [ho] at H2 HR hx
    have hx : g.addr.length = 16 := hx
    have HR2 : Hid (Hst.right h = decide (g = h)) := Lib.hid (by rw [HR.out, decide_eq_decide]; exact ⟨fun e => Option.some.inj e, fun e => by rw [e]⟩)
    have e1 : Hst.host (some g) = g := rfl
    have e2 : Hst.code (some g) = 0 := rfl
    rw [e1, e2] at H2
    have q := eql_host g h hx ha
    have HG := Lib.hid (hostA_size g hx)
    have HG1 := Lib.hid (hostA_one g)
    clear ho hx hts htl ht HR e1 e2
    rw [HR2.out]
    generalize hostA h = H at *
    generalize hostA g = G at *
    generalize decide (g = h) = b at *
    have R0 := Row.new w 25 H
    have B0 := (Below.refl w.heap.size w).alloc (Nat.le_refl _) (.cells H 25)
    go_enter Tryz.func27, Tryz.ntmps27
    go_wp2_with (refine at_slot 6 rfl ?_; refine load_row rfl 25 _ rfl w.heap.size rfl R0 Tryz.underlying25 rfl (by rw [HH.out]; exact infoHost) ?_)
    generalize w.alloc (.cells H 25) = w0 at *
    refine (H1.out _).mono ?_
    rintro e v1 ⟨rfl, d1⟩
    have B1 := B0.trans (d1.mono B0.size)
    have R1 := R0.stays d1
    go_wp2_with fail
    refine (H2.out _ (hw.below B1)).mono ?_
    rintro e v2 ⟨rfl, d2⟩
    have R2 := R1.stays d2
    have B2 := B1.trans (d2.mono B1.size)
    obtain ⟨T, U, C, L⟩ := lay_row 25 (hostA Hst.zero) G B2 B2.size
    have R3 := L _ _ _ R2
    clear B0 B1 B2 d1 d2 R0 R1 R2 L
    go_wp2_with (first
      | (refine wpList_store_row rfl 25 _ _ rfl v2.heap.size G rfl rfl 25 _ T (by rw [HG.out]; exact infoHost) (by rw [HG.out]; rfl) HG1.out ?_)
      | (refine at_slot 14 rfl ?_; refine load_row rfl 25 _ rfl v2.heap.size rfl U Tryz.underlying25 rfl (by rw [HG.out]; exact infoHost) ?_)
      | (refine at_slot 15 rfl ?_; refine load_row rfl 25 _ rfl w.heap.size rfl R3 Tryz.underlying25 rfl (by rw [HH.out]; exact infoHost) ?_))
    go_ret
    exact ⟨rfl, C⟩
end Go.Proofs.YtkajddopjflniaaGreatDoor
/- The walk of host's Labels. -/
namespace Go.Proofs.YtkajddopjflniaaGreatDoor
open Go.RowKit
set_option maxRecDepth 100000 in
set_option maxHeartbeats 2000000 in
theorem labels_calls (h : Hst.Host) (ha : h.addr.length = 16) (hs : h.name.length ≤ 1048576) (w : World) (hw : Std w) :
    Calls Tryz.prog 28 #[.agg (hostA h)] w (NewTexts w.heap.size (Hst.labels h) w) := by
  have HH := Lib.hid (hostA_size h ha)
  obtain ⟨t, ht⟩ : ∃ t : ByteArray, t = ⟨h.name.toArray⟩ := ⟨_, rfl⟩
  have R0 := Row.new w 25 (hostA h)
  have c0 : (w.alloc (.cells (hostA h) 25)).cell? ⟨w.heap.size, 0, none⟩ = some (.int .i64 h.kind) := by rw [R0.cell, hostA_kind]
  have c1 : (w.alloc (.cells (hostA h) 25)).cell? ⟨w.heap.size, 1, none⟩ = some (.string t) := by rw [R0.cell, hostA_name, ht]; rfl
  have B0 := (Below.refl w.heap.size w).alloc (Nat.le_refl _) (.cells (hostA h) 25)
  by_cases hk : h.kind = 1
  · have htl : t.data.toList = h.name := by rw [ht]
    have hts : t.size = h.name.length := by rw [← htl, Oct.length_bytes]
    have H1 := Lib.hid (fun W hW => right1_calls h hk ha hs W hW)
    have H2 : ∀ W, Calls Tryz.prog 46 #[.string t, .int .u8 46] W (NewTexts W.heap.size (Oct.split 46 h.name) W) := fun W => by
      have := split_calls t 46 W (by omega)
      rw [htl] at this
      exact this
    have H2 := Lib.hid H2
    rw [hk] at c0
    cases hr : Hst.right h with
    | false =>
      rw [hr] at H1
      have HL : Hid (Hst.labels h = []) := Lib.hid (by unfold Hst.labels; rw [if_neg (fun k => by rw [hr] at k; simp at k)])
      rw [HL.out]
      generalize hostA h = H at *
      clear hr htl hts ht hk ha HL
      go_enter Tryz.func28, Tryz.ntmps28
      go_wp2_with (refine at_slot 7 rfl ?_; refine load_row rfl 25 _ rfl w.heap.size rfl R0 Tryz.underlying25 rfl (by rw [HH.out]; exact infoHost) ?_)
      generalize w.alloc (.cells H 25) = w0 at *
      refine (H1.out _ (hw.below B0)).mono ?_
      rintro e v1 ⟨rfl, d1⟩
      have B1 := B0.trans (d1.mono B0.size)
      go_wp2
      go_ret
      exact ⟨_, rfl, World.ownsRow_nil _ _ _ _, B1⟩
    | true =>
      rw [hr] at H1
      have HL : Hid (Hst.labels h = Oct.split 46 h.name) := Lib.hid (by unfold Hst.labels; rw [if_pos ⟨hk, hr⟩])
      rw [HL.out]
      generalize Oct.split 46 h.name = ps at *
      generalize hostA h = H at *
      clear hr htl hts ht hk ha HL
      go_enter Tryz.func28, Tryz.ntmps28
      go_wp2_with (refine at_slot 7 rfl ?_; refine load_row rfl 25 _ rfl w.heap.size rfl R0 Tryz.underlying25 rfl (by rw [HH.out]; exact infoHost) ?_)
      have hlt := R0.lt
      generalize w.alloc (.cells H 25) = w0 at *
      refine (H1.out _ (hw.below B0)).mono ?_
      rintro e v1 ⟨rfl, d1⟩
      have B1 := B0.trans (d1.mono B0.size)
      have c2 := (d1.cell (p := ⟨w.heap.size, 1, none⟩) hlt).trans c1
      clear c0 c1 d1 R0 B0
      go_wp2_with fail
      refine (H2.out _).mono ?_
      rintro e v2 ⟨v, rfl, hown, d2⟩
      have B2 := B1.trans (d2.mono B1.size)
      have HO := Lib.hid (own_base hown B1.size)
      clear hown
      go_wp2
      go_ret
      exact ⟨_, rfl, HO.out, B2⟩
  · have HL : Hid (Hst.labels h = []) := Lib.hid (by unfold Hst.labels; rw [if_neg (fun k => hk k.1)])
    rw [HL.out]
    generalize hostA h = H at *
    generalize h.kind = k at *
    clear HL ha
    go_enter Tryz.func28, Tryz.ntmps28
    go_wp2
    go_ret
    exact ⟨_, rfl, World.ownsRow_nil _ _ _ _, B0⟩
end Go.Proofs.YtkajddopjflniaaGreatDoor
/- The walks of host's Tail and Under. -/
namespace Go.Proofs.YtkajddopjflniaaGreatDoor
open Go.RowKit
namespace Hst
theorem labels_length (h : Host) : (labels h).length ≤ h.name.length + 1 := by
  unfold labels
  split
  · exact Oct.split_length 46 h.name
  · simp
theorem labels_small (h : Host) : ∀ p ∈ labels h, p.length ≤ h.name.length := by
  unfold labels
  split
  · exact Oct.split_small 46 h.name
  · simp
theorem tail_length (h : Host) (n : Int) : (host (tailOf h n)).addr.length = 16 := by
  unfold tailOf
  split <;> rfl
/-- The name of the last labels is short. -/
theorem tail_name_length (h : Host) (n : Int) : (host (tailOf h n)).name.length ≤ h.name.length := by
  by_cases hn : 1 ≤ n ∧ n ≤ ((labels h).length : Int)
  · obtain ⟨k, rfl⟩ : ∃ k : Nat, n = k := ⟨n.toNat, by omega⟩
    have hl : labels h ≠ [] := by intro e; rw [e] at hn; simp at hn; omega
    obtain ⟨_, _, _, e⟩ := labels_good hl
    rw [tail_ending (by omega) (by omega)]
    show (ending h.name k).length ≤ _
    rcases Nat.lt_or_ge k (Oct.split 46 h.name).length with a | a
    · exact Nat.le_of_lt (ending_length (by omega) a)
    · rw [ending_whole (by rw [e] at hn; omega)]; exact Nat.le_refl _
  · rw [tail_none hn]; simp [host, zero]
end Hst
/-- The last k texts of a list, joined. -/
theorem join_last {w : World} {B g cap L : Nat} {ps : List (List UInt8)} (hL : ps.length = L) (hown : w.ownsRow B 9 1 (.slice (some ⟨g, 0, none⟩) L cap) L (ps.map strV)) (m : Nat) (hm : ∀ p ∈ ps, p.length ≤ m) (hm1 : m ≤ 1048576) (hn : L ≤ 1048577) (k : Nat) (hk : k ≤ L) :
    Calls Tryz.prog 47 #[.slice (some ⟨g, L - k, none⟩) k (cap - (L - k)), .string ⟨#[46]⟩] w fun e w' => e = .returned (.string ⟨(Lib.join (ps.drop (L - k)) [46]).toArray⟩) ∧ Below w.heap.size w w' := by
  subst hL
  have hdl : (ps.drop (ps.length - k)).length = k := by rw [List.length_drop]; omega
  have hl := Adr.join_length [46] rfl m (ps.drop (ps.length - k)) (fun p hp => hm p (List.mem_of_mem_drop hp))
  rw [hdl] at hl
  have h2 : (m + 1) * k ≤ 1048577 * 1048577 := Nat.mul_le_mul (by omega) (by omega)
  have e1 : (((ps.drop (ps.length - k)).map fun p => (⟨p.toArray⟩ : ByteArray)).map (·.data.toList)) = ps.drop (ps.length - k) := by rw [List.map_map]; exact List.map_id _
  have e2 : (⟨#[46]⟩ : ByteArray).data.toList = [46] := rfl
  have hcap := own_cap hown
  have hlt : g < w.heap.size := (hown.lt g rfl).2
  have h := Tryz.strings_Join g (ps.length - k) (cap - (ps.length - k)) ((ps.drop (ps.length - k)).map fun p => ⟨p.toArray⟩) ⟨#[46]⟩ w (fun j x hx => by
    rw [List.getElem?_map, List.getElem?_drop] at hx
    cases hp : ps[ps.length - k + j]? with
    | none => rw [hp] at hx; cases hx
    | some p => rw [hp] at hx; exact own_text hown hp (Option.some.inj hx).symm) hlt (by rw [List.length_map, hdl]; omega) (by rw [List.length_map, hdl]; omega) (by rw [e1, e2]; omega)
  rw [List.length_map, e1, e2, hdl] at h
  exact h
/-- A host, and whether there is one. -/
def TailHost (o : Option Hst.Host) (w : World) (e : Ending) (w' : World) : Prop := e = .returned (.tuple #[.agg (hostA (Hst.host o)), .bool o.isSome]) ∧ Below w.heap.size w w'
set_option maxRecDepth 100000 in
set_option maxHeartbeats 2000000 in
theorem tail_calls (h : Hst.Host) (ha : h.addr.length = 16) (hs : h.name.length ≤ 1048576) (n : Int) (w : World) (hw : Std w) :
    Calls Tryz.prog 29 #[.agg (hostA h), .int .i64 n] w (TailHost (Hst.tailOf h n) w) := by
  have z0 := zeroHost
  have HZ0 := Lib.hid (show (hostA Hst.zero).size = 18 from rfl)
  have HH := Lib.hid (hostA_size h ha)
  have H1 := Lib.hid (fun W hW => labels_calls h ha hs W hW)
  have hll := Hst.labels_length h
  have HSM := Lib.hid (Hst.labels_small h)
  by_cases hn : 1 ≤ n ∧ n ≤ ((Hst.labels h).length : Int)
  · obtain ⟨k, rfl⟩ : ∃ k : Nat, n = k := ⟨n.toNat, by omega⟩
    have HT : Hid (Hst.tailOf h k = some ⟨1, Lib.join ((Hst.labels h).drop ((Hst.labels h).length - k)) [46], Hst.nil16⟩) := Lib.hid (by unfold Hst.tailOf; rw [if_pos hn]; rfl)
    rw [HT.out]
    clear HT
    generalize Hst.labels h = ps at *
    obtain ⟨L, hL⟩ : ∃ L, ps.length = L := ⟨_, rfl⟩
    rw [hL] at hn hll ⊢
    have HJ := Lib.hid (fun W B g cap ho => join_last (w := W) (B := B) (g := g) (cap := cap) hL ho h.name.length HSM.out hs (by omega) k (by omega))
    unfold NewTexts at H1
    rw [hL] at H1
    obtain ⟨u, hu⟩ : ∃ u : ByteArray, u = ⟨(Lib.join (ps.drop (L - k)) [46]).toArray⟩ := ⟨_, rfl⟩
    have hul : Lib.join (ps.drop (L - k)) [46] = u.data.toList := by rw [hu]
    rw [← hu] at HJ
    rw [hul]
    have HB := Lib.hid (built_name 1 u)
    clear hul hu
    generalize u.data.toList = ul at *
    have HXZ := Lib.hid (hostA_size ⟨1, ul, Hst.nil16⟩ rfl)
    have HPOST : Hid (∀ w', Below w.heap.size w w' → TailHost (some ⟨1, ul, Hst.nil16⟩) w (.returned (.tuple #[.agg (hostA ⟨1, ul, Hst.nil16⟩), .bool true])) w') := Lib.hid (fun w' hb => ⟨rfl, hb⟩)
    generalize TailHost (some ⟨1, ul, Hst.nil16⟩) w = post at *
    generalize hostA h = H at *
    have hz : ((L : Int) - (k : Int)).toNat = L - k := by omega
    have hk1 : L - (L - k) = k := by omega
    have hn1 : ¬ (k : Int) < 1 := by omega
    have hn2 : ¬ (L : Int) < (k : Int) := by omega
    have hLk : 1 ≤ k ∧ k ≤ L := by omega
    clear hn HSM hL ha
    have R0 := Row.new w 25 H
    have B0 := (Below.refl w.heap.size w).alloc (Nat.le_refl _) (.cells H 25)
    go_enter Tryz.func29, Tryz.ntmps29
    go_wp2_with (refine at_slot 8 rfl ?_; refine load_row rfl 25 _ rfl w.heap.size rfl (R0.alloc _) Tryz.underlying25 rfl (by rw [HH.out]; exact infoHost) ?_)
    have hN : (w.alloc (.cells H 25)).heap.size = w.heap.size + 1 := by simp
    generalize w.alloc (.cells H 25) = w0 at *
    have T0 := Row.new w0 25 (hostA Hst.zero)
    have C0 := B0.alloc B0.size (.cells (hostA Hst.zero) 25)
    have s0 : w.heap.size ≤ w.heap.size + 1 := by omega
    generalize w0.alloc (.cells (hostA Hst.zero) 25) = x0 at *
    rw [hN] at T0
    clear hN
    refine (H1.out _ (hw.below C0)).mono ?_
    rintro e v1 ⟨v, rfl, hown, d1⟩
    rcases hown.2 with ⟨_, h0⟩ | ⟨g, cap, cur, rfl, hg, _⟩
    · omega
    have T1 := T0.stays d1
    have C1 := C0.trans (d1.mono C0.size)
    have hcap := own_cap hown
    have HO := Lib.hid hown
    clear hown T0 C0 d1 R0 B0
    go_wp2_with fail
    refine (HJ.out _ _ _ _ HO.out).mono ?_
    rintro e v2 ⟨rfl, d2⟩
    have T2 := T1.stays d2
    have C2 := C1.trans (d2.mono C1.size)
    go_wp2_with (first
      | (refine at_slot 27 rfl ?_; refine build_two rfl 25 0 1 _ _ rfl _ _ rfl rfl (hostA ⟨1, ul, Hst.nil16⟩) HB.out ?_)
      | (refine wpList_store_row rfl 25 _ _ rfl (w.heap.size + 1) (hostA ⟨1, ul, Hst.nil16⟩) rfl rfl 25 _ T2 (by rw [HXZ.out]; exact infoHost) rfl (hostA_one _) ?_))
    exact bodyPost_ret (v := .tuple #[.agg (hostA ⟨1, ul, Hst.nil16⟩), .bool true]) (results_cell_two rfl _ _ (w.heap.size + 1) _ _ _ rfl _ rfl (T2.whole _) Tryz.underlying25 rfl (by rw [HXZ.out]; exact infoHost)) rfl (HPOST.out _ (below_setRow C2 s0 _))
  · have HT : Hid (Hst.tailOf h n = none) := Lib.hid (Hst.tail_none hn)
    rw [HT.out]
    clear HT
    generalize Hst.labels h = ps at *
    obtain ⟨L, hL⟩ : ∃ L, ps.length = L := ⟨_, rfl⟩
    rw [hL] at hn hll
    unfold NewTexts at H1
    rw [hL] at H1
    have HPOST : Hid (∀ w', Below w.heap.size w w' → TailHost none w (.returned (.tuple #[.agg (hostA Hst.zero), .bool false])) w') := Lib.hid (fun w' hb => ⟨rfl, hb⟩)
    generalize TailHost none w = post at *
    generalize hostA h = H at *
    clear HSM hL ha
    have R0 := Row.new w 25 H
    have B0 := (Below.refl w.heap.size w).alloc (Nat.le_refl _) (.cells H 25)
    go_enter Tryz.func29, Tryz.ntmps29
    go_wp2_with (refine at_slot 8 rfl ?_; refine load_row rfl 25 _ rfl w.heap.size rfl (R0.alloc _) Tryz.underlying25 rfl (by rw [HH.out]; exact infoHost) ?_)
    have hN : (w.alloc (.cells H 25)).heap.size = w.heap.size + 1 := by simp
    generalize w.alloc (.cells H 25) = w0 at *
    have T0 := Row.new w0 25 (hostA Hst.zero)
    have C0 := B0.alloc B0.size (.cells (hostA Hst.zero) 25)
    have s0 : w.heap.size ≤ w.heap.size + 1 := by omega
    generalize w0.alloc (.cells (hostA Hst.zero) 25) = x0 at *
    rw [hN] at T0
    clear hN
    refine (H1.out _ (hw.below C0)).mono ?_
    rintro e v1 ⟨v, rfl, hown, d1⟩
    have T1 := T0.stays d1
    have C1 := C0.trans (d1.mono C0.size)
    have hnn : n < 1 ∨ (¬ n < 1 ∧ (L : Int) < n) := by omega
    rcases hown.2 with ⟨rfl, h0⟩ | ⟨g, cap, cur, rfl, hg, _⟩
    · subst h0
      clear hown d1 hn
      rcases hnn with h1 | ⟨h1, h2⟩
      all_goals
        go_wp2_with (first
          | (refine wpList_store_row rfl 25 _ _ rfl (w.heap.size + 1) (hostA Hst.zero) rfl rfl 25 _ T1 (by rw [HZ0.out]; exact infoHost) rfl (hostA_one _) ?_))
        exact bodyPost_ret (v := .tuple #[.agg (hostA Hst.zero), .bool false]) (results_cell_two rfl _ _ (w.heap.size + 1) _ _ _ rfl _ rfl (T1.whole _) Tryz.underlying25 rfl (by rw [HZ0.out]; exact infoHost)) rfl (HPOST.out _ (below_setRow C1 s0 _))
    · clear hown d1 hn
      rcases hnn with h1 | ⟨h1, h2⟩
      all_goals
        go_wp2_with (first
          | (refine wpList_store_row rfl 25 _ _ rfl (w.heap.size + 1) (hostA Hst.zero) rfl rfl 25 _ T1 (by rw [HZ0.out]; exact infoHost) rfl (hostA_one _) ?_))
        exact bodyPost_ret (v := .tuple #[.agg (hostA Hst.zero), .bool false]) (results_cell_two rfl _ _ (w.heap.size + 1) _ _ _ rfl _ rfl (T1.whole _) Tryz.underlying25 rfl (by rw [HZ0.out]; exact infoHost)) rfl (HPOST.out _ (below_setRow C1 s0 _))
end Go.Proofs.YtkajddopjflniaaGreatDoor
