/- The walk of V6. -/
import Derived.Test.YtjfipedcjahbkaaGreatDoorCells
import Derived.Test.YtjfipedcjahbkaaGreatDoorStd
import Derived.Laws.CopyOwn
import Derived.Deep.MidRow
namespace Go.Proofs.YtjfipedcjahbkaaGreatDoor
open Go.RowKit
theorem fits_two (n m : Nat) (gap : Bool) (w : World) (hn : n + m ≤ 1099511627776) :
    Calls Tryz.prog 77 #[.int .i64 ((n : Int) + (m : Int)), .bool gap] w fun e w' => e = .returned (.bool (Adr.fits (n + m) gap)) ∧ w = w' := by
  rw [show (n : Int) + (m : Int) = ((n + m : Nat) : Int) by omega]
  exact fits_calls (n + m) gap w hn
namespace Adr
theorem row_length (s : List UInt8) : (row s).length ≤ s.length + 1 := by
  unfold row
  split
  · simp
  · rw [List.length_map]; exact Oct.split_length 58 s
theorem cut_small (s : List UInt8) : (Lib.cut s [58, 58]).1.length ≤ s.length ∧ (Lib.cut s [58, 58]).2.1.length ≤ s.length := by
  unfold Lib.cut
  split
  · simp; omega
  · simp
theorem v6_some {s b h : List UInt8} {gap : Bool} (hc : Lib.cut s [58, 58] = (b, h, gap)) (h1 : isRow b = true) (h2 : isRow h = true) (h3 : fits ((row b).length + (row h).length) gap = true) :
    v6 s = some (row b ++ List.replicate (8 - ((row b).length + (row h).length)) 0 ++ row h) := by
  unfold v6; rw [hc]; simp only; rw [if_pos ⟨h1, h2, h3⟩]
theorem v6_none {s b h : List UInt8} {gap : Bool} (hc : Lib.cut s [58, 58] = (b, h, gap)) (hn : isRow b = false ∨ isRow h = false ∨ fits ((row b).length + (row h).length) gap = false) : v6 s = none := by
  unfold v6; rw [hc]; simp only
  refine if_neg fun ⟨h1, h2, h3⟩ => ?_
  rcases hn with hn | hn | hn
  · rw [hn] at h1; cases h1
  · rw [hn] at h2; cases h2
  · rw [hn] at h3; cases h3
theorem fits_le {n : Nat} {gap : Bool} (h : fits n gap = true) : n ≤ 8 := by
  unfold fits at h
  split at h <;> (have := of_decide_eq_true h; omega)
end Adr
theorem infoWordSize : (Tryz.prog.info? 94).map (·.size) = some 1 := by kernel_rfl
/-- The address of a text, and whether it is one; new memory. -/
def NewAddr (a : List UInt8) (ok : Bool) (w : World) (e : Ending) (w' : World) : Prop := e = .returned (.tuple #[.agg (bytesA a), .bool ok]) ∧ Below w.heap.size w w'

theorem no_addr {s : List UInt8} (h : Adr.v6 s = none) : NewAddr (Adr.addrOf (Adr.v6 s)) (Adr.v6 s).isSome = NewAddr zA false := by rw [h]; rfl
theorem copy_len (r : List UInt16) (n : Nat) (h : r.length ≤ n) : Hid ((r.map wordV).length = Nat.min r.length n) := by
  show (r.map wordV).length = Nat.min r.length n
  rw [List.length_map]; exact (Nat.min_eq_left h).symm
theorem copy_src {w w' : World} {A : Option Addr} {r : List UInt16} {B : Nat} (h : 0 < r.length → ∃ g, A = some ⟨g, 0, none⟩ ∧ B ≤ g ∧ Row w g 94 (wordsA r)) (hb : Below w.heap.size w w') :
    Hid (0 < (r.map wordV).length → ∃ ad, A = some ad ∧ ∀ j v, (r.map wordV)[j]? = some v → w'.cell? (ad.add j) = some v) := by
  intro hp
  rw [List.length_map] at hp
  obtain ⟨g, e, hg, hr⟩ := h hp
  refine ⟨_, e, fun j v hj => ?_⟩
  have R := hr.stays hb
  rw [Addr.add_mid, Nat.zero_add, R.cell, wordsA, List.getElem?_toArray]
  exact hj
theorem lenGroups : Tryz.prog.arrayLen 95 = 8 := by kernel_rfl
theorem elemGroups : Tryz.prog.elem 95 = 94 := by kernel_rfl
theorem slice_tail (g m : Nat) (hm : m ≤ 8) : ∃ A : Addr, (0 < m → A = ⟨g, 8 - m, none⟩) ∧
    ∀ W, (Instr.sliceAt 95 (.pointer (some ⟨g, 0, none⟩)) (some (.int .i64 (8 - (m : Int)))) none none).run Tryz.prog W = .ok (.slice (some A) m m) W := by
  refine ⟨if 8 = 8 - m then ⟨g, 0, none⟩ else (⟨g, 0, none⟩ : Addr).add ((8 - m) * 1), fun h => ?_, fun W => ?_⟩
  · rw [if_neg (by omega), Addr.add_mid, Nat.zero_add, Nat.mul_one]
  · have ht : Tryz.prog.underlying 95 = some (.array (Tryz.prog.arrayLen 95) (Tryz.prog.elem 95)) := by rw [lenGroups, elemGroups]; exact Tryz.underlying95
    rw [run_sliceAt_array_l W 95 ⟨g, 0, none⟩ ht .i64 (8 - (m : Int)) (by omega) (by rw [lenGroups]; omega), elemGroups]
    have hs : (sizeOf 94).run Tryz.prog W = .ok 1 W := by kernel_rfl
    rw [hs, Result.andThen_ok, lenGroups, slicedAt]
    have e : (8 - (m : Int)).toNat = 8 - m := by omega
    have e2 : 8 - (8 - m) = m := by omega
    rw [e, e2]
theorem splice_map {α β : Type} (f : α → β) (l : List α) (o : Nat) (c : List α) : splice (l.map f) o (c.map f) = (splice l o c).map f := by
  unfold splice; simp [List.map_take, List.map_drop]
theorem splice_groups (b h : List UInt16) (hle : b.length + h.length ≤ 8) : splice (splice zG 0 b) (8 - h.length) h = b ++ List.replicate (8 - (b.length + h.length)) 0 ++ h := by
  unfold splice zG
  have e1 : b ++ List.drop (0 + b.length) (List.replicate 8 (0 : UInt16)) = b ++ List.replicate (8 - b.length) 0 := by rw [Nat.zero_add, List.drop_replicate]
  have e2 : ([] : List UInt16) ++ (b ++ List.replicate (8 - b.length) 0) = b ++ List.replicate (8 - b.length) 0 := rfl
  rw [List.take_zero, e1, e2, List.take_append, List.take_of_length_le (by omega), List.take_replicate, List.drop_eq_nil_of_le (by simp; omega), List.append_nil]
  have e3 : min (8 - h.length - b.length) (8 - b.length) = 8 - (b.length + h.length) := by omega
  rw [e3]
theorem row_groups {w : World} {g : Nat} (b h : List UInt16) (hle : b.length + h.length ≤ 8) (hw : w.heap[g]? = some (.cells (splice (splice (zG.map wordV) 0 (b.map wordV)) (8 - h.length) (h.map wordV)).toArray 95 (0, 0))) :
    Row w g 95 (wordsA (b ++ List.replicate (8 - (b.length + h.length)) 0 ++ h)) := by
  rw [splice_map, splice_map, splice_groups b h hle] at hw
  exact hw
theorem words_one (r : List UInt16) : ∀ v ∈ r.map wordV, v.oneCell' = true := by
  intro v hv; obtain ⟨x, _, rfl⟩ := List.mem_map.1 hv; rfl

set_option maxHeartbeats 2000000 in
theorem v6_calls (s : ByteArray) (w : World) (hw : Std w) (hs : s.size ≤ 1048576) :
    Calls Tryz.prog 55 #[.string s] w (NewAddr (Adr.addrOf (Adr.v6 s.data.toList)) (Adr.v6 s.data.toList).isSome w) := by
  have hcs := Adr.cut_small s.data.toList
  rw [Oct.length_bytes] at hcs
  have HC := Lib.hid (fun W (h : Std W) => cut_calls s ⟨#[58, 58]⟩ W h (by omega))
  have esep : (⟨#[58, 58]⟩ : ByteArray).data.toList = [58, 58] := rfl
  rw [esep] at HC
  clear esep
  generalize hcut : Lib.cut s.data.toList [58, 58] = c at *
  obtain ⟨b, h, gap⟩ := c
  have HCUT := Lib.hid hcut
  clear hcut
  simp only at HC hcs
  have lb := Adr.row_length b
  have lh := Adr.row_length h
  obtain ⟨sb, hsb⟩ : ∃ x : ByteArray, x = ⟨b.toArray⟩ := ⟨_, rfl⟩
  obtain ⟨sh, hsh⟩ : ∃ x : ByteArray, x = ⟨h.toArray⟩ := ⟨_, rfl⟩
  have zb : sb.size = b.length := by rw [hsb]; exact List.size_toArray
  have zh : sh.size = h.length := by rw [hsh]; exact List.size_toArray
  have RB := Lib.hid (fun W => row_calls sb W (by omega))
  have RH := Lib.hid (fun W => row_calls sh W (by omega))
  have eb : sb.data.toList = b := by rw [hsb]
  have eh : sh.data.toList = h := by rw [hsh]
  rw [eb] at RB
  rw [eh] at RH
  rw [← hsb, ← hsh] at HC
  clear hsb hsh zb zh eb eh
  have z1 := bytesA_zA
  have z2 := wordsA_zG
  go_enter Tryz.func55, Tryz.ntmps55
  go_wp2_with fail
  have H0 := hw.below ((Below.refl _ _).alloc (Nat.le_refl _) (.cells (bytesA zA) 43))
  have R0 := Row.new w 43 (bytesA zA)
  have B0 := (Below.refl w.heap.size w).alloc (Nat.le_refl _) (.cells (bytesA zA) 43)
  have s0 : w.heap.size < (w.alloc (.cells (bytesA zA) 43)).heap.size := by simp
  generalize w.alloc (.cells (bytesA zA) 43) = w0 at *
  refine (HC.out _ H0).mono ?_
  rintro e w1 ⟨rfl, b1⟩
  have R1 := R0.stays b1
  have B1 := B0.trans (b1.mono (Nat.le_of_lt s0))
  have s1 := b1.size
  clear R0 B0 b1 HC H0
  go_wp2_with fail
  refine (RB.out _).mono ?_
  rintro e w2 hr
  obtain ⟨b2, hr⟩ := hr.parts
  have R2 := R1.stays b2
  have B2 := B1.trans (b2.mono (by omega))
  have s2 := b2.size
  clear R1 B1 b2
  cases hf : Adr.fits ((Adr.row b).length + (Adr.row h).length) gap with
  | true =>
    have hle := Adr.fits_le hf
    have FT := Lib.hid (fun W => fits_two (Adr.row b).length (Adr.row h).length gap W (by omega))
    rw [hf] at FT
    have HF := Lib.hid hf
    clear hf
    rcases hr with ⟨y1, rfl⟩ | ⟨y1, A, rfl, hA⟩
    · have HN := Lib.hid (no_addr (Adr.v6_none HCUT.out (.inl y1)))
      clear y1
      go_wp2_with fail
      refine (RH.out _).mono ?_
      rintro e w3 hr
      obtain ⟨b3, hr⟩ := hr.parts
      have R3 := R2.stays b3
      have B3 := B2.trans (b3.mono (by omega))
      clear R2 B2 b3
      rcases hr with ⟨y2, rfl⟩ | ⟨y2, A2, rfl, hA2⟩
      all_goals
        clear y2
        go_wp2_with (refine wpList_store_row rfl 43 _ _ rfl w.heap.size (bytesA zA) rfl rfl 43 _ R3 infoAddr rfl (bytesA_one _) ?_)
        rw [HN.out]
        exact bodyPost_ret (results_cell_two rfl _ _ w.heap.size _ _ _ rfl _ rfl (R3.whole _) Tryz.underlying43 rfl infoAddr) rfl ⟨rfl, below_setRow B3 (Nat.le_refl _) _⟩
    · have HY1 := Lib.hid y1
      clear y1
      go_wp2_with fail
      refine (RH.out _).mono ?_
      rintro e w3 hr
      obtain ⟨b3, hr⟩ := hr.parts
      have R3 := R2.stays b3
      have B3 := B2.trans (b3.mono (by omega))
      have hA3 : 0 < (Adr.row b).length → ∃ g, A = some ⟨g, 0, none⟩ ∧ w1.heap.size ≤ g ∧ Row w3 g 94 (wordsA (Adr.row b)) := fun hp => by
        obtain ⟨g, e, hg, hr⟩ := hA hp
        exact ⟨g, e, hg, hr.stays b3⟩
      have s3 := b3.size
      clear R2 B2 b3 hA
      rcases hr with ⟨y2, rfl⟩ | ⟨y2, A2, rfl, hA2⟩
      · have HN := Lib.hid (no_addr (Adr.v6_none HCUT.out (.inr (.inl y2))))
        clear y2
        go_wp2_with (refine wpList_store_row rfl 43 _ _ rfl w.heap.size (bytesA zA) rfl rfl 43 _ R3 infoAddr rfl (bytesA_one _) ?_)
        rw [HN.out]
        exact bodyPost_ret (results_cell_two rfl _ _ w.heap.size _ _ _ rfl _ rfl (R3.whole _) Tryz.underlying43 rfl infoAddr) rfl ⟨rfl, below_setRow B3 (Nat.le_refl _) _⟩
      · have HS := Lib.hid (Adr.v6_some HCUT.out HY1.out y2 HF.out)
        have HG := Lib.hid (show (Adr.row b ++ List.replicate (8 - ((Adr.row b).length + (Adr.row h).length)) 0 ++ Adr.row h).length = 8 by simp; omega)
        clear y2
        have HA3 := Lib.hid hA3
        have HA2 := Lib.hid hA2
        clear hA3 hA2
        have P1 := copy_len (Adr.row b) 8 (by omega)
        have P2 := copy_src HA3.out ((Below.refl w3.heap.size w3).alloc (Nat.le_refl _) (.cells (wordsA zG) 95))
        have P3 := Lib.hid (show 0 + ((Adr.row b).map wordV).length ≤ (zG.map wordV).length by simp [zG_length]; omega)
        have Q1 := copy_len (Adr.row h) (Adr.row h).length (Nat.le_refl _)
        obtain ⟨A3, hA3, hsl⟩ := slice_tail w3.heap.size (Adr.row h).length (by omega)
        have HA4 := Lib.hid hA3
        clear hA3
        have Q3 := Lib.hid (show 8 - (Adr.row h).length + ((Adr.row h).map wordV).length ≤ (splice (zG.map wordV) 0 ((Adr.row b).map wordV)).length by rw [length_splice _ _ _ P3.out, List.length_map, List.length_map, zG_length]; omega)
        go_wp2_with (first
          | (go_at_call 77; refine (FT.out _).mono ?_; rintro e w4 ⟨rfl, rfl⟩)
          | (refine at_slot 47 rfl ?_
             refine wpList_copy_splice rfl (.tmp 45) (.tmp 46) 90 90 rfl 94 Tryz.underlying90 infoWordSize (some ⟨w3.heap.size, 0, none⟩) A 8 8 (Adr.row b).length (Adr.row b).length rfl rfl
               w3.heap.size 0 (zG.map wordV) 95 (Row.new w3 95 (wordsA zG)) ((Adr.row b).map wordV) P1.out (fun hp => ⟨rfl, P2.out hp⟩) P3.out (words_one _) w3.heap.size _ (Below.refl _ _) (Nat.le_refl _) ?_
             intro w4 hw4 hb4
             have HB4 := Lib.hid (((Below.refl w3.heap.size w3).alloc (Nat.le_refl _) (.cells (wordsA zG) 95)).trans hb4)
             have s4 : w3.heap.size < w4.heap.size := by have := hb4.size; simp at this; omega
             have Q2 := copy_src HA2.out HB4.out
             clear hb4)
          | (refine at_slot 53 rfl ?_
             refine wpList_copy_splice rfl (.tmp 51) (.tmp 52) 90 90 rfl 94 Tryz.underlying90 infoWordSize (some A3) A2 (Adr.row h).length (Adr.row h).length (Adr.row h).length (Adr.row h).length rfl rfl
               w3.heap.size (8 - (Adr.row h).length) (splice (zG.map wordV) 0 ((Adr.row b).map wordV)) 95 hw4.out ((Adr.row h).map wordV) Q1.out (fun hp => ⟨by rw [HA4.out (by simpa using hp)], Q2.out hp⟩) Q3.out (words_one _) w3.heap.size _ (Below.refl _ _) (Nat.le_refl _) ?_
             intro w5 hw5 hb5
             have HB5 := Lib.hid (HB4.out.trans hb5)
             have R5 := row_groups (Adr.row b) (Adr.row h) hle hw5.out
             generalize Adr.row b ++ List.replicate (8 - ((Adr.row b).length + (Adr.row h).length)) 0 ++ Adr.row h = G at *
             have R6 := R3.stays HB5.out
             have HT := Lib.hid (fun W => from_calls G HG.out W)
             have HZ := Lib.hid (show (wordsA G).size = 8 by rw [wordsA_size, HG.out])
             clear hb5)
          | (refine at_slot 54 rfl ?_
             refine wpList_load_row rfl 95 _ rfl w3.heap.size rfl 95 _ (0, 0) _ R5 Tryz.underlying95 rfl (by rw [HZ.out]; exact infoGroups) ?_)
          | (go_at_call 78
             refine (HT.out _).mono ?_
             rintro e w6 ⟨rfl, b6⟩
             have R7 := R6.stays b6
             have HZ2 := Lib.hid (show (bytesA (Adr.from_ G)).size = 16 by rw [bytesA_size, Adr.from_length, HG.out]))
          | (refine wpList_store_row rfl 43 _ _ rfl w.heap.size (bytesA (Adr.from_ G)) rfl rfl 43 _ R7 (by rw [HZ2.out]; exact infoAddr) (by rw [HZ2.out]; rfl) (bytesA_one _) ?_))
        rw [HS.out]
        have s35 : w3.heap.size ≤ w5.heap.size := HB5.out.size
        have s03 : w.heap.size ≤ w3.heap.size := B3.size
        have B6 := B3.trans ((HB5.out.trans (b6.mono s35)).mono s03)
        exact bodyPost_ret (results_cell_two rfl _ _ w.heap.size _ _ _ rfl _ rfl (R7.whole _) Tryz.underlying43 rfl (by rw [HZ2.out]; exact infoAddr)) rfl ⟨rfl, below_setRow B6 (Nat.le_refl _) _⟩
  | false =>
    have HN := Lib.hid (no_addr (Adr.v6_none HCUT.out (.inr (.inr hf))))
    have FT := Lib.hid (fun W => fits_two (Adr.row b).length (Adr.row h).length gap W (by omega))
    rw [hf] at FT
    have HF := Lib.hid hf
    clear hf
    rcases hr with ⟨y1, rfl⟩ | ⟨y1, A, rfl, hA⟩
    all_goals
      have HY1 := Lib.hid y1
      clear y1
      go_wp2_with fail
      refine (RH.out _).mono ?_
      rintro e w3 hr
      obtain ⟨b3, hr⟩ := hr.parts
      have R3 := R2.stays b3
      have B3 := B2.trans (b3.mono (by omega))
      clear R2 B2 b3
      rcases hr with ⟨y2, rfl⟩ | ⟨y2, A2, rfl, hA2⟩
      all_goals
        have HY2 := Lib.hid y2
        clear y2
        go_wp2_with (first
          | (go_at_call 77; refine (FT.out _).mono ?_; rintro e w4 ⟨rfl, rfl⟩)
          | (refine wpList_store_row rfl 43 _ _ rfl w.heap.size (bytesA zA) rfl rfl 43 _ R3 infoAddr rfl (bytesA_one _) ?_))
        rw [HN.out]
        exact bodyPost_ret (results_cell_two rfl _ _ w.heap.size _ _ _ rfl _ rfl (R3.whole _) Tryz.underlying43 rfl infoAddr) rfl ⟨rfl, below_setRow B3 (Nat.le_refl _) _⟩
end Go.Proofs.YtjfipedcjahbkaaGreatDoor
