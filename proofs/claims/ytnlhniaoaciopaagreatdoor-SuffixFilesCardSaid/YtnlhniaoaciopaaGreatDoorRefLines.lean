/- The walk of the reference's Lines. -/
import Derived.Test.YtnlhniaoaciopaaGreatDoorWords
import Derived.Test.YtnlhniaoaciopaaGreatDoorLines
import Derived.Maps.AppendAt
namespace Go.Proofs.YtnlhniaoaciopaaGreatDoor
open Go.RowKit

set_option maxRecDepth 100000 in
set_option maxHeartbeats 4000000 in
theorem refLines_empty (s : ByteArray) (w : World) (hs : s.size ≤ 1099511627776) (pl : List UInt8) (hlast : (Oct.split 10 s.data.toList)[(Oct.split 10 s.data.toList).length - 1]? = some pl) (he : pl.isEmpty = true) :
    Calls Tryz.prog 33 #[.string s] w (NewTexts w.heap.size (Oct.lines s.data.toList) w) := by
  obtain ⟨i0, hi, hz0, hz1, hz2⟩ := info_parts infoStr
  have hlen := Oct.split_length 10 s.data.toList
  have hp := Oct.split_pos 10 s.data.toList
  have HSM := Lib.hid (Oct.split_small 10 s.data.toList)
  have HCUT := Lib.hid (fun k (hk : k = (Oct.split 10 s.data.toList).length - 1) => Oct.linesTo_cut (l := s.data.toList) hk (by rw [hk, hlast, List.isEmpty_iff.1 he]))
  rw [Oct.length_bytes] at hlen HSM
  have HC : ∀ W, Calls Tryz.prog 28 #[.string s, .int .u8 10] W (NewTextsAt W.heap.size (Oct.split 10 s.data.toList) W) := fun W => refSplit_at s 10 W hs
  generalize Oct.split 10 s.data.toList = ps at *
  have HCC := Lib.hid HC
  have HLA := Lib.hid hlast
  have HEM := Lib.hid he
  clear HC hlast he
  go_enter Tryz.func33, Tryz.ntmps33
  go_wp2_with (go_at_call 28; refine (HCC.out _).mono ?_; rintro e w1 ⟨g, cap, rfl, hps0, hb0⟩)
  have hgb := (hps0.lt g rfl).1
  go_loopw [3, 12] (fun v i wr => ∃ k : Nat, k ≤ ps.length - 1 ∧ i = .int .i64 k ∧ wr.ownsRow w.heap.size 9 1 v k ((Oct.linesTo ps k).map strV) ∧ wr.ownsRow (w.heap.size + 1) 9 1 (.slice (some ⟨g, 0, none⟩) ps.length cap) ps.length (ps.map strV) ∧ v.ownBlock ≠ some g ∧ Below w.heap.size w wr) (fun _ i _ => ps.length - (intOf i).toNat)
  case atStart =>
    have h0 : (w.alloc (.cells #[] 9)).ownsRow w.heap.size 9 1 (.slice (some ⟨w.heap.size, 0, none⟩) 0 0) 0 [] := World.ownsRow_made w #[] 0 (Nat.le_refl _) (Nat.zero_le _) rfl
    have hge : w.heap.size + 1 ≤ g := by simpa using hgb
    refine ⟨0, by omega, rfl, ?_, by simpa using hps0, ?_, ?_⟩
    · rw [Oct.linesTo_zero]
      exact h0.kept (row := none) ⟨hb0.os, hb0.tape, hb0.output, hb0.size, fun i hi _ => hb0.block i hi⟩ (.inr (by simp [Value.ownBlock]))
    · simp [Value.ownBlock]; omega
    · exact ((Below.refl _ w).alloc (Nat.le_refl _) _).trans (hb0.mono (by simp))
  case round =>
    obtain ⟨k, hk, rfl, hown, hps, hne, hb⟩ := hrel
    clear hps0 hb0 hgb
    by_cases hlt : k < ps.length - 1
    · have hlt3 : k < ps.length := by omega
      obtain ⟨p, hp⟩ : ∃ p, ps[k]? = some p := ⟨_, List.getElem?_eq_getElem (by omega)⟩
      obtain ⟨t, ht⟩ : ∃ t : ByteArray, t = ⟨p.toArray⟩ := ⟨_, rfl⟩
      have htp : t.data.toList = p := by rw [ht]
      have hcell := own_text hps hp ht
      have hts : t.size ≤ s.size := by
        have h1 := HSM.out p (List.mem_of_getElem? hp)
        have h2 : t.size = p.length := by rw [ht]; exact List.size_toArray
        omega
      have hE : t.toList.isEmpty = p.isEmpty := by rw [Oct.bytes_data, htp]
      have HLS := Lib.hid (Oct.linesTo_step hp)
      have HPS := Lib.hid hps
      have hi2 : ((k : Int) == (ps.length : Int) - 1) = false := by rw [beq_eq_false_iff_ne]; omega
      clear hE
      have hor : (t.size ≤ 0 ∧ (⟨(Oct.chop t.data.toList).toArray⟩ : ByteArray) = t) ∨ ((∃ h : t.size - 1 < t.size, ((t[t.size - 1].toNat : Int) == 13) = true) ∧ (⟨(Oct.chop t.data.toList).toArray⟩ : ByteArray) = t.extract 0 (t.size - 1)) ∨ ((∃ h : t.size - 1 < t.size, ((t[t.size - 1].toNat : Int) == 13) = false) ∧ (⟨(Oct.chop t.data.toList).toArray⟩ : ByteArray) = t) := by
        by_cases h0 : t.size ≤ 0
        · exact .inl ⟨h0, Oct.chop_nil t (by omega)⟩
        · have hlt2 : t.size - 1 < t.size := by omega
          by_cases hc : (t[t.size - 1].toNat : Int) = 13
          · exact .inr (.inl ⟨⟨hlt2, by simpa using hc⟩, Oct.chop_yes t hlt2 hc⟩)
          · exact .inr (.inr ⟨⟨hlt2, by simpa using hc⟩, Oct.chop_no t hlt2 hc⟩)
      have hz : ((t.size : Int) - 1).toNat = t.size - 1 := by omega
      have hbs := hb.size
      have HTP := Lib.hid htp
      clear ht htp hp hps
      rcases hor with ⟨h0, hch⟩ | ⟨⟨hlt2, hc⟩, hch⟩ | ⟨⟨hlt2, hc⟩, hch⟩
      · have HCH := Lib.hid hch
        clear hch
        go_wp2_with (at_builtin; refine wpList_append_own_at _ rfl _ _ 46 rfl w.heap.size 9 i0 (.string ⟨#[]⟩) 1 16 Tryz.underlying46 hi hz0 hz1 hz2 rfl (by decide) _ _ _ rfl (hown.alloc _) ⟨wr.heap.size, 0, none⟩ 1 1 [.string t] rfl rfl (cell_one_new _ _ _) ?ca0a ?ca0b ?ca0c ?ca0d ?_)
        case ca0a => intro x hx; simp at hx; subst hx; rfl
        case ca0b => simp only [maxLen]; omega
        case ca0c => omega
        case ca0d => simp; omega
        · intro v' w2 hown' hgrow _ hat
          have R : w2.ownsRow w.heap.size 9 1 v' (k + 1) ((Oct.linesTo ps (k + 1)).map strV) := by
            rw [HLS.out, List.map_append, List.map_singleton, ← HTP.out, show strV (Oct.chop t.data.toList) = .string t from by unfold strV; rw [HCH.out]]
            exact hown'
          have B := hb.trans (((Below.refl _ wr).alloc hbs _).grown hgrow (by simp; omega) (fun g hg => (hown.lt g hg).1))
          have hgl := (HPS.out.lt g rfl).2
          have P2 := (HPS.out.alloc (.cells #[.string t] 9)).kept hgrow (.inr (by intro e; exact hne e.symm))
          have N2 : v'.ownBlock ≠ some g := by
            rcases hat with e | e
            · rw [e]; exact hne
            · rw [e]; simp; omega
          clear hown' hgrow hown hat
          go_wp2
          go_roundw
          case rel => exact ⟨k + 1, by omega, by go_num, R, P2, N2, B⟩
          case measure => simp [intOf]; omega
      · have h1 : 0 < t.size := by omega
        have HCH := Lib.hid hch
        clear hch
        go_wp2_with (at_builtin; refine wpList_append_own_at _ rfl _ _ 46 rfl w.heap.size 9 i0 (.string ⟨#[]⟩) 1 16 Tryz.underlying46 hi hz0 hz1 hz2 rfl (by decide) _ _ _ rfl (hown.alloc _) ⟨wr.heap.size, 0, none⟩ 1 1 [.string (t.extract 0 (t.size - 1))] rfl rfl (cell_one_new _ _ _) ?ca1a ?ca1b ?ca1c ?ca1d ?_)
        case ca1a => intro x hx; simp at hx; subst hx; rfl
        case ca1b => simp only [maxLen]; omega
        case ca1c => omega
        case ca1d => simp; omega
        · intro v' w2 hown' hgrow _ hat
          have R : w2.ownsRow w.heap.size 9 1 v' (k + 1) ((Oct.linesTo ps (k + 1)).map strV) := by
            rw [HLS.out, List.map_append, List.map_singleton, ← HTP.out, show strV (Oct.chop t.data.toList) = .string (t.extract 0 (t.size - 1)) from by unfold strV; rw [HCH.out]]
            exact hown'
          have B := hb.trans (((Below.refl _ wr).alloc hbs _).grown hgrow (by simp; omega) (fun g hg => (hown.lt g hg).1))
          have hgl := (HPS.out.lt g rfl).2
          have P2 := (HPS.out.alloc (.cells #[.string (t.extract 0 (t.size - 1))] 9)).kept hgrow (.inr (by intro e; exact hne e.symm))
          have N2 : v'.ownBlock ≠ some g := by
            rcases hat with e | e
            · rw [e]; exact hne
            · rw [e]; simp; omega
          clear hown' hgrow hown hat
          go_wp2
          go_roundw
          case rel => exact ⟨k + 1, by omega, by go_num, R, P2, N2, B⟩
          case measure => simp [intOf]; omega
      · have h1 : 0 < t.size := by omega
        have HCH := Lib.hid hch
        clear hch
        go_wp2_with (at_builtin; refine wpList_append_own_at _ rfl _ _ 46 rfl w.heap.size 9 i0 (.string ⟨#[]⟩) 1 16 Tryz.underlying46 hi hz0 hz1 hz2 rfl (by decide) _ _ _ rfl (hown.alloc _) ⟨wr.heap.size, 0, none⟩ 1 1 [.string t] rfl rfl (cell_one_new _ _ _) ?ca2a ?ca2b ?ca2c ?ca2d ?_)
        case ca2a => intro x hx; simp at hx; subst hx; rfl
        case ca2b => simp only [maxLen]; omega
        case ca2c => omega
        case ca2d => simp; omega
        · intro v' w2 hown' hgrow _ hat
          have R : w2.ownsRow w.heap.size 9 1 v' (k + 1) ((Oct.linesTo ps (k + 1)).map strV) := by
            rw [HLS.out, List.map_append, List.map_singleton, ← HTP.out, show strV (Oct.chop t.data.toList) = .string t from by unfold strV; rw [HCH.out]]
            exact hown'
          have B := hb.trans (((Below.refl _ wr).alloc hbs _).grown hgrow (by simp; omega) (fun g hg => (hown.lt g hg).1))
          have hgl := (HPS.out.lt g rfl).2
          have P2 := (HPS.out.alloc (.cells #[.string t] 9)).kept hgrow (.inr (by intro e; exact hne e.symm))
          have N2 : v'.ownBlock ≠ some g := by
            rcases hat with e | e
            · rw [e]; exact hne
            · rw [e]; simp; omega
          clear hown' hgrow hown hat
          go_wp2
          go_roundw
          case rel => exact ⟨k + 1, by omega, by go_num, R, P2, N2, B⟩
          case measure => simp [intOf]; omega
    · have hkk : ps[k]? = some pl := by rw [show k = ps.length - 1 by omega]; exact HLA.out
      obtain ⟨t, ht⟩ : ∃ t : ByteArray, t = ⟨pl.toArray⟩ := ⟨_, rfl⟩
      have hcell := own_text hps hkk ht
      have hE : t.toList.isEmpty = true := by rw [Oct.bytes_data, ht]; exact HEM.out
      have hi2 : ((k : Int) == (ps.length : Int) - 1) = true := by rw [beq_iff_eq]; omega
      have hlt3 : k < ps.length := by omega
      have HF := Lib.hid (HCUT.out k (by omega))
      have HN := Lib.hid (Oct.linesTo_length (ps := ps) (k := k) (by omega))
      clear ht hkk
      go_wp2
      go_ret
      refine ⟨_, rfl, ?_, hb⟩
      rw [← HF.out, HN.out]
      exact hown

set_option maxRecDepth 100000 in
set_option maxHeartbeats 4000000 in
theorem refLines_full (s : ByteArray) (w : World) (hs : s.size ≤ 1099511627776) (pl : List UInt8) (hlast : (Oct.split 10 s.data.toList)[(Oct.split 10 s.data.toList).length - 1]? = some pl) (he : pl.isEmpty = false) :
    Calls Tryz.prog 33 #[.string s] w (NewTexts w.heap.size (Oct.lines s.data.toList) w) := by
  obtain ⟨i0, hi, hz0, hz1, hz2⟩ := info_parts infoStr
  have hlen := Oct.split_length 10 s.data.toList
  have hp := Oct.split_pos 10 s.data.toList
  have HSM := Lib.hid (Oct.split_small 10 s.data.toList)
  have HCUT := Lib.hid (fun k (hk : (Oct.split 10 s.data.toList).length ≤ k) => Oct.linesTo_all (l := s.data.toList) hk hlast he)
  rw [Oct.length_bytes] at hlen HSM
  have HC : ∀ W, Calls Tryz.prog 28 #[.string s, .int .u8 10] W (NewTextsAt W.heap.size (Oct.split 10 s.data.toList) W) := fun W => refSplit_at s 10 W hs
  generalize Oct.split 10 s.data.toList = ps at *
  have HCC := Lib.hid HC
  have HLA := Lib.hid hlast
  have HEM := Lib.hid he
  clear HC hlast he
  go_enter Tryz.func33, Tryz.ntmps33
  go_wp2_with (go_at_call 28; refine (HCC.out _).mono ?_; rintro e w1 ⟨g, cap, rfl, hps0, hb0⟩)
  have hgb := (hps0.lt g rfl).1
  go_loopw [3, 12] (fun v i wr => ∃ k : Nat, k ≤ ps.length ∧ i = .int .i64 k ∧ wr.ownsRow w.heap.size 9 1 v k ((Oct.linesTo ps k).map strV) ∧ wr.ownsRow (w.heap.size + 1) 9 1 (.slice (some ⟨g, 0, none⟩) ps.length cap) ps.length (ps.map strV) ∧ v.ownBlock ≠ some g ∧ Below w.heap.size w wr) (fun _ i _ => ps.length - (intOf i).toNat)
  case atStart =>
    have h0 : (w.alloc (.cells #[] 9)).ownsRow w.heap.size 9 1 (.slice (some ⟨w.heap.size, 0, none⟩) 0 0) 0 [] := World.ownsRow_made w #[] 0 (Nat.le_refl _) (Nat.zero_le _) rfl
    have hge : w.heap.size + 1 ≤ g := by simpa using hgb
    refine ⟨0, by omega, rfl, ?_, by simpa using hps0, ?_, ?_⟩
    · rw [Oct.linesTo_zero]
      exact h0.kept (row := none) ⟨hb0.os, hb0.tape, hb0.output, hb0.size, fun i hi _ => hb0.block i hi⟩ (.inr (by simp [Value.ownBlock]))
    · simp [Value.ownBlock]; omega
    · exact ((Below.refl _ w).alloc (Nat.le_refl _) _).trans (hb0.mono (by simp))
  case round =>
    obtain ⟨k, hk, rfl, hown, hps, hne, hb⟩ := hrel
    clear hps0 hb0 hgb
    by_cases hlt : k < ps.length
    · by_cases hlt4 : k < ps.length - 1
      · have hlt3 : k < ps.length := by omega
        obtain ⟨p, hp⟩ : ∃ p, ps[k]? = some p := ⟨_, List.getElem?_eq_getElem (by omega)⟩
        obtain ⟨t, ht⟩ : ∃ t : ByteArray, t = ⟨p.toArray⟩ := ⟨_, rfl⟩
        have htp : t.data.toList = p := by rw [ht]
        have hcell := own_text hps hp ht
        have hts : t.size ≤ s.size := by
          have h1 := HSM.out p (List.mem_of_getElem? hp)
          have h2 : t.size = p.length := by rw [ht]; exact List.size_toArray
          omega
        have hE : t.toList.isEmpty = p.isEmpty := by rw [Oct.bytes_data, htp]
        have HLS := Lib.hid (Oct.linesTo_step hp)
        have HPS := Lib.hid hps
        have hi2 : ((k : Int) == (ps.length : Int) - 1) = false := by rw [beq_eq_false_iff_ne]; omega
        clear hE
        have hor : (t.size ≤ 0 ∧ (⟨(Oct.chop t.data.toList).toArray⟩ : ByteArray) = t) ∨ ((∃ h : t.size - 1 < t.size, ((t[t.size - 1].toNat : Int) == 13) = true) ∧ (⟨(Oct.chop t.data.toList).toArray⟩ : ByteArray) = t.extract 0 (t.size - 1)) ∨ ((∃ h : t.size - 1 < t.size, ((t[t.size - 1].toNat : Int) == 13) = false) ∧ (⟨(Oct.chop t.data.toList).toArray⟩ : ByteArray) = t) := by
          by_cases h0 : t.size ≤ 0
          · exact .inl ⟨h0, Oct.chop_nil t (by omega)⟩
          · have hlt2 : t.size - 1 < t.size := by omega
            by_cases hc : (t[t.size - 1].toNat : Int) = 13
            · exact .inr (.inl ⟨⟨hlt2, by simpa using hc⟩, Oct.chop_yes t hlt2 hc⟩)
            · exact .inr (.inr ⟨⟨hlt2, by simpa using hc⟩, Oct.chop_no t hlt2 hc⟩)
        have hz : ((t.size : Int) - 1).toNat = t.size - 1 := by omega
        have hbs := hb.size
        have HTP := Lib.hid htp
        clear ht htp hp hps
        rcases hor with ⟨h0, hch⟩ | ⟨⟨hlt2, hc⟩, hch⟩ | ⟨⟨hlt2, hc⟩, hch⟩
        · have HCH := Lib.hid hch
          clear hch
          go_wp2_with (at_builtin; refine wpList_append_own_at _ rfl _ _ 46 rfl w.heap.size 9 i0 (.string ⟨#[]⟩) 1 16 Tryz.underlying46 hi hz0 hz1 hz2 rfl (by decide) _ _ _ rfl (hown.alloc _) ⟨wr.heap.size, 0, none⟩ 1 1 [.string t] rfl rfl (cell_one_new _ _ _) ?ca0a ?ca0b ?ca0c ?ca0d ?_)
          case ca0a => intro x hx; simp at hx; subst hx; rfl
          case ca0b => simp only [maxLen]; omega
          case ca0c => omega
          case ca0d => simp; omega
          · intro v' w2 hown' hgrow _ hat
            have R : w2.ownsRow w.heap.size 9 1 v' (k + 1) ((Oct.linesTo ps (k + 1)).map strV) := by
              rw [HLS.out, List.map_append, List.map_singleton, ← HTP.out, show strV (Oct.chop t.data.toList) = .string t from by unfold strV; rw [HCH.out]]
              exact hown'
            have B := hb.trans (((Below.refl _ wr).alloc hbs _).grown hgrow (by simp; omega) (fun g hg => (hown.lt g hg).1))
            have hgl := (HPS.out.lt g rfl).2
            have P2 := (HPS.out.alloc (.cells #[.string t] 9)).kept hgrow (.inr (by intro e; exact hne e.symm))
            have N2 : v'.ownBlock ≠ some g := by
              rcases hat with e | e
              · rw [e]; exact hne
              · rw [e]; simp; omega
            clear hown' hgrow hown hat
            go_wp2
            go_roundw
            case rel => exact ⟨k + 1, by omega, by go_num, R, P2, N2, B⟩
            case measure => simp [intOf]; omega
        · have h1 : 0 < t.size := by omega
          have HCH := Lib.hid hch
          clear hch
          go_wp2_with (at_builtin; refine wpList_append_own_at _ rfl _ _ 46 rfl w.heap.size 9 i0 (.string ⟨#[]⟩) 1 16 Tryz.underlying46 hi hz0 hz1 hz2 rfl (by decide) _ _ _ rfl (hown.alloc _) ⟨wr.heap.size, 0, none⟩ 1 1 [.string (t.extract 0 (t.size - 1))] rfl rfl (cell_one_new _ _ _) ?ca1a ?ca1b ?ca1c ?ca1d ?_)
          case ca1a => intro x hx; simp at hx; subst hx; rfl
          case ca1b => simp only [maxLen]; omega
          case ca1c => omega
          case ca1d => simp; omega
          · intro v' w2 hown' hgrow _ hat
            have R : w2.ownsRow w.heap.size 9 1 v' (k + 1) ((Oct.linesTo ps (k + 1)).map strV) := by
              rw [HLS.out, List.map_append, List.map_singleton, ← HTP.out, show strV (Oct.chop t.data.toList) = .string (t.extract 0 (t.size - 1)) from by unfold strV; rw [HCH.out]]
              exact hown'
            have B := hb.trans (((Below.refl _ wr).alloc hbs _).grown hgrow (by simp; omega) (fun g hg => (hown.lt g hg).1))
            have hgl := (HPS.out.lt g rfl).2
            have P2 := (HPS.out.alloc (.cells #[.string (t.extract 0 (t.size - 1))] 9)).kept hgrow (.inr (by intro e; exact hne e.symm))
            have N2 : v'.ownBlock ≠ some g := by
              rcases hat with e | e
              · rw [e]; exact hne
              · rw [e]; simp; omega
            clear hown' hgrow hown hat
            go_wp2
            go_roundw
            case rel => exact ⟨k + 1, by omega, by go_num, R, P2, N2, B⟩
            case measure => simp [intOf]; omega
        · have h1 : 0 < t.size := by omega
          have HCH := Lib.hid hch
          clear hch
          go_wp2_with (at_builtin; refine wpList_append_own_at _ rfl _ _ 46 rfl w.heap.size 9 i0 (.string ⟨#[]⟩) 1 16 Tryz.underlying46 hi hz0 hz1 hz2 rfl (by decide) _ _ _ rfl (hown.alloc _) ⟨wr.heap.size, 0, none⟩ 1 1 [.string t] rfl rfl (cell_one_new _ _ _) ?ca2a ?ca2b ?ca2c ?ca2d ?_)
          case ca2a => intro x hx; simp at hx; subst hx; rfl
          case ca2b => simp only [maxLen]; omega
          case ca2c => omega
          case ca2d => simp; omega
          · intro v' w2 hown' hgrow _ hat
            have R : w2.ownsRow w.heap.size 9 1 v' (k + 1) ((Oct.linesTo ps (k + 1)).map strV) := by
              rw [HLS.out, List.map_append, List.map_singleton, ← HTP.out, show strV (Oct.chop t.data.toList) = .string t from by unfold strV; rw [HCH.out]]
              exact hown'
            have B := hb.trans (((Below.refl _ wr).alloc hbs _).grown hgrow (by simp; omega) (fun g hg => (hown.lt g hg).1))
            have hgl := (HPS.out.lt g rfl).2
            have P2 := (HPS.out.alloc (.cells #[.string t] 9)).kept hgrow (.inr (by intro e; exact hne e.symm))
            have N2 : v'.ownBlock ≠ some g := by
              rcases hat with e | e
              · rw [e]; exact hne
              · rw [e]; simp; omega
            clear hown' hgrow hown hat
            go_wp2
            go_roundw
            case rel => exact ⟨k + 1, by omega, by go_num, R, P2, N2, B⟩
            case measure => simp [intOf]; omega
      · have hlt3 : k < ps.length := by omega
        obtain ⟨p, hp⟩ : ∃ p, ps[k]? = some p := ⟨_, List.getElem?_eq_getElem (by omega)⟩
        obtain ⟨t, ht⟩ : ∃ t : ByteArray, t = ⟨p.toArray⟩ := ⟨_, rfl⟩
        have htp : t.data.toList = p := by rw [ht]
        have hcell := own_text hps hp ht
        have hts : t.size ≤ s.size := by
          have h1 := HSM.out p (List.mem_of_getElem? hp)
          have h2 : t.size = p.length := by rw [ht]; exact List.size_toArray
          omega
        have hE : t.toList.isEmpty = p.isEmpty := by rw [Oct.bytes_data, htp]
        have HLS := Lib.hid (Oct.linesTo_step hp)
        have HPS := Lib.hid hps
        have hi2 : ((k : Int) == (ps.length : Int) - 1) = true := by rw [beq_iff_eq]; omega
        have hE2 : t.toList.isEmpty = false := by rw [hE, ← HEM.out]; congr 1; have h9 := HLA.out; rw [show ps.length - 1 = k by omega, hp] at h9; exact Option.some.inj h9
        clear hE
        have hor : (t.size ≤ 0 ∧ (⟨(Oct.chop t.data.toList).toArray⟩ : ByteArray) = t) ∨ ((∃ h : t.size - 1 < t.size, ((t[t.size - 1].toNat : Int) == 13) = true) ∧ (⟨(Oct.chop t.data.toList).toArray⟩ : ByteArray) = t.extract 0 (t.size - 1)) ∨ ((∃ h : t.size - 1 < t.size, ((t[t.size - 1].toNat : Int) == 13) = false) ∧ (⟨(Oct.chop t.data.toList).toArray⟩ : ByteArray) = t) := by
          by_cases h0 : t.size ≤ 0
          · exact .inl ⟨h0, Oct.chop_nil t (by omega)⟩
          · have hlt2 : t.size - 1 < t.size := by omega
            by_cases hc : (t[t.size - 1].toNat : Int) = 13
            · exact .inr (.inl ⟨⟨hlt2, by simpa using hc⟩, Oct.chop_yes t hlt2 hc⟩)
            · exact .inr (.inr ⟨⟨hlt2, by simpa using hc⟩, Oct.chop_no t hlt2 hc⟩)
        have hz : ((t.size : Int) - 1).toNat = t.size - 1 := by omega
        have hbs := hb.size
        have HTP := Lib.hid htp
        clear ht htp hp hps
        rcases hor with ⟨h0, hch⟩ | ⟨⟨hlt2, hc⟩, hch⟩ | ⟨⟨hlt2, hc⟩, hch⟩
        · have HCH := Lib.hid hch
          clear hch
          go_wp2_with (at_builtin; refine wpList_append_own_at _ rfl _ _ 46 rfl w.heap.size 9 i0 (.string ⟨#[]⟩) 1 16 Tryz.underlying46 hi hz0 hz1 hz2 rfl (by decide) _ _ _ rfl (hown.alloc _) ⟨wr.heap.size, 0, none⟩ 1 1 [.string t] rfl rfl (cell_one_new _ _ _) ?cb0a ?cb0b ?cb0c ?cb0d ?_)
          case cb0a => intro x hx; simp at hx; subst hx; rfl
          case cb0b => simp only [maxLen]; omega
          case cb0c => omega
          case cb0d => simp; omega
          · intro v' w2 hown' hgrow _ hat
            have R : w2.ownsRow w.heap.size 9 1 v' (k + 1) ((Oct.linesTo ps (k + 1)).map strV) := by
              rw [HLS.out, List.map_append, List.map_singleton, ← HTP.out, show strV (Oct.chop t.data.toList) = .string t from by unfold strV; rw [HCH.out]]
              exact hown'
            have B := hb.trans (((Below.refl _ wr).alloc hbs _).grown hgrow (by simp; omega) (fun g hg => (hown.lt g hg).1))
            have hgl := (HPS.out.lt g rfl).2
            have P2 := (HPS.out.alloc (.cells #[.string t] 9)).kept hgrow (.inr (by intro e; exact hne e.symm))
            have N2 : v'.ownBlock ≠ some g := by
              rcases hat with e | e
              · rw [e]; exact hne
              · rw [e]; simp; omega
            clear hown' hgrow hown hat
            go_wp2
            go_roundw
            case rel => exact ⟨k + 1, by omega, by go_num, R, P2, N2, B⟩
            case measure => simp [intOf]; omega
        · have h1 : 0 < t.size := by omega
          have HCH := Lib.hid hch
          clear hch
          go_wp2_with (at_builtin; refine wpList_append_own_at _ rfl _ _ 46 rfl w.heap.size 9 i0 (.string ⟨#[]⟩) 1 16 Tryz.underlying46 hi hz0 hz1 hz2 rfl (by decide) _ _ _ rfl (hown.alloc _) ⟨wr.heap.size, 0, none⟩ 1 1 [.string (t.extract 0 (t.size - 1))] rfl rfl (cell_one_new _ _ _) ?cb1a ?cb1b ?cb1c ?cb1d ?_)
          case cb1a => intro x hx; simp at hx; subst hx; rfl
          case cb1b => simp only [maxLen]; omega
          case cb1c => omega
          case cb1d => simp; omega
          · intro v' w2 hown' hgrow _ hat
            have R : w2.ownsRow w.heap.size 9 1 v' (k + 1) ((Oct.linesTo ps (k + 1)).map strV) := by
              rw [HLS.out, List.map_append, List.map_singleton, ← HTP.out, show strV (Oct.chop t.data.toList) = .string (t.extract 0 (t.size - 1)) from by unfold strV; rw [HCH.out]]
              exact hown'
            have B := hb.trans (((Below.refl _ wr).alloc hbs _).grown hgrow (by simp; omega) (fun g hg => (hown.lt g hg).1))
            have hgl := (HPS.out.lt g rfl).2
            have P2 := (HPS.out.alloc (.cells #[.string (t.extract 0 (t.size - 1))] 9)).kept hgrow (.inr (by intro e; exact hne e.symm))
            have N2 : v'.ownBlock ≠ some g := by
              rcases hat with e | e
              · rw [e]; exact hne
              · rw [e]; simp; omega
            clear hown' hgrow hown hat
            go_wp2
            go_roundw
            case rel => exact ⟨k + 1, by omega, by go_num, R, P2, N2, B⟩
            case measure => simp [intOf]; omega
        · have h1 : 0 < t.size := by omega
          have HCH := Lib.hid hch
          clear hch
          go_wp2_with (at_builtin; refine wpList_append_own_at _ rfl _ _ 46 rfl w.heap.size 9 i0 (.string ⟨#[]⟩) 1 16 Tryz.underlying46 hi hz0 hz1 hz2 rfl (by decide) _ _ _ rfl (hown.alloc _) ⟨wr.heap.size, 0, none⟩ 1 1 [.string t] rfl rfl (cell_one_new _ _ _) ?cb2a ?cb2b ?cb2c ?cb2d ?_)
          case cb2a => intro x hx; simp at hx; subst hx; rfl
          case cb2b => simp only [maxLen]; omega
          case cb2c => omega
          case cb2d => simp; omega
          · intro v' w2 hown' hgrow _ hat
            have R : w2.ownsRow w.heap.size 9 1 v' (k + 1) ((Oct.linesTo ps (k + 1)).map strV) := by
              rw [HLS.out, List.map_append, List.map_singleton, ← HTP.out, show strV (Oct.chop t.data.toList) = .string t from by unfold strV; rw [HCH.out]]
              exact hown'
            have B := hb.trans (((Below.refl _ wr).alloc hbs _).grown hgrow (by simp; omega) (fun g hg => (hown.lt g hg).1))
            have hgl := (HPS.out.lt g rfl).2
            have P2 := (HPS.out.alloc (.cells #[.string t] 9)).kept hgrow (.inr (by intro e; exact hne e.symm))
            have N2 : v'.ownBlock ≠ some g := by
              rcases hat with e | e
              · rw [e]; exact hne
              · rw [e]; simp; omega
            clear hown' hgrow hown hat
            go_wp2
            go_roundw
            case rel => exact ⟨k + 1, by omega, by go_num, R, P2, N2, B⟩
            case measure => simp [intOf]; omega
    · have HF := Lib.hid (HCUT.out k (by omega))
      have HN := Lib.hid (Oct.linesTo_length (ps := ps) (k := k) (by omega))
      go_wp2
      go_ret
      refine ⟨_, rfl, ?_, hb⟩
      rw [← HF.out, HN.out]
      exact hown

theorem refLines_calls (s : ByteArray) (w : World) (hs : s.size ≤ 1099511627776) :
    Calls Tryz.prog 33 #[.string s] w (NewTexts w.heap.size (Oct.lines s.data.toList) w) := by
  have hp := Oct.split_pos 10 s.data.toList
  obtain ⟨pl, hl⟩ : ∃ pl, (Oct.split 10 s.data.toList)[(Oct.split 10 s.data.toList).length - 1]? = some pl := ⟨_, List.getElem?_eq_getElem (by omega)⟩
  cases he : pl.isEmpty
  · exact refLines_full s w hs pl hl he
  · exact refLines_empty s w hs pl hl he
end Go.Proofs.YtnlhniaoaciopaaGreatDoor
