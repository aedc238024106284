/- The walk of row. -/
import Derived.Test.YtcookddgaomkiaaGroup
import Derived.Test.YtcookddgaomkiaaSplit
import Derived.Test.YtcookddgaomkiaaBytes
import Derived.Laws.MakeOwn
namespace Go.Proofs.Ytcookddgaomkiaa
open Go.RowKit
namespace Adr
theorem row_nil {l : List UInt8} (h : l = []) : isRow l = true ∧ row l = [] := by
  subst h; exact ⟨rfl, rfl⟩
theorem row_no {l : List UInt8} {k : Nat} {p : List UInt8} (h0 : l ≠ []) (hp : (Oct.split 58 l)[k]? = some p) (hn : isGrp p = false) : isRow l = false := by
  unfold isRow
  rw [decide_eq_false h0, Bool.false_or, List.all_eq_false]
  exact ⟨p, List.mem_of_getElem? hp, by rw [hn]; simp⟩
theorem row_yes {l : List UInt8} (h0 : l ≠ []) (ha : (Oct.split 58 l).all isGrp = true) : isRow l = true ∧ row l = (Oct.split 58 l).map grp := by
  unfold isRow row
  rw [ha, if_neg h0]; simp
theorem all_more {ps : List (List UInt8)} {k : Nat} {p : List UInt8} (h : (ps.take k).all isGrp = true) (hp : ps[k]? = some p) (hq : isGrp p = true) : (ps.take (k + 1)).all isGrp = true := by
  rw [List.all_eq_true] at h ⊢
  exact Oct.take_more (Q := fun p => isGrp p = true) h hp hq
end Adr
/-- A row of groups, or nil, and whether it is one. -/
def NewRow (s : List UInt8) (w : World) (e : Ending) (w' : World) : Prop :=
  (Adr.isRow s = false ∧ e = .returned (.tuple #[.slice none 0 0, .bool false]) ∧ Below w.heap.size w w') ∨
  (Adr.isRow s = true ∧ Adr.row s = [] ∧ e = .returned (.tuple #[.slice none 0 0, .bool true]) ∧ Below w.heap.size w w') ∨
  (Adr.isRow s = true ∧ ∃ g, w.heap.size ≤ g ∧ e = .returned (.tuple #[.slice (some ⟨g, 0, none⟩) (Adr.row s).length (Adr.row s).length, .bool true]) ∧ Row w' g 81 (wordsA (Adr.row s)) ∧ Below w.heap.size w w')

set_option maxHeartbeats 1000000 in
theorem row_calls (s : ByteArray) (w : World) (hs : s.size ≤ 1099511627776) :
    Calls Try.prog 65 #[.string s] w (NewRow s.data.toList w) := by
  by_cases h0 : s.size = 0
  · have hE : s.toList.isEmpty = true := by rw [Oct.bytes_data, List.isEmpty_iff]; exact (Oct.nil_size s).2 h0
    have HW := Lib.hid (Adr.row_nil ((Oct.nil_size s).2 h0))
    clear h0
    go_enter Try.func65, Try.ntmps65
    go_wp2
    go_ret2
    exact .inr (.inl ⟨HW.out.1, HW.out.2, rfl, Below.refl _ _⟩)
  · have hne : s.data.toList ≠ [] := fun e => h0 ((Oct.nil_size s).1 e)
    have hE : s.toList.isEmpty = false := by
      rw [Oct.bytes_data, Bool.eq_false_iff]; intro e; rw [List.isEmpty_iff] at e; exact hne e
    have HNE := Lib.hid hne
    clear h0 hne
    have hlen := Oct.split_length 58 s.data.toList
    have hp := Oct.split_pos 58 s.data.toList
    have hsm := Oct.split_small 58 s.data.toList
    rw [Oct.length_bytes] at hlen hsm
    obtain ⟨ps, hps⟩ : ∃ ps, ps = Oct.split 58 s.data.toList := ⟨_, rfl⟩
    rw [← hps] at hlen hp hsm
    have HP := Lib.hid hps
    have HSM := Lib.hid hsm
    have HC : ∀ W, Calls Try.prog 29 #[.string s, .int .u8 58] W (NewTextsAt W.heap.size ps W) := fun W => by rw [hps]; exact split_at s 58 W hs
    have HCC := Lib.hid HC
    clear hps HC hsm
    go_enter Try.func65, Try.ntmps65
    go_wp2_with (go_at_call 29; refine (HCC.out _).mono ?_; rintro e w1 ⟨g, cap, rfl, hown, hb⟩; have hmk := make_words ps.length (by omega) w1)
    clear hmk
    have hsz := hb.size
    have hgl := (hown.lt g rfl)
    have hown2 := hown.alloc (.cells (wordsA (List.replicate ps.length 0)) 81)
    have R0 := Row.new w1 81 (wordsA (List.replicate ps.length 0))
    have B0 := hb.alloc hsz (.cells (wordsA (List.replicate ps.length 0)) 81)
    generalize w1.heap.size = n1 at *
    clear hown hb
    go_loopw [18] (fun i wr => ∃ k : Nat, k ≤ ps.length ∧ i = .int .i64 k ∧ wr.ownsRow w.heap.size 9 1 (.slice (some ⟨g, 0, none⟩) ps.length cap) ps.length (ps.map strV) ∧ Row wr n1 81 (wordsA (Adr.fill (ps.map Adr.grp) 0 ps.length k)) ∧ (ps.take k).all Adr.isGrp = true ∧ Below w.heap.size w wr) (fun i _ => ps.length - (intOf i).toNat)
    case atStart => exact ⟨0, Nat.zero_le _, rfl, hown2, by rw [Adr.fill_zero]; exact R0, by simp, B0⟩
    case round =>
      clear hown2 R0 B0
      obtain ⟨k, hk, rfl, hown, r, hall, hb⟩ := hrel
      have HA := Lib.hid hall
      clear hall
      by_cases hlt : k < ps.length
      · obtain ⟨p, t, h1, hcell, h3, _, h5⟩ := own_cell hown hlt
        have hpl := HSM.out p (List.mem_of_getElem? h1)
        have ht : t.size ≤ maxLen := by unfold maxLen; omega
        have HC := Lib.hid (fun W => group_calls t W ht)
        rw [h3] at HC
        have H1 := Lib.hid h1
        clear h1 h3 h5 hpl ht
        cases hg : Adr.isGrp p with
        | true =>
          rw [hg, Adr.grpOf_yes hg] at HC
          have HAll := Lib.hid (Adr.all_more HA.out H1.out hg)
          have HG := Lib.hid hg
          clear hg
          have hfl := Adr.fill_length (l := ps.map Adr.grp) (z := 0) (n := ps.length) (k := k) (by simp) hk
          obtain ⟨u1, c1⟩ : ∃ u, wr.cell? ⟨n1, k, none⟩ = some u := ⟨_, by rw [r.cell]; exact Array.getElem?_eq_getElem (by rw [wordsA_size, hfl]; exact hlt)⟩
          have f1 := r.free k
          have hw : (ps.map Adr.grp)[k]? = some (Adr.grp p) := by rw [List.getElem?_map, H1.out]; rfl
          have R := r.set k (wordV (Adr.grp p))
          rw [wordsA_set, Adr.fill_set (by simp) hlt hw] at R
          have B := hb.setCell (p := ⟨n1, k, none⟩) hsz (wordV (Adr.grp p))
          have O := own_far hown (p := ⟨n1, k, none⟩) (by simp [Value.ownBlock]; omega) (wordV (Adr.grp p))
          clear hfl r hb hown hw
          go_wp2_with (go_at_call 74; refine (HC.out _).mono ?_; rintro e w' ⟨rfl, rfl⟩)
          go_roundw
          case rel => exact ⟨k + 1, by omega, by go_num, O, R, HAll.out, B⟩
          case measure => simp [intOf]; omega
        | false =>
          rw [hg] at HC
          have HN := Lib.hid (Adr.row_no HNE.out (by rw [← HP.out]; exact H1.out) hg)
          clear hg
          go_wp2_with (go_at_call 74; refine (HC.out _).mono ?_; rintro e w' ⟨rfl, rfl⟩)
          go_ret2
          exact .inl ⟨HN.out, rfl, hb⟩
      · have hkk : k = ps.length := by omega
        subst hkk
        rw [Adr.fill_end (by simp)] at r
        have HY := Lib.hid (Adr.row_yes (l := s.data.toList) HNE.out (by rw [← HP.out]; have := HA.out; rw [List.take_of_length_le (Nat.le_refl _)] at this; exact this))
        have HL := Lib.hid (show (Adr.row s.data.toList).length = ps.length by rw [HY.out.2, ← HP.out]; simp)
        go_wp2
        go_ret2
        exact .inr (.inr ⟨HY.out.1, n1, hsz, by rw [HL.out]; rfl, by rw [HY.out.2, ← HP.out]; exact r, hb⟩)
/-- What was read of a text: no row; or one, that may have no address where it is empty. -/
theorem NewRow.parts {s : List UInt8} {w w' : World} {e : Ending} (h : NewRow s w e w') :
    Below w.heap.size w w' ∧ ((Adr.isRow s = false ∧ e = .returned (.tuple #[.slice none 0 0, .bool false])) ∨
    (Adr.isRow s = true ∧ ∃ A, e = .returned (.tuple #[.slice A (Adr.row s).length (Adr.row s).length, .bool true]) ∧ (0 < (Adr.row s).length → ∃ g, A = some ⟨g, 0, none⟩ ∧ w.heap.size ≤ g ∧ Row w' g 81 (wordsA (Adr.row s))))) := by
  rcases h with ⟨h1, h2, h3⟩ | ⟨h1, h2, h3, h4⟩ | ⟨h1, g, h2, h3, h4, h5⟩
  · exact ⟨h3, .inl ⟨h1, h2⟩⟩
  · refine ⟨h4, .inr ⟨h1, none, ?_, ?_⟩⟩
    · rw [h2]; exact h3
    · intro h; rw [h2] at h; exact absurd h (by simp)
  · exact ⟨h5, .inr ⟨h1, _, h3, fun _ => ⟨g, rfl, h2, h4⟩⟩⟩
end Go.Proofs.Ytcookddgaomkiaa
