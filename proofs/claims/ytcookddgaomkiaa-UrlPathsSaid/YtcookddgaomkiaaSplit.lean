/- The walk of Split. -/
import Derived.Test.YtcookddgaomkiaaBase
import Derived.Test.YtcookddgaomkiaaSplitPlain
namespace Go.Proofs.Ytcookddgaomkiaa
open Go.RowKit
theorem infoStr : (Try.prog.info? 9).map (fun i => (i.zero, i.size, i.bytes)) = some (some (.string ⟨#[]⟩), 1, 16) := by kernel_rfl

/-- A new list of texts. -/
def NewTexts (B : Nat) (ps : List (List UInt8)) (w : World) (e : Ending) (w' : World) : Prop :=
  ∃ v, e = .returned v ∧ w'.ownsRow B 9 1 v ps.length (ps.map strV) ∧ Below B w w'

theorem own_snoc {w : World} {B : Nat} {v u : Value} {done : List (List UInt8)} {p : List UInt8} (hu : u = strV p) (h : w.ownsRow B 9 1 v (done.length + 1) (done.map strV ++ [u])) :
    w.ownsRow B 9 1 v (done ++ [p]).length ((done ++ [p]).map strV) := by
  rw [List.length_append, List.map_append, List.map_singleton, ← hu]; exact h

set_option maxHeartbeats 1000000 in
theorem split_calls (s : ByteArray) (at_ : UInt8) (w : World) (hs : s.size ≤ 1099511627776) :
    Calls Try.prog 29 #[.string s, .int .u8 (at_.toNat : Int)] w (NewTexts w.heap.size (Oct.split at_ s.data.toList) w) := by
  obtain ⟨i0, hi, hz0, hz1, hz2⟩ := info_parts infoStr
  go_enter Try.func29, Try.ntmps29
  go_wp2
  go_loopw [5, 6, 10] (fun v f i wr => ∃ (k from_ : Nat) (done : List (List UInt8)), k ≤ s.size ∧ i = .int .i64 k ∧ f = .int .i64 from_ ∧ Oct.Cut at_ s.data.toList k done from_ ∧ wr.ownsRow w.heap.size 9 1 v done.length (done.map strV) ∧ Below w.heap.size w wr) (fun _ _ i _ => s.size - (intOf i).toNat)
  case atStart => exact ⟨0, 0, [], Nat.zero_le _, rfl, rfl, Oct.Cut.start _ _, World.ownsRow_nil _ _ _ _, Below.refl _ _⟩
  case round =>
    obtain ⟨k, from_, done, hk, rfl, rfl, hcut, hown, hb⟩ := hrel
    have hfk := hcut.le
    have hfew := hcut.few
    by_cases hlt : k < s.size
    · by_cases h1 : s[k] = at_
      · have h2 : ((s[k].toNat : Int) == (at_.toNat : Int)) = true := by rw [h1]; simp
        go_wp2_with (at_builtin; refine wpList_append_own _ rfl _ _ 56 rfl w.heap.size 9 i0 (.string ⟨#[]⟩) 1 16 Try.underlying56 hi hz0 hz1 hz2 rfl (by decide) _ _ _ rfl (hown.alloc _) ⟨wr.heap.size, 0, none⟩ 1 1 [.string (s.extract from_ k)] rfl rfl (cell_one_new _ _ _) ?c1a ?c1b ?c1c ?c1d ?_)
        case c1a => intro u hu; simp at hu; subst hu; rfl
        case c1b => simp only [maxLen]; omega
        case c1c => omega
        case c1d => have := hb.size; simp; omega
        · intro v' w1 hown' hgrow _
          have R := own_snoc (strV_extract s from_ k) hown'
          have B := hb.trans (((Below.refl _ wr).alloc hb.size _).grown hgrow (by have := hb.size; simp; omega) (fun g hg => (hown.lt g hg).1))
          clear hown' hgrow hown
          go_wp2
          go_roundw
          case rel => exact ⟨k + 1, k + 1, _, by omega, by go_num, by go_num, hcut.hit (by rw [Oct.length_bytes]; exact hlt) h1, R, B⟩
          case measure => simp [intOf]; omega
      · have h2 : ((s[k].toNat : Int) == (at_.toNat : Int)) = false := by
          rw [beq_eq_false_iff_ne]; intro e; exact h1 (Oct.eq_of_toNat (by omega))
        go_wp2
        go_roundw
        case rel => exact ⟨k + 1, from_, done, by omega, by go_num, rfl, hcut.miss (by rw [Oct.length_bytes]; exact hlt) h1, hown, hb⟩
        case measure => simp [intOf]; omega
    · go_wp2_with (at_builtin; refine wpList_append_own _ rfl _ _ 56 rfl w.heap.size 9 i0 (.string ⟨#[]⟩) 1 16 Try.underlying56 hi hz0 hz1 hz2 rfl (by decide) _ _ _ rfl (hown.alloc _) ⟨wr.heap.size, 0, none⟩ 1 1 [.string (s.extract from_ s.size)] rfl rfl (cell_one_new _ _ _) ?c2a ?c2b ?c2c ?c2d ?_)
      case c2a => intro u hu; simp at hu; subst hu; rfl
      case c2b => simp only [maxLen]; omega
      case c2c => omega
      case c2d => have := hb.size; simp; omega
      · intro v' w1 hown' hgrow _
        have R := own_snoc (strV_end s from_ s.size (Nat.le_refl _)) hown'
        have B := hb.trans (((Below.refl _ wr).alloc hb.size _).grown hgrow (by have := hb.size; simp; omega) (fun g hg => (hown.lt g hg).1))
        clear hown' hgrow hown
        have HC := Lib.hid (hcut.done (by rw [Oct.length_bytes]; omega))
        go_wp2
        go_ret
        exact ⟨_, rfl, by rw [HC.out]; exact R, B⟩
/-- A new list of texts that isn't nil. -/
def NewTextsAt (B : Nat) (ps : List (List UInt8)) (w : World) (e : Ending) (w' : World) : Prop :=
  ∃ g cap, e = .returned (.slice (some ⟨g, 0, none⟩) ps.length cap) ∧ w'.ownsRow B 9 1 (.slice (some ⟨g, 0, none⟩) ps.length cap) ps.length (ps.map strV) ∧ Below B w w'
theorem NewTexts.at_ {B : Nat} {ps : List (List UInt8)} {w w' : World} {e : Ending} (h : NewTexts B ps w e w') (hp : 0 < ps.length) : NewTextsAt B ps w e w' := by
  obtain ⟨v, he, hown, hb⟩ := h
  rcases hown.2 with ⟨_, h0⟩ | ⟨g, cap, _, hv, _⟩
  · omega
  · subst hv
    exact ⟨g, cap, he, hown, hb⟩
theorem split_at (s : ByteArray) (at_ : UInt8) (w : World) (hs : s.size ≤ 1099511627776) :
    Calls Try.prog 29 #[.string s, .int .u8 (at_.toNat : Int)] w (NewTextsAt w.heap.size (Oct.split at_ s.data.toList) w) :=
  (split_calls s at_ w hs).mono fun _ _ h => h.at_ (Oct.split_pos _ _)
/-- The cell of a text of a list. -/
theorem own_cell {w : World} {B g cap : Nat} {ps : List (List UInt8)} (h : w.ownsRow B 9 1 (.slice (some ⟨g, 0, none⟩) ps.length cap) ps.length (ps.map strV)) {k : Nat} (hk : k < ps.length) :
    ∃ (p : List UInt8) (s : ByteArray), ps[k]? = some p ∧ w.cell? ⟨g, k, none⟩ = some (.string s) ∧ s.data.toList = p ∧ s.toList.isEmpty = p.isEmpty ∧ s.size = p.length := by
  obtain ⟨p, s, h1, h2, h3, h4, h5⟩ := text_at hk
  refine ⟨p, s, h1, ?_, h3, h4, h5⟩
  rw [h.cellAt k (by omega), List.getElem?_map, h1, ← h2]; rfl
theorem own_text {w : World} {B g cap n : Nat} {ps : List (List UInt8)} (h : w.ownsRow B 9 1 (.slice (some ⟨g, 0, none⟩) n cap) n (ps.map strV)) {k : Nat} {p : List UInt8} {s : ByteArray} (hp : ps[k]? = some p) (hs : s = ⟨p.toArray⟩) :
    w.cell? ⟨g, k, none⟩ = some (.string s) := by
  have hk := (List.getElem?_eq_some_iff.1 hp).1
  have hl := h.1
  rw [List.length_map] at hl
  rw [h.cellAt k (by omega), List.getElem?_map, hp, hs]; rfl
theorem own_cap {w : World} {B g cap n : Nat} {t : TypeId} {xs : List Value} (h : w.ownsRow B t 1 (.slice (some ⟨g, 0, none⟩) n cap) n xs) : n ≤ cap := by
  rcases h.2 with ⟨e, _⟩ | ⟨g', cap', _, e, _, _, hc, _⟩
  · cases e
  · simp only [Value.slice.injEq, Option.some.injEq, Addr.mk.injEq, and_true, true_and] at e
    rw [e.2]; exact hc
/-- The first m of an owned list. -/
theorem own_take {w : World} {B g cap n m : Nat} {t : TypeId} {xs : List Value} (h : w.ownsRow B t 1 (.slice (some ⟨g, 0, none⟩) n cap) n xs) (hm : m ≤ n) : w.ownsRow B t 1 (.slice (some ⟨g, 0, none⟩) m cap) m (xs.take m) := by
  refine ⟨by have := h.1; rw [List.length_take]; omega, ?_⟩
  rcases h.2 with ⟨e, _⟩ | ⟨g', cap', cur, e, hb, hh, hc, hx, hs, ht⟩
  · cases e
  · simp only [Value.slice.injEq, Option.some.injEq, Addr.mk.injEq, and_true, true_and] at e
    obtain ⟨rfl, rfl⟩ := e
    refine .inr ⟨g, cap, cur, rfl, hb, hh, by omega, hx, hs, ?_⟩
    rw [← ht, List.take_take, Nat.mul_one, Nat.mul_one, Nat.min_eq_left hm]
end Go.Proofs.Ytcookddgaomkiaa
