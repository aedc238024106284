/- The walk of None. -/
import Derived.Test.YtdidogcgoghdmaaDfaTells
namespace Go.Proofs.Ytdidogcgoghdmaa
open Go.RowKit
/-- What is answered: an automaton, and a number. -/
def NewAuto (w : World) (d : Au.Dv) (code : Int) (e : Ending) (w' : World) : Prop := ∃ v, e = .returned (.tuple #[v, .int .i64 code]) ∧ Auto w' v d ∧ Below w.heap.size w w'
/-- The zero one's cells. -/
def zeroD : Array Value := #[.int .i64 0, .int .i64 0, .slice none 0 0, .slice none 0 0]
theorem zero_auto (w : World) : Auto w (.agg zeroD) Au.Dv.zero :=
  ⟨⟨_, _, rfl, nums_nil w, bools_nil w⟩, WalkArith.wf_i64 (by decide), WalkArith.wf_i64 (by decide), Nat.zero_le _, Nat.zero_le _⟩
theorem zeroD_one : zeroD.all (·.oneCell') = true := by simp [zeroD, Value.oneCell']
theorem dfaD_one (k s : Int) (A A' : Option Addr) (n c n' c' : Nat) : (#[Value.int .i64 k, .int .i64 s, .slice A n c, .slice A' n' c'] : Array Value).all (·.oneCell') = true := by simp [Value.oneCell']
theorem infoDfa : (Try.prog.info? 25).map (·.size) = some 4 := by kernel_rfl
theorem nums_zeros {w : World} {g n : Nat} {t : TypeId} (h : Row w g t (Array.replicate n (.int .i64 0))) : Nums w (.slice (some ⟨g, 0, none⟩) n n) (Au.ofN (List.replicate n 0)) :=
  ⟨inRow_row h (by rw [intVs_length, Au.ofN_length, List.length_replicate]) (Nat.le_refl _) (fun k u hu => by
    rw [← hu]
    unfold intVs Au.ofN
    rw [List.map_map, List.map_replicate, List.getElem?_replicate, Array.getElem?_replicate]
    rfl)⟩
theorem bools_falses {w : World} {g n : Nat} {t : TypeId} (h : Row w g t (Array.replicate n (.bool false))) : Bools w (.slice (some ⟨g, 0, none⟩) n n) (List.replicate n false) :=
  ⟨inRow_row h (by rw [boolVs_length, List.length_replicate]) (Nat.le_refl _) (fun k u hu => by
    rw [← hu]
    unfold boolVs
    rw [List.map_replicate, List.getElem?_replicate, Array.getElem?_replicate])⟩
theorem own_bools (w : World) (n : Nat) (hn : n ≤ 1099511627776) : (w.alloc (.cells (Array.replicate n (.bool false)) 4)).ownsRow w.heap.size 4 1 (.slice (some ⟨w.heap.size, 0, none⟩) n n) n (List.replicate n (.bool false)) :=
  ⟨by simp, .inr ⟨w.heap.size, n, Array.replicate n (.bool false), rfl, Nat.le_refl _, heap_alloc_new w _, Nat.le_refl _, by unfold maxLen; omega, by simp, by simp⟩⟩
/-- A row of other things than a block's own type lies elsewhere. -/
theorem own_row {w : World} {B g n : Nat} {t t' : TypeId} {cs ds : Array Value} {v : Value} {xs : List Value} (h : w.ownsRow B t 1 v n xs) (hr : Row w g t' cs) (ht : t ≠ t') : (w.setRow g ds).ownsRow B t 1 v n xs := by
  rcases h.2 with ⟨hv, h0⟩ | ⟨g2, cap, cur, hv, hB, hg, hc, hm, hs, hx⟩
  · exact ⟨h.1, .inl ⟨hv, h0⟩⟩
  · refine ⟨h.1, .inr ⟨g2, cap, cur, hv, hB, ?_, hc, hm, hs, hx⟩⟩
    refine (setRow_other w g g2 ds (fun e => ?_)).trans hg
    subst e
    have e2 := hr.symm.trans hg
    have e3 := Option.some.inj e2
    injection e3 with _ e4 _
    exact ht e4.symm
/-- Numbers that are no less than 0. -/
def natVs (l : List Nat) : List Value := intVs (Au.ofN l)
theorem natVs_length (l : List Nat) : (natVs l).length = l.length := by unfold natVs; rw [intVs_length, Au.ofN_length]
theorem natVs_at {l : List Nat} {i n : Nat} (h : l[i]? = some n) : (natVs l)[i]? = some (.int .i64 (n : Int)) := intVs_at (Au.ofN_at h)
theorem natVs_set (l : List Nat) (i n : Nat) : (natVs l).set i (.int .i64 (n : Int)) = natVs (l.set i n) := by
  unfold natVs intVs Au.ofN
  rw [show Value.int .i64 (n : Int) = intV (n : Int) from rfl, ← List.map_set, ← List.map_set]
theorem natVs_replicate (n a : Nat) : natVs (List.replicate n a) = List.replicate n (.int .i64 (a : Int)) := by
  unfold natVs intVs Au.ofN intV
  rw [List.map_replicate, List.map_replicate]
theorem boolVs_set (l : List Bool) (i : Nat) (b : Bool) : (boolVs l).set i (.bool b) = boolVs (l.set i b) := by unfold boolVs; rw [← List.map_set]
theorem boolVs_replicate (n : Nat) (b : Bool) : boolVs (List.replicate n b) = List.replicate n (.bool b) := by unfold boolVs; rw [List.map_replicate]
theorem row_own_ne {w : World} {B g g2 n c : Nat} {t t' : TypeId} {cs : Array Value} {xs : List Value} (h : w.ownsRow B t 1 (.slice (some ⟨g2, 0, none⟩) n c) n xs) (hr : Row w g t' cs) (ht : t ≠ t') : g ≠ g2 := by
  rintro rfl
  rcases h.2 with ⟨hv, _⟩ | ⟨g2, cap, cur, hv, _, hg, _⟩
  · cases hv
  · obtain ⟨e, _, _⟩ := Value.slice.inj hv
    injection Option.some.inj e with e1
    subst e1
    have e3 := Option.some.inj (hr.symm.trans hg)
    injection e3 with _ e4 _
    exact ht e4.symm
theorem own_own_ne {w : World} {B B' g g2 n c n' c' : Nat} {t t' : TypeId} {xs ys : List Value} (h : w.ownsRow B t 1 (.slice (some ⟨g, 0, none⟩) n c) n xs) (h' : w.ownsRow B' t' 1 (.slice (some ⟨g2, 0, none⟩) n' c') n' ys) (ht : t ≠ t') : g ≠ g2 := by
  rcases h.2 with ⟨hv, _⟩ | ⟨g3, cap, cur, hv, _, hg, _⟩
  · cases hv
  · obtain ⟨e, _, _⟩ := Value.slice.inj hv
    injection Option.some.inj e with e1
    subst e1
    exact row_own_ne h' hg (Ne.symm ht)
theorem row_next {w : World} {o : Obj} {t : TypeId} {cs : Array Value} {g : Nat} (h : (w.alloc o).heap.size = g) : Row ((w.alloc o).alloc (.cells cs t)) g t cs := by
  rw [← h]; exact Row.new _ _ _
theorem row_next2 {w : World} {o o' : Obj} {t : TypeId} {cs : Array Value} {g : Nat} (h : ((w.alloc o).alloc o').heap.size = g) : Row (((w.alloc o).alloc o').alloc (.cells cs t)) g t cs := by
  rw [← h]; exact Row.new _ _ _
set_option maxRecDepth 100000 in
set_option maxHeartbeats 4000000 in
theorem dnone_calls (k : Int) (w : World) : Calls Try.prog 9 #[.int .i64 k] w (if 1 ≤ k ∧ k ≤ 512 then NewAuto w (Au.Dv.of (Au.noneFa k.toNat)) 0 else NewAuto w Au.Dv.zero 151) := by
  have HK := Lib.hid (fun W => rightK_calls k W)
  by_cases h1 : ¬ (1 ≤ k ∧ k ≤ 512)
  · rw [if_neg h1]
    rw [decide_eq_false h1] at HK
    have HPost : Hid (∀ w', Below w.heap.size w w' → NewAuto w Au.Dv.zero 151 (.returned (.tuple #[.agg zeroD, .int .i64 151])) w') := Lib.hid (fun w' h => ⟨_, rfl, zero_auto w', h⟩)
    generalize NewAuto w Au.Dv.zero 151 = post at *
    have hb0 := (Below.refl w.heap.size w).alloc (Nat.le_refl _) (.cells zeroD 25)
    clear h1
    go_enter Try.func9, Try.ntmps9
    go_wp2_with (go_at_call 30; refine (HK.out _).mono ?_; rintro e w' ⟨rfl, rfl⟩)
    exact bodyPost_ret (v := .tuple #[.agg zeroD, .int .i64 151]) (results_cell_two rfl _ _ w.heap.size _ _ _ rfl _ rfl (Row.new w _ _) Try.underlying25 rfl infoDfa) rfl (HPost.out _ hb0)
  have h1 := Classical.not_not.1 h1
  rw [if_pos h1]
  rw [decide_eq_true h1] at HK
  obtain ⟨n, rfl⟩ : ∃ n : Nat, k = (n : Int) := ⟨k.toNat, by omega⟩
  rw [Int.toNat_natCast]
  have hs := Au.none_sound (k := n) (by omega) (by omega)
  have HS := Lib.hid hs
  have hmk := fun W => make_one (P := Try.prog) Try.underlying22 infoNum rfl n (by omega) (by omega) W
  have hmb : ∀ W : World, (Instr.makeSlice 23 (.int .i64 1) (.int .i64 1)).run Try.prog W = .ok (.slice (some ⟨W.heap.size, 0, none⟩) 1 1) (W.alloc (.cells #[.bool false] 4)) := fun W => make_one (P := Try.prog) Try.underlying23 infoBool15 rfl 1 (by omega) (by omega) W
  have HPost : Hid (∀ nv av w', Nums w' nv (Au.ofN (List.replicate n 0)) → Bools w' av [false] → Below w.heap.size w w' → NewAuto w (Au.Dv.of (Au.noneFa n)) 0 (.returned (.tuple #[.agg #[.int .i64 (n : Int), .int .i64 0, nv, av], .int .i64 0])) w') := Lib.hid (fun nv av w' a b h => ⟨_, rfl, sound_auto HS.out a b, h⟩)
  generalize NewAuto w (Au.Dv.of (Au.noneFa n)) 0 = post at *
  clear hs
  go_enter Try.func9, Try.ntmps9
  go_wp2_with (go_at_call 30; refine (HK.out _).mono ?_; rintro e w' ⟨rfl, rfl⟩)
  go_region
  all_goals
    go_wp2
    first
      | exact bodyPost_ret (v := .tuple #[.agg #[.int .i64 (n : Int), .int .i64 0, .slice (some ⟨w.heap.size + 1, 0, none⟩) n n, .slice (some ⟨w.heap.size + 1 + 1, 0, none⟩) 1 1], .int .i64 0]) (results_cell_two rfl _ _ w.heap.size _ _ _ rfl _ rfl (((Row.new w _ _).alloc _).alloc _).drew Try.underlying25 rfl infoDfa) rfl
          (HPost.out _ _ _ (nums_zeros ((row_next (by simp)).alloc _).drew) (bools_falses (n := 1) (row_next2 (by simp)).drew) ((((Below.refl _ w).alloc (Nat.le_refl _) _).alloc (by simp) _).alloc (by simp; omega) _).drew)
      | exact bodyPost_ret (v := .tuple #[.agg #[.int .i64 (n : Int), .int .i64 0, .slice (some ⟨w.heap.size + 1 + 1, 0, none⟩) n n, .slice (some ⟨w.heap.size + 1, 0, none⟩) 1 1], .int .i64 0]) (results_cell_two rfl _ _ w.heap.size _ _ _ rfl _ rfl (((Row.new w _ _).alloc _).alloc _).drew Try.underlying25 rfl infoDfa) rfl
          (HPost.out _ _ _ (nums_zeros (row_next2 (by simp)).drew) (bools_falses (n := 1) ((row_next (by simp)).alloc _).drew) ((((Below.refl _ w).alloc (Nat.le_refl _) _).alloc (by simp) _).alloc (by simp; omega) _).drew)
end Go.Proofs.Ytdidogcgoghdmaa
