/- What every walk's text imports. -/
import Derived.Test.YtkajddopjflniaaGreatDoorRows
import Derived.Test.YtkajddopjflniaaGreatDoorPlains
import Derived.WalkKit
import Derived.WalkSpells
import Derived.WalkLawsBesides
import Derived.Lib.Hide
import Derived.ProofKit
import Derived.Below
import Derived.ChangeSame
import Derived.OpenShut
import Derived.Deep.QuietTactic
import Derived.BigQuiet

/- What every law's last step needs: the program's own closed facts; what a law that answers true leaves, where nothing below the heap's size has turned. -/
namespace Go.Proofs.YtkajddopjflniaaGreatDoor
open Go.ChangeShapes Go.WideShapes Go.ChangeAt Go.WideMaps Go.WideElems Go.RowKit
theorem own : ownKnob Tryz.prog.godebug = none := by kernel_rfl
section
variable {H : Type} {enc : TypeId × Value → H} {P : Program}
/-- A law that made memory of its own, and left all that there was. -/
theorem law_post {f : Func} {s : ChangeSpec} {fresh handsOn : Bool} {W W' : World} {args : Array Value} {v : Value} {ds gs : List (DataW H)} {before pa pv : List MemPlace}
    (hW : DataW.Whole enc P f.params.toList s.vars false W args.toList ds gs before) (hbelow : Below W.heap.size W W')
    (results : ∀ (b : Nat) (sp : Nat → Bool) (hd : Bool), DataW.TrodAll enc P W' b sp hd f.resultTypes.toList (v.resultList f.resultTypes.size) (s.fn H (ds ++ gs)).results [])
    (arguments : DataW.TrodAll enc P W' 0 (fun b => decide (b < W.heap.size)) true f.params.toList args.toList (s.fn H (ds ++ gs)).args pa)
    (variables : DataW.TrodVars enc P W' (fun b => decide (b < W.heap.size)) s.vars (s.fn H (ds ++ gs)).vars pv)
    (places : before = pa ++ pv) : s.post enc P f false fresh handsOn false W args v W' := by
  refine ⟨ds, gs, before, [], pa, pv, hW, results _ _ _, arguments, variables, ?_, fun h => by cases h⟩
  refine World.keptBut_mono (fun p hp => ⟨hp, ?_⟩) (hbelow.frame (· ∈ before))
  rw [places] at hp
  exact .inr (List.mem_append.1 hp)
end
theorem new_trans {a b c : World} (h : Below a.heap.size a b) (k : Below b.heap.size b c) : Below a.heap.size a c := h.trans (k.mono h.size)
/-- A byte that came in. -/
theorem byte_of {n : Int} (h : (Lit.int .u8 n).wf = true) : ∃ c : UInt8, n = (c.toNat : Int) := by
  have hb := bounds_u8 h
  refine ⟨UInt8.ofNat n.toNat, ?_⟩
  rw [UInt8.toNat_ofNat']
  omega
end Go.Proofs.YtkajddopjflniaaGreatDoor
/- The walks of Digits and Number, of octet and of the reference. -/
namespace Go.Proofs.YtkajddopjflniaaGreatDoor
open Go.RowKit

set_option maxHeartbeats 400000 in
theorem digits_calls (s : ByteArray) (w : World) (hs : s.size ≤ maxLen) :
    Calls Tryz.prog 55 #[.string s] w fun e w' => e = .returned (.bool (Oct.digits s.data.toList)) ∧ w = w' := by
  unfold maxLen at hs
  go_enter Tryz.func55, Tryz.ntmps55
  go_wp2
  go_loop [6] (fun i => ∃ k : Nat, k ≤ s.size ∧ i = .int .i64 k ∧ (s.data.toList.take k).all Oct.digitB = true) (fun i => s.size - (intOf i).toNat)
  case atStart => exact ⟨0, Nat.zero_le _, rfl, by simp⟩
  case round =>
    obtain ⟨k, hk, rfl, hall⟩ := hrel
    have HA := Lib.hid hall
    clear hall
    by_cases hlt : k < s.size
    · by_cases h1 : (48 : Int) ≤ (s[k].toNat : Int) <;> by_cases h2 : (s[k].toNat : Int) ≤ (57 : Int)
      · go_wp2
        go_round
        case rel => exact ⟨k + 1, by omega, by go_num, Oct.all_snoc s k hlt HA.out (by simp [Oct.digitB]; omega)⟩
        case measure => simp [intOf]; omega
      all_goals
        go_wp2
        go_ret
        exact ⟨ret_bool (by rw [Oct.digits_no s k hlt (by simp [Oct.digitB]; omega)]), rfl⟩
    · go_wp2
      go_ret
      exact ⟨ret_bool (by rw [Oct.digits_end s k (by omega) HA.out]; rw [Bool.eq_iff_iff]; simp [Oct.bytes_data]), rfl⟩

set_option maxHeartbeats 400000 in
theorem refDigits_calls (s : ByteArray) (w : World) (hs : s.size ≤ maxLen) :
    Calls Tryz.prog 34 #[.string s] w fun e w' => e = .returned (.bool (Oct.digits s.data.toList)) ∧ w = w' := by
  unfold maxLen at hs
  go_enter Tryz.func34, Tryz.ntmps34
  go_wp2
  go_loop [3] (fun i => ∃ k : Nat, k ≤ s.size ∧ i = .int .i64 k ∧ (s.data.toList.take k).all Oct.digitB = true) (fun i => s.size - (intOf i).toNat)
  case atStart => exact ⟨0, Nat.zero_le _, rfl, by simp⟩
  case round =>
    obtain ⟨k, hk, rfl, hall⟩ := hrel
    have HA := Lib.hid hall
    clear hall
    by_cases hlt : k < s.size
    · by_cases h1 : (48 : Int) ≤ (s[k].toNat : Int) <;> by_cases h2 : (s[k].toNat : Int) ≤ (57 : Int)
      · go_wp2
        go_round
        case rel => exact ⟨k + 1, by omega, by go_num, Oct.all_snoc s k hlt HA.out (by simp [Oct.digitB]; omega)⟩
        case measure => simp [intOf]; omega
      all_goals
        go_wp2
        go_ret
        exact ⟨ret_bool (by rw [Oct.digits_no s k hlt (by simp [Oct.digitB]; omega)]), rfl⟩
    · go_wp2
      go_ret
      exact ⟨ret_bool (by rw [Oct.digits_end s k (by omega) HA.out, Bool.eq_iff_iff]; simp [Oct.data_nil, Nat.pos_iff_ne_zero]), rfl⟩
end Go.Proofs.YtkajddopjflniaaGreatDoor
/- The walks of Number, of octet and of the reference. -/
namespace Go.Proofs.YtkajddopjflniaaGreatDoor
open Go.RowKit

set_option maxHeartbeats 400000 in
theorem number_long (s : ByteArray) (w : World) (hs : s.size ≤ maxLen) (h18 : 18 < s.size) :
    Calls Tryz.prog 86 #[.string s] w fun e w' => e = .returned (.tuple #[.int .i64 (Oct.number s.data.toList : Nat), .bool (Oct.isNum s.data.toList)]) ∧ w = w' := by
  unfold maxLen at hs
  have H := Lib.hid (Oct.num_long s h18)
  go_enter Tryz.func86, Tryz.ntmps86
  go_wp2
  go_ret2
  exact ⟨ret_two (val_int (by rw [Oct.number_no H.out]; rfl)) (val_bool H.out.symm), rfl⟩

set_option maxHeartbeats 400000 in
theorem number_nodigits (s : ByteArray) (w : World) (hs : s.size ≤ maxLen) (h18 : s.size ≤ 18) (hd : Oct.digits s.data.toList = false) :
    Calls Tryz.prog 86 #[.string s] w fun e w' => e = .returned (.tuple #[.int .i64 (Oct.number s.data.toList : Nat), .bool (Oct.isNum s.data.toList)]) ∧ w = w' := by
  have H := Lib.hid (Oct.num_no s hd)
  have HS := Lib.hid hs
  clear hs
  go_enter Tryz.func86, Tryz.ntmps86
  go_wp2_with (go_at_call 55; refine (digits_calls _ _ HS.out).mono ?_; rintro e w' ⟨rfl, rfl⟩)
  go_ret2
  exact ⟨ret_two (val_int (by rw [Oct.number_no H.out]; rfl)) (val_bool H.out.symm), rfl⟩

set_option maxHeartbeats 400000 in
theorem number_nought (s : ByteArray) (w : World) (hs : s.size ≤ maxLen) (h18 : s.size ≤ 18) (hd : Oct.digits s.data.toList = true) (h1 : 1 < s.size) (h0 : (s[0].toNat : Int) = 48) :
    Calls Tryz.prog 86 #[.string s] w fun e w' => e = .returned (.tuple #[.int .i64 (Oct.number s.data.toList : Nat), .bool (Oct.isNum s.data.toList)]) ∧ w = w' := by
  have H := Lib.hid (Oct.num_nought s h1 h0)
  have HS := Lib.hid hs
  have hne : (s.toList == [48]) = false := by
    rw [beq_eq_false_iff_ne, Oct.bytes_data]
    intro e
    have := (Oct.one_bytes s (by omega) 48).1 e
    omega
  clear hs
  go_enter Tryz.func86, Tryz.ntmps86
  go_wp2_with (go_at_call 55; refine (digits_calls _ _ HS.out).mono ?_; rintro e w' ⟨rfl, rfl⟩)
  go_ret2
  exact ⟨ret_two (val_int (by rw [Oct.number_no H.out]; rfl)) (val_bool H.out.symm), rfl⟩

set_option maxHeartbeats 1000000 in
theorem number_yes (s : ByteArray) (w : World) (hs : s.size ≤ maxLen) (h18 : s.size ≤ 18) (hd : Oct.digits s.data.toList = true) (h1 : (s[0]'(Oct.digits_pos hd)).toNat = 48 → s.size = 1) :
    Calls Tryz.prog 86 #[.string s] w fun e w' => e = .returned (.tuple #[.int .i64 (Oct.number s.data.toList : Nat), .bool (Oct.isNum s.data.toList)]) ∧ w = w' := by
  have H := Lib.hid (Oct.num_yes s hd h18 h1)
  have HS := Lib.hid hs
  have hp := Oct.digits_pos hd
  have HD := Lib.hid hd
  have hor : ((s[0].toNat : Int) == 48) = false ∨ (((s[0].toNat : Int) == 48) = true ∧ (s.toList == [48]) = true) := by
    by_cases h : s[0].toNat = 48
    · refine .inr ⟨by simp; omega, ?_⟩
      rw [beq_iff_eq, Oct.bytes_data]
      exact (Oct.one_bytes s hp 48).2 ⟨Oct.eq_of_toNat h, h1 h⟩
    · exact .inl (by simp; omega)
  clear hs h1
  rcases hor with h2 | ⟨h2, h3⟩
  all_goals
    go_enter Tryz.func86, Tryz.ntmps86
    go_wp2_with (go_at_call 55; refine (digits_calls _ _ HS.out).mono ?_; rintro e w' ⟨rfl, rfl⟩)
    clear hd
    go_loop [4, 23] (fun n i => ∃ k : Nat, k ≤ s.size ∧ i = .int .i64 k ∧ n = .int .i64 ((Oct.numOf (s.data.toList.take k) : Nat) : Int)) (fun _ i => s.size - (intOf i).toNat)
    case atStart => exact ⟨0, Nat.zero_le _, rfl, by simp [Oct.numOf]⟩
    case round =>
      obtain ⟨k, hk, rfl, rfl⟩ := hrel
      by_cases hlt : k < s.size
      · have hb := Oct.numOf_small HD.out h18 k hlt
        have hc := Oct.digits_at HD.out k hlt
        have HT := Lib.hid (Oct.numOf_take s k hlt)
        generalize Oct.numOf (s.data.toList.take k) = n at *
        go_wp2
        go_round
        case rel => exact ⟨k + 1, by omega, by go_num, val_int (by rw [HT.out]; omega)⟩
        case measure => simp [intOf]; omega
      · have HT := Lib.hid (Oct.take_all s k (by omega))
        go_wp2
        go_ret2
        exact ⟨ret_two (val_int (by rw [Oct.number_yes H.out, HT.out])) (val_bool H.out.symm), rfl⟩

theorem number_calls (s : ByteArray) (w : World) (hs : s.size ≤ maxLen) :
    Calls Tryz.prog 86 #[.string s] w fun e w' => e = .returned (.tuple #[.int .i64 (Oct.number s.data.toList : Nat), .bool (Oct.isNum s.data.toList)]) ∧ w = w' := by
  by_cases h18 : s.size ≤ 18
  · cases hd : Oct.digits s.data.toList with
    | false => exact number_nodigits s w hs h18 hd
    | true =>
      by_cases h1 : (s[0]'(Oct.digits_pos hd)).toNat = 48 → s.size = 1
      · exact number_yes s w hs h18 hd h1
      · have hp := Oct.digits_pos hd
        have : (s[0]'hp).toNat = 48 ∧ s.size ≠ 1 := by
          by_cases h : (s[0]'hp).toNat = 48
          · exact ⟨h, fun e => h1 fun _ => e⟩
          · exact absurd (fun k => absurd k h) h1
        exact number_nought s w hs h18 hd (by omega) (by have := this.1; omega)
  · exact number_long s w hs (by omega)
end Go.Proofs.YtkajddopjflniaaGreatDoor
/- The walks of the reference's Number. -/
namespace Go.Proofs.YtkajddopjflniaaGreatDoor
open Go.RowKit

set_option maxHeartbeats 1000000 in
theorem refNumber_nodigits (s : ByteArray) (w : World) (hs : s.size ≤ maxLen) (hd : Oct.digits s.data.toList = false) :
    Calls Tryz.prog 49 #[.string s] w fun e w' => e = .returned (.tuple #[.int .i64 (Oct.number s.data.toList : Nat), .bool (Oct.isNum s.data.toList)]) ∧ w = w' := by
  have H := Lib.hid (Oct.num_no s hd)
  have HS := Lib.hid hs
  unfold maxLen at hs
  go_enter Tryz.func49, Tryz.ntmps49
  go_wp2_with (go_at_call 34; refine (refDigits_calls _ _ HS.out).mono ?_; rintro e w' ⟨rfl, rfl⟩)
  go_ret2
  exact ⟨ret_two (val_int (by rw [Oct.number_no H.out]; rfl)) (val_bool H.out.symm), rfl⟩

set_option maxHeartbeats 1000000 in
theorem refNumber_long (s : ByteArray) (w : World) (hs : s.size ≤ maxLen) (hd : Oct.digits s.data.toList = true) (h18 : 18 < s.size) :
    Calls Tryz.prog 49 #[.string s] w fun e w' => e = .returned (.tuple #[.int .i64 (Oct.number s.data.toList : Nat), .bool (Oct.isNum s.data.toList)]) ∧ w = w' := by
  have H := Lib.hid (Oct.num_long s h18)
  have HS := Lib.hid hs
  unfold maxLen at hs
  go_enter Tryz.func49, Tryz.ntmps49
  go_wp2_with (go_at_call 34; refine (refDigits_calls _ _ HS.out).mono ?_; rintro e w' ⟨rfl, rfl⟩)
  go_ret2
  exact ⟨ret_two (val_int (by rw [Oct.number_no H.out]; rfl)) (val_bool H.out.symm), rfl⟩

set_option maxHeartbeats 1000000 in
theorem refNumber_nought (s : ByteArray) (w : World) (hs : s.size ≤ maxLen) (hd : Oct.digits s.data.toList = true) (h18 : s.size ≤ 18) (h1 : 1 < s.size) (h0 : (s[0].toNat : Int) = 48) :
    Calls Tryz.prog 49 #[.string s] w fun e w' => e = .returned (.tuple #[.int .i64 (Oct.number s.data.toList : Nat), .bool (Oct.isNum s.data.toList)]) ∧ w = w' := by
  have H := Lib.hid (Oct.num_nought s h1 h0)
  have HS := Lib.hid hs
  have h2 : ((s[0].toNat : Int) == 48) = true := by simp; omega
  clear hs h0
  go_enter Tryz.func49, Tryz.ntmps49
  go_wp2_with (go_at_call 34; refine (refDigits_calls _ _ HS.out).mono ?_; rintro e w' ⟨rfl, rfl⟩)
  go_ret2
  exact ⟨ret_two (val_int (by rw [Oct.number_no H.out]; rfl)) (val_bool H.out.symm), rfl⟩

set_option maxHeartbeats 1000000 in
theorem refNumber_yes (s : ByteArray) (w : World) (hs : s.size ≤ maxLen) (h18 : s.size ≤ 18) (hd : Oct.digits s.data.toList = true) (h1 : (s[0]'(Oct.digits_pos hd)).toNat = 48 → s.size = 1) :
    Calls Tryz.prog 49 #[.string s] w fun e w' => e = .returned (.tuple #[.int .i64 (Oct.number s.data.toList : Nat), .bool (Oct.isNum s.data.toList)]) ∧ w = w' := by
  have H := Lib.hid (Oct.num_yes s hd h18 h1)
  have HS := Lib.hid hs
  have hp := Oct.digits_pos hd
  have HD := Lib.hid hd
  have hor : (1 < s.size ∧ ((s[0].toNat : Int) == 48) = false) ∨ s.size ≤ 1 := by
    by_cases h : s[0].toNat = 48
    · exact .inr (by have := h1 h; omega)
    · by_cases h2 : 1 < s.size
      · exact .inl ⟨h2, by simp; omega⟩
      · exact .inr (by omega)
  clear hs h1
  rcases hor with ⟨h3, h2⟩ | h2
  all_goals
    go_enter Tryz.func49, Tryz.ntmps49
    go_wp2_with (go_at_call 34; refine (refDigits_calls _ _ HS.out).mono ?_; rintro e w' ⟨rfl, rfl⟩)
    clear hd
    go_loop [4, 5] (fun n i => ∃ k : Nat, k ≤ s.size ∧ i = .int .i64 k ∧ n = .int .i64 ((Oct.numOf (s.data.toList.take k) : Nat) : Int)) (fun _ i => s.size - (intOf i).toNat)
    case atStart => exact ⟨0, Nat.zero_le _, rfl, by simp [Oct.numOf]⟩
    case round =>
      obtain ⟨k, hk, rfl, rfl⟩ := hrel
      by_cases hlt : k < s.size
      · have hb := Oct.numOf_small HD.out h18 k hlt
        have hc := Oct.digits_at HD.out k hlt
        have HT := Lib.hid (Oct.numOf_take s k hlt)
        generalize Oct.numOf (s.data.toList.take k) = n at *
        go_wp2
        go_round
        case rel => exact ⟨k + 1, by omega, by go_num, val_int (by rw [HT.out]; omega)⟩
        case measure => simp [intOf]; omega
      · have HT := Lib.hid (Oct.take_all s k (by omega))
        go_wp2
        go_ret2
        exact ⟨ret_two (val_int (by rw [Oct.number_yes H.out, HT.out])) (val_bool H.out.symm), rfl⟩

theorem refNumber_calls (s : ByteArray) (w : World) (hs : s.size ≤ maxLen) :
    Calls Tryz.prog 49 #[.string s] w fun e w' => e = .returned (.tuple #[.int .i64 (Oct.number s.data.toList : Nat), .bool (Oct.isNum s.data.toList)]) ∧ w = w' := by
  cases hd : Oct.digits s.data.toList with
  | false => exact refNumber_nodigits s w hs hd
  | true =>
    by_cases h18 : s.size ≤ 18
    · by_cases h1 : (s[0]'(Oct.digits_pos hd)).toNat = 48 → s.size = 1
      · exact refNumber_yes s w hs h18 hd h1
      · have hp := Oct.digits_pos hd
        have : (s[0]'hp).toNat = 48 ∧ s.size ≠ 1 := by
          by_cases h : (s[0]'hp).toNat = 48
          · exact ⟨h, fun e => h1 fun _ => e⟩
          · exact absurd (fun k => absurd k h) h1
        exact refNumber_nought s w hs hd h18 (by omega) (by have := this.1; omega)
    · exact refNumber_long s w hs hd (by omega)
end Go.Proofs.YtkajddopjflniaaGreatDoor
/- The walk of Split. -/
namespace Go.Proofs.YtkajddopjflniaaGreatDoor
open Go.RowKit
theorem infoStr : (Tryz.prog.info? 9).map (fun i => (i.zero, i.size, i.bytes)) = some (some (.string ⟨#[]⟩), 1, 16) := by kernel_rfl

/-- A new list of texts. -/
def NewTexts (B : Nat) (ps : List (List UInt8)) (w : World) (e : Ending) (w' : World) : Prop :=
  ∃ v, e = .returned v ∧ w'.ownsRow B 9 1 v ps.length (ps.map strV) ∧ Below B w w'

theorem own_snoc {w : World} {B : Nat} {v u : Value} {done : List (List UInt8)} {p : List UInt8} (hu : u = strV p) (h : w.ownsRow B 9 1 v (done.length + 1) (done.map strV ++ [u])) :
    w.ownsRow B 9 1 v (done ++ [p]).length ((done ++ [p]).map strV) := by
  rw [List.length_append, List.map_append, List.map_singleton, ← hu]; exact h

set_option maxHeartbeats 1000000 in
theorem split_calls (s : ByteArray) (at_ : UInt8) (w : World) (hs : s.size ≤ 1099511627776) :
    Calls Tryz.prog 46 #[.string s, .int .u8 (at_.toNat : Int)] w (NewTexts w.heap.size (Oct.split at_ s.data.toList) w) := by
  obtain ⟨i0, hi, hz0, hz1, hz2⟩ := info_parts infoStr
  go_enter Tryz.func46, Tryz.ntmps46
  go_wp2
  go_loopw [5, 6, 10] (fun v f i wr => ∃ (k from_ : Nat) (done : List (List UInt8)), k ≤ s.size ∧ i = .int .i64 k ∧ f = .int .i64 from_ ∧ Oct.Cut at_ s.data.toList k done from_ ∧ wr.ownsRow w.heap.size 9 1 v done.length (done.map strV) ∧ Below w.heap.size w wr) (fun _ _ i _ => s.size - (intOf i).toNat)
  case atStart => exact ⟨0, 0, [], Nat.zero_le _, rfl, rfl, Oct.Cut.start _ _, World.ownsRow_nil _ _ _ _, Below.refl _ _⟩
  case round =>
    obtain ⟨k, from_, done, hk, rfl, rfl, hcut, hown, hb⟩ := hrel
    have hfk := hcut.le
    have hfew := hcut.few
    by_cases hlt : k < s.size
    · by_cases h1 : s[k] = at_
      · have h2 : ((s[k].toNat : Int) == (at_.toNat : Int)) = true := by rw [h1]; simp
        go_wp2_with (at_builtin; refine wpList_append_own _ rfl _ _ 45 rfl w.heap.size 9 i0 (.string ⟨#[]⟩) 1 16 Tryz.underlying45 hi hz0 hz1 hz2 rfl (by decide) _ _ _ rfl (hown.alloc _) ⟨wr.heap.size, 0, none⟩ 1 1 [.string (s.extract from_ k)] rfl rfl (cell_one_new _ _ _) ?c1a ?c1b ?c1c ?c1d ?_)
        case c1a => intro u hu; simp at hu; subst hu; rfl
        case c1b => simp only [maxLen]; omega
        case c1c => omega
        case c1d => have := hb.size; simp; omega
        · intro v' w1 hown' hgrow _
          have R := own_snoc (strV_extract s from_ k) hown'
          have B := hb.trans (((Below.refl _ wr).alloc hb.size _).grown hgrow (by have := hb.size; simp; omega) (fun g hg => (hown.lt g hg).1))
          clear hown' hgrow hown
          go_wp2
          go_roundw
          case rel => exact ⟨k + 1, k + 1, _, by omega, by go_num, by go_num, hcut.hit (by rw [Oct.length_bytes]; exact hlt) h1, R, B⟩
          case measure => simp [intOf]; omega
      · have h2 : ((s[k].toNat : Int) == (at_.toNat : Int)) = false := by
          rw [beq_eq_false_iff_ne]; intro e; exact h1 (Oct.eq_of_toNat (by omega))
        go_wp2
        go_roundw
        case rel => exact ⟨k + 1, from_, done, by omega, by go_num, rfl, hcut.miss (by rw [Oct.length_bytes]; exact hlt) h1, hown, hb⟩
        case measure => simp [intOf]; omega
    · go_wp2_with (at_builtin; refine wpList_append_own _ rfl _ _ 45 rfl w.heap.size 9 i0 (.string ⟨#[]⟩) 1 16 Tryz.underlying45 hi hz0 hz1 hz2 rfl (by decide) _ _ _ rfl (hown.alloc _) ⟨wr.heap.size, 0, none⟩ 1 1 [.string (s.extract from_ s.size)] rfl rfl (cell_one_new _ _ _) ?c2a ?c2b ?c2c ?c2d ?_)
      case c2a => intro u hu; simp at hu; subst hu; rfl
      case c2b => simp only [maxLen]; omega
      case c2c => omega
      case c2d => have := hb.size; simp; omega
      · intro v' w1 hown' hgrow _
        have R := own_snoc (strV_end s from_ s.size (Nat.le_refl _)) hown'
        have B := hb.trans (((Below.refl _ wr).alloc hb.size _).grown hgrow (by have := hb.size; simp; omega) (fun g hg => (hown.lt g hg).1))
        clear hown' hgrow hown
        have HC := Lib.hid (hcut.done (by rw [Oct.length_bytes]; omega))
        go_wp2
        go_ret
        exact ⟨_, rfl, by rw [HC.out]; exact R, B⟩
/-- A new list of texts that isn't nil. -/
def NewTextsAt (B : Nat) (ps : List (List UInt8)) (w : World) (e : Ending) (w' : World) : Prop :=
  ∃ g cap, e = .returned (.slice (some ⟨g, 0, none⟩) ps.length cap) ∧ w'.ownsRow B 9 1 (.slice (some ⟨g, 0, none⟩) ps.length cap) ps.length (ps.map strV) ∧ Below B w w'
theorem NewTexts.at_ {B : Nat} {ps : List (List UInt8)} {w w' : World} {e : Ending} (h : NewTexts B ps w e w') (hp : 0 < ps.length) : NewTextsAt B ps w e w' := by
  obtain ⟨v, he, hown, hb⟩ := h
  rcases hown.2 with ⟨_, h0⟩ | ⟨g, cap, _, hv, _⟩
  · omega
  · subst hv
    exact ⟨g, cap, he, hown, hb⟩
theorem split_at (s : ByteArray) (at_ : UInt8) (w : World) (hs : s.size ≤ 1099511627776) :
    Calls Tryz.prog 46 #[.string s, .int .u8 (at_.toNat : Int)] w (NewTextsAt w.heap.size (Oct.split at_ s.data.toList) w) :=
  (split_calls s at_ w hs).mono fun _ _ h => h.at_ (Oct.split_pos _ _)
/-- The cell of a text of a list. -/
theorem own_cell {w : World} {B g cap : Nat} {ps : List (List UInt8)} (h : w.ownsRow B 9 1 (.slice (some ⟨g, 0, none⟩) ps.length cap) ps.length (ps.map strV)) {k : Nat} (hk : k < ps.length) :
    ∃ (p : List UInt8) (s : ByteArray), ps[k]? = some p ∧ w.cell? ⟨g, k, none⟩ = some (.string s) ∧ s.data.toList = p ∧ s.toList.isEmpty = p.isEmpty ∧ s.size = p.length := by
  obtain ⟨p, s, h1, h2, h3, h4, h5⟩ := text_at hk
  refine ⟨p, s, h1, ?_, h3, h4, h5⟩
  rw [h.cellAt k (by omega), List.getElem?_map, h1, ← h2]; rfl
theorem own_text {w : World} {B g cap n : Nat} {ps : List (List UInt8)} (h : w.ownsRow B 9 1 (.slice (some ⟨g, 0, none⟩) n cap) n (ps.map strV)) {k : Nat} {p : List UInt8} {s : ByteArray} (hp : ps[k]? = some p) (hs : s = ⟨p.toArray⟩) :
    w.cell? ⟨g, k, none⟩ = some (.string s) := by
  have hk := (List.getElem?_eq_some_iff.1 hp).1
  have hl := h.1
  rw [List.length_map] at hl
  rw [h.cellAt k (by omega), List.getElem?_map, hp, hs]; rfl
theorem own_cap {w : World} {B g cap n : Nat} {t : TypeId} {xs : List Value} (h : w.ownsRow B t 1 (.slice (some ⟨g, 0, none⟩) n cap) n xs) : n ≤ cap := by
  rcases h.2 with ⟨e, _⟩ | ⟨g', cap', _, e, _, _, hc, _⟩
  · cases e
  · simp only [Value.slice.injEq, Option.some.injEq, Addr.mk.injEq, and_true, true_and] at e
    rw [e.2]; exact hc
/-- The first m of an owned list. -/
theorem own_take {w : World} {B g cap n m : Nat} {t : TypeId} {xs : List Value} (h : w.ownsRow B t 1 (.slice (some ⟨g, 0, none⟩) n cap) n xs) (hm : m ≤ n) : w.ownsRow B t 1 (.slice (some ⟨g, 0, none⟩) m cap) m (xs.take m) := by
  refine ⟨by have := h.1; rw [List.length_take]; omega, ?_⟩
  rcases h.2 with ⟨e, _⟩ | ⟨g', cap', cur, e, hb, hh, hc, hx, hs, ht⟩
  · cases e
  · simp only [Value.slice.injEq, Option.some.injEq, Addr.mk.injEq, and_true, true_and] at e
    obtain ⟨rfl, rfl⟩ := e
    refine .inr ⟨g, cap, cur, rfl, hb, hh, by omega, hx, hs, ?_⟩
    rw [← ht, List.take_take, Nat.mul_one, Nat.mul_one, Nat.min_eq_left hm]
end Go.Proofs.YtkajddopjflniaaGreatDoor
/- The walk of the reference's Split. -/
namespace Go.Proofs.YtkajddopjflniaaGreatDoor
open Go.RowKit
set_option maxHeartbeats 1000000 in
theorem refSplit_calls (s : ByteArray) (at_ : UInt8) (w : World) (hs : s.size ≤ 1099511627776) :
    Calls Tryz.prog 33 #[.string s, .int .u8 (at_.toNat : Int)] w (NewTexts w.heap.size (Oct.split at_ s.data.toList) w) := by
  obtain ⟨i0, hi, hz0, hz1, hz2⟩ := info_parts infoStr
  go_enter Tryz.func33, Tryz.ntmps33
  go_wp2
  go_loopw [5, 6, 7] (fun v f i wr => ∃ (k from_ : Nat) (done : List (List UInt8)), k ≤ s.size ∧ i = .int .i64 k ∧ f = .int .i64 from_ ∧ Oct.Cut at_ s.data.toList k done from_ ∧ wr.ownsRow w.heap.size 9 1 v done.length (done.map strV) ∧ Below w.heap.size w wr) (fun _ _ i _ => s.size - (intOf i).toNat)
  case atStart => exact ⟨0, 0, [], Nat.zero_le _, rfl, rfl, Oct.Cut.start _ _, World.ownsRow_made w #[] 0 (Nat.le_refl _) (Nat.zero_le _) rfl, (Below.refl _ _).alloc (Nat.le_refl _) _⟩
  case round =>
    obtain ⟨k, from_, done, hk, rfl, rfl, hcut, hown, hb⟩ := hrel
    have hfk := hcut.le
    have hfew := hcut.few
    by_cases hlt : k < s.size
    · by_cases h1 : s[k] = at_
      · have h2 : ((s[k].toNat : Int) == (at_.toNat : Int)) = true := by rw [h1]; simp
        go_wp2_with (at_builtin; refine wpList_append_own _ rfl _ _ 45 rfl w.heap.size 9 i0 (.string ⟨#[]⟩) 1 16 Tryz.underlying45 hi hz0 hz1 hz2 rfl (by decide) _ _ _ rfl (hown.alloc _) ⟨wr.heap.size, 0, none⟩ 1 1 [.string (s.extract from_ k)] rfl rfl (cell_one_new _ _ _) ?c1a ?c1b ?c1c ?c1d ?_)
        case c1a => intro u hu; simp at hu; subst hu; rfl
        case c1b => simp only [maxLen]; omega
        case c1c => omega
        case c1d => have := hb.size; simp; omega
        · intro v' w1 hown' hgrow _
          have R := own_snoc (strV_extract s from_ k) hown'
          have B := hb.trans (((Below.refl _ wr).alloc hb.size _).grown hgrow (by have := hb.size; simp; omega) (fun g hg => (hown.lt g hg).1))
          clear hown' hgrow hown
          go_wp2
          go_roundw
          case rel => exact ⟨k + 1, k + 1, _, by omega, by go_num, by go_num, hcut.hit (by rw [Oct.length_bytes]; exact hlt) h1, R, B⟩
          case measure => simp [intOf]; omega
      · have h2 : ((s[k].toNat : Int) == (at_.toNat : Int)) = false := by
          rw [beq_eq_false_iff_ne]; intro e; exact h1 (Oct.eq_of_toNat (by omega))
        go_wp2
        go_roundw
        case rel => exact ⟨k + 1, from_, done, by omega, by go_num, rfl, hcut.miss (by rw [Oct.length_bytes]; exact hlt) h1, hown, hb⟩
        case measure => simp [intOf]; omega
    · go_wp2_with (at_builtin; refine wpList_append_own _ rfl _ _ 45 rfl w.heap.size 9 i0 (.string ⟨#[]⟩) 1 16 Tryz.underlying45 hi hz0 hz1 hz2 rfl (by decide) _ _ _ rfl (hown.alloc _) ⟨wr.heap.size, 0, none⟩ 1 1 [.string (s.extract from_ s.size)] rfl rfl (cell_one_new _ _ _) ?c2a ?c2b ?c2c ?c2d ?_)
      case c2a => intro u hu; simp at hu; subst hu; rfl
      case c2b => simp only [maxLen]; omega
      case c2c => omega
      case c2d => have := hb.size; simp; omega
      · intro v' w1 hown' hgrow _
        have R := own_snoc (strV_end s from_ s.size (Nat.le_refl _)) hown'
        have B := hb.trans (((Below.refl _ wr).alloc hb.size _).grown hgrow (by have := hb.size; simp; omega) (fun g hg => (hown.lt g hg).1))
        clear hown' hgrow hown
        have HC := Lib.hid (hcut.done (by rw [Oct.length_bytes]; omega))
        go_wp2
        go_ret
        exact ⟨_, rfl, by rw [HC.out]; exact R, B⟩
end Go.Proofs.YtkajddopjflniaaGreatDoor
/- Bytes in memory that a call owns, and texts out of them. -/
namespace Go.Proofs.YtkajddopjflniaaGreatDoor
open Go.RowKit
theorem own_keep {w w' : World} {B n : Nat} {t : TypeId} {v : Value} {xs : List Value} (h : w.ownsRow B t 1 v n xs) (hb : Below w.heap.size w w') : w'.ownsRow B t 1 v n xs := by
  refine h.kept (row := none) ⟨hb.os, hb.tape, hb.output, hb.size, fun i hi _ => hb.block i hi⟩ ?_
  cases hv : v.ownBlock
  · exact .inl rfl
  · exact .inr (by simp)
theorem own_far {w : World} {B n : Nat} {t : TypeId} {v : Value} {xs : List Value} (h : w.ownsRow B t 1 v n xs) {p : Addr} (hp : v.ownBlock ≠ some p.block) (u : Value) : (w.setCell p u).ownsRow B t 1 v n xs := by
  refine h.kept (row := some p.block) ⟨rfl, rfl, rfl, by simp [World.setCell], fun i _ hn => Below.heap_setCell w p u i (by intro e; exact hn (by rw [e]))⟩ (.inr hp)
theorem infoByte : (Tryz.prog.info? 5).map (fun i => (i.zero, i.size, i.bytes)) = some (some (.int .u8 0), 1, 1) := by kernel_rfl
/-- A text, and new memory. -/
def NewText (B : Nat) (l : List UInt8) (w : World) (e : Ending) (w' : World) : Prop := e = .returned (.string ⟨l.toArray⟩) ∧ Below B w w'
/-- The text of bytes that the call owns. -/
theorem own_string {w : World} {B g cap n : Nat} {l : List UInt8} (h : w.ownsRow B 5 1 (.slice (some ⟨g, 0, none⟩) n cap) n (l.map byteV)) :
    (convert 59 9 (.slice (some ⟨g, 0, none⟩) n cap)).run Tryz.prog w = .ok (.string ⟨l.toArray⟩) w := by
  have hl : l.length = n := by have := h.1; rw [List.length_map] at this; omega
  subst hl
  refine run_convert_bytes_back w 59 9 5 ⟨g, 0, none⟩ cap l Tryz.underlying59 Tryz.underlying5 Tryz.underlying9 (fun j hj => ?_)
  exact h.cells (g := g) rfl j _ (by rw [List.getElem?_map, List.getElem?_eq_getElem hj]; rfl)

/-- The bytes l lie at the head of block g, and may be written. -/
structure Bytes (w : World) (g : Nat) (l : List UInt8) : Prop where
  cell : ∀ j c, l[j]? = some c → w.cell? ⟨g, j, none⟩ = some (byteV c)
  free : ∀ j, j < l.length → w.frozen? ⟨g, j, none⟩ = false
theorem Bytes.set {w : World} {g : Nat} {l : List UInt8} (h : Bytes w g l) (k : Nat) (c : UInt8) : Bytes (w.setCell ⟨g, k, none⟩ (byteV c)) g (l.set k c) := by
  refine ⟨fun j d hj => ?_, fun j hj => ?_⟩
  · by_cases e : j = k
    · subst e
      have hlt : j < l.length := by have := (List.getElem?_eq_some_iff.1 hj).1; simpa using this
      rw [List.getElem?_set_self hlt] at hj
      rw [← Option.some.inj hj]
      exact World.cell?_setCell_same w _ _ (h.cell j _ (List.getElem?_eq_getElem hlt))
    · rw [List.getElem?_set_ne (by omega)] at hj
      rw [World.cell?_setCell_other w _ _ _ (by intro e'; injection e' with _ e'; exact e e'.symm)]
      exact h.cell j d hj
  · rw [World.frozen?_setCell]; exact h.free j (by simpa using hj)
theorem Bytes.string {w : World} {g cap : Nat} {l : List UInt8} (h : Bytes w g l) :
    (convert 59 9 (.slice (some ⟨g, 0, none⟩) l.length cap)).run Tryz.prog w = .ok (.string ⟨l.toArray⟩) w := by
  refine run_convert_bytes_back w 59 9 5 ⟨g, 0, none⟩ cap l Tryz.underlying59 Tryz.underlying5 Tryz.underlying9 (fun j hj => ?_)
  have hadd : (⟨g, 0, none⟩ : Addr).add j = ⟨g, j, none⟩ := by unfold Addr.add; split <;> simp_all
  rw [hadd]
  exact h.cell j _ (List.getElem?_eq_getElem hj)
theorem Bytes.new (w : World) (s : ByteArray) (cap : Nat) (t : TypeId) : Bytes (w.drew.alloc (.cells (bytesRow s cap) t ((bytesRow s cap).size, (bytesRow s cap).size + 1))) w.heap.size s.data.toList := by
  refine ⟨fun j c hj => ?_, fun j hj => ?_⟩
  · obtain ⟨hlt, e⟩ := List.getElem?_eq_some_iff.1 hj
    have := World.cell?_alloc_mark w.drew (bytesRow s cap) t ((bytesRow s cap).size, (bytesRow s cap).size + 1) j
    refine Eq.trans this ?_
    rw [bytesRow_at s cap j (by simpa using hlt)]
    rw [← e]; rfl
  · have := World.frozen?_alloc_mark w.drew (bytesRow s cap) t (bytesRow s cap).size ((bytesRow s cap).size + 1) j
    refine Eq.trans this ?_
    have h1 : j < (bytesRow s cap).size := by simp [bytesRow] at hj ⊢; omega
    simp; omega

theorem one_string (W : World) (c : UInt8) : (convert 59 9 (.slice (some ⟨W.heap.size, 0, none⟩) 1 1)).run Tryz.prog (W.alloc (.cells #[.int .u8 (c.toNat : Int)] 5)) = .ok (.string ⟨#[c]⟩) (W.alloc (.cells #[.int .u8 (c.toNat : Int)] 5)) := by
  refine run_convert_bytes_back (W.alloc (.cells #[.int .u8 (c.toNat : Int)] 5)) 59 9 5 ⟨W.heap.size, 0, none⟩ 1 [c] Tryz.underlying59 Tryz.underlying5 Tryz.underlying9 (fun j hj => ?_)
  have : j = 0 := by simp at hj; exact hj
  subst this
  exact cell_one_new W (.int .u8 (c.toNat : Int)) 5 0 _ rfl

theorem nil_string (w : World) : (convert 59 9 (.slice none 0 0)).run Tryz.prog w = .ok (.string ⟨#[]⟩) w := by
  have := run_convert_bytes_string (P := Tryz.prog) w 59 9 5 none 0 0 Tryz.underlying59 Tryz.underlying5 Tryz.underlying9
  rw [this]; rfl
theorem own_string_any {w : World} {B n : Nat} {v : Value} {l : List UInt8} (h : w.ownsRow B 5 1 v n (l.map byteV)) :
    ∃ A c, v = .slice A n c ∧ (convert 59 9 v).run Tryz.prog w = .ok (.string ⟨l.toArray⟩) w := by
  have hl : l.length = n := by have := h.1; rw [List.length_map] at this; omega
  rcases h.2 with ⟨rfl, h0⟩ | ⟨g, cap, _, rfl, _⟩
  · subst h0
    have : l = [] := List.eq_nil_of_length_eq_zero hl
    subst this
    exact ⟨none, 0, rfl, nil_string w⟩
  · exact ⟨_, cap, rfl, own_string h⟩
/-- A text, whether it is one, and new memory. -/
def NewTextIf (B : Nat) (l : List UInt8) (ok : Bool) (w : World) (e : Ending) (w' : World) : Prop := e = .returned (.tuple #[.string ⟨l.toArray⟩, .bool ok]) ∧ Below B w w'

end Go.Proofs.YtkajddopjflniaaGreatDoor
/- Worlds that part by draws alone. -/
namespace Go.Proofs.YtkajddopjflniaaGreatDoor
open Go.RowKit
/-- Nothing but draws. -/
def Drawn (w w' : World) : Prop := ∃ n, w' = w.drewN n
theorem Drawn.refl (w : World) : Drawn w w := ⟨0, rfl⟩
theorem Drawn.more {w w' : World} (h : Drawn w w') (n : Nat) : Drawn w (w'.drewN n) := by
  obtain ⟨k, rfl⟩ := h
  exact ⟨k + n, World.drewN_drewN _ _ _⟩
theorem Drawn.below {w w' : World} (h : Drawn w w') (B : Nat) : Below B w w' := by
  obtain ⟨n, rfl⟩ := h
  induction n with
  | zero => exact Below.refl _ _
  | succ n ih => exact ih.drew
theorem Drawn.size {w w' : World} (h : Drawn w w') : w'.heap.size = w.heap.size := by
  obtain ⟨n, rfl⟩ := h
  induction n with
  | zero => rfl
  | succ n ih => exact ih
theorem quietL {P : Program} {f : FuncId} {args : Array Value} {w : World} {n : Nat} {v : Value} (h : Calls P f args (w.drewN n) fun e w' => e = .returned v ∧ w.drewN n = w') :
    Calls P f args (w.drewN n) fun e w'' => e = .returned v ∧ ∃ m, w'' = w.drewN m := h.mono fun _ _ hh => ⟨hh.1, n, hh.2.symm⟩

def BoolDrawn (b : Bool) (w : World) (e : Ending) (w' : World) : Prop := e = .returned (.bool b) ∧ Drawn w w'

theorem Drawn.cell {w w' : World} (h : Drawn w w') (p : Addr) : w'.cell? p = w.cell? p := by
  obtain ⟨n, rfl⟩ := h
  induction n with
  | zero => rfl
  | succ n ih => exact ih
theorem own_any {w : World} {B n : Nat} {t : TypeId} {v : Value} {xs : List Value} (h : w.ownsRow B t 1 v n xs) :
    ∃ A c, v = .slice A n c ∧ (0 < n → ∃ g, A = some ⟨g, 0, none⟩) := by
  rcases h.2 with ⟨rfl, rfl⟩ | ⟨g, cap, _, rfl, _⟩
  · exact ⟨none, 0, rfl, fun h => absurd h (by omega)⟩
  · exact ⟨some ⟨g, 0, none⟩, cap, rfl, fun _ => ⟨g, rfl⟩⟩
theorem texts_no {ps qs : List (List UInt8)} {k : Nat} {p q : List UInt8} (h1 : ps[k]? = some p) (h2 : qs[k]? = some q) (hne : p ≠ q) : decide (ps = qs) = false :=
  decide_eq_false fun e => hne (by rw [e, h2] at h1; exact (Option.some.inj h1).symm)
theorem texts_more {ps qs : List (List UInt8)} {k : Nat} {p q : List UInt8} (h1 : ps[k]? = some p) (h2 : qs[k]? = some q) (he : p = q) (h : ps.take k = qs.take k) : ps.take (k + 1) = qs.take (k + 1) := by
  rw [List.take_add_one, List.take_add_one, h1, h2, h, he]
theorem texts_yes {ps qs : List (List UInt8)} {k : Nat} (h1 : ps.length ≤ k) (h2 : qs.length ≤ k) (h : ps.take k = qs.take k) : decide (ps = qs) = true := by
  rw [List.take_of_length_le h1, List.take_of_length_le h2] at h
  exact decide_eq_true h

end Go.Proofs.YtkajddopjflniaaGreatDoor
/- The walks of octet's and the reference's functions of one byte. -/
namespace Go.Proofs.YtkajddopjflniaaGreatDoor
open Go.RowKit

theorem small_calls (c : UInt8) (w : World) :
    Calls Tryz.prog 74 #[.int .u8 (c.toNat : Int)] w fun e w' => e = .returned (.int .u8 ((Oct.low c).toNat : Int)) ∧ w = w' := by
  have hl := Oct.low_toNat c
  have hc : c.toNat < 256 := c.toNat_lt
  have HL := Lib.hid hl
  clear hl
  by_cases h1 : (65 : Int) ≤ (c.toNat : Int) <;> by_cases h2 : (c.toNat : Int) ≤ (90 : Int)
  all_goals
    go_enter Tryz.func74, Tryz.ntmps74
    go_wp2
    go_ret
    exact ⟨ret_int (by rw [HL.out]; split <;> omega), rfl⟩
end Go.Proofs.YtkajddopjflniaaGreatDoor
/- The walks of octet's and the reference's other functions of one byte. -/
namespace Go.Proofs.YtkajddopjflniaaGreatDoor
open Go.RowKit
end Go.Proofs.YtkajddopjflniaaGreatDoor
/- The walk of Same (two texts). -/
namespace Go.Proofs.YtkajddopjflniaaGreatDoor
open Go.RowKit
end Go.Proofs.YtkajddopjflniaaGreatDoor
/- The walk of the reference's Same (two lists of texts). -/
namespace Go.Proofs.YtkajddopjflniaaGreatDoor
open Go.RowKit
end Go.Proofs.YtkajddopjflniaaGreatDoor
/- The walks of Lower, of octet and of the reference. -/
namespace Go.Proofs.YtkajddopjflniaaGreatDoor
open Go.RowKit
namespace Oct
/-- The first k of a text's bytes made small. -/
def halfLow (l : List UInt8) (k : Nat) : List UInt8 := (l.take k).map low ++ l.drop k
theorem halfLow_zero (l : List UInt8) : halfLow l 0 = l := by simp [halfLow]
theorem halfLow_length (l : List UInt8) (k : Nat) : (halfLow l k).length = l.length := by simp [halfLow]; omega
theorem halfLow_end {l : List UInt8} {k : Nat} (h : l.length ≤ k) : halfLow l k = l.map low := by
  unfold halfLow; rw [List.take_of_length_le h, List.drop_eq_nil_of_le h, List.append_nil]
theorem halfLow_at {l : List UInt8} {k : Nat} (h : k < l.length) : (halfLow l k)[k]? = some l[k] := by
  unfold halfLow
  rw [List.getElem?_append_right (by simp; omega)]
  simp only [List.length_map, List.length_take]
  rw [List.getElem?_drop, List.getElem?_eq_getElem (by omega)]
  congr 1
  have : k + (k - min k l.length) = k := by omega
  simp only [this]
theorem halfLow_set {l : List UInt8} {k : Nat} (h : k < l.length) : (halfLow l k).set k (low l[k]) = halfLow l (k + 1) := by
  unfold halfLow
  rw [List.set_append_right _ _ (by simp; omega), List.take_succ_eq_append_getElem h, List.map_append, List.append_assoc, List.drop_eq_getElem_cons h]
  have : k - ((l.take k).map low).length = 0 := by simp; omega
  rw [this]; rfl
end Oct
set_option maxRecDepth 100000 in
set_option maxHeartbeats 1000000 in
theorem lower_calls (s : ByteArray) (w : World) (hs : s.size ≤ 1099511627776) :
    Calls Tryz.prog 58 #[.string s] w (NewText w.heap.size (s.data.toList.map Oct.low) w) := by
  have hcv := fun W => run_bytes_of_string (P := Tryz.prog) W 9 59 5 s Tryz.underlying9 Tryz.underlying59 Tryz.underlying5
  go_enter Tryz.func58, Tryz.ntmps58
  go_wp2
  go_loopw [9] (fun i wr => ∃ k : Nat, k ≤ s.size ∧ i = .int .i64 k ∧ Bytes wr w.heap.size (Oct.halfLow s.data.toList k) ∧ Below w.heap.size w wr) (fun i _ => s.size - (intOf i).toNat)
  case atStart => exact ⟨0, Nat.zero_le _, rfl, by rw [Oct.halfLow_zero]; exact Bytes.new w s _ _, ((Below.refl _ w).alloc (Nat.le_refl _) _).drew⟩
  case round =>
    obtain ⟨k, hk, rfl, hB, hb⟩ := hrel
    clear hcv
    by_cases hlt : k < s.size
    · have hlt' : k < s.data.toList.length := by rw [Oct.length_bytes]; exact hlt
      have hcell := hB.cell k _ (Oct.halfLow_at hlt')
      have hfr := hB.free k (by rw [Oct.halfLow_length]; exact hlt')
      have hset := hB.set k (Oct.low s[k])
      have e1 : (Oct.halfLow s.data.toList k).set k (Oct.low s[k]) = Oct.halfLow s.data.toList (k + 1) := Oct.halfLow_set hlt'
      rw [e1] at hset
      have HS := Lib.hid hset
      unfold byteV at hcell
      rw [Oct.getElem_bytes s k hlt] at hcell
      clear hset hB
      go_wp2_with (go_at_call 74; refine (small_calls _ _).mono ?_; rintro e w' ⟨rfl, rfl⟩)
      go_roundw
      case rel => exact ⟨k + 1, by omega, by go_num, HS.out, hb.setCell (p := ⟨w.heap.size, k, none⟩) (Nat.le_refl _) _⟩
      case measure => simp [intOf]; omega
    · have hz := Oct.halfLow_end (l := s.data.toList) (k := k) (by rw [Oct.length_bytes]; omega)
      rw [hz] at hB
      have hl : (s.data.toList.map Oct.low).length = s.size := by rw [List.length_map, Oct.length_bytes]
      have hconv := hB.string (cap := grownCap w s.size 0 5)
      rw [hl] at hconv
      clear hz hl hB
      go_wp2
      go_ret
      exact ⟨rfl, hb⟩

set_option maxRecDepth 100000 in
set_option maxHeartbeats 1000000 in
theorem refLower_calls (s : ByteArray) (w : World) (hs : s.size ≤ 1099511627776) :
    Calls Tryz.prog 32 #[.string s] w (NewText w.heap.size (s.data.toList.map Oct.low) w) := by
  go_enter Tryz.func32, Tryz.ntmps32
  go_wp2
  go_loopw [3, 4] (fun v i wr => ∃ (k : Nat) (o : ByteArray), k ≤ s.size ∧ i = .int .i64 k ∧ v = .string o ∧ o.data.toList = (s.data.toList.take k).map Oct.low ∧ o.size = k ∧ Below w.heap.size w wr) (fun _ i _ => s.size - (intOf i).toNat)
  case atStart => exact ⟨0, ⟨#[]⟩, Nat.zero_le _, rfl, rfl, by simp, rfl, Below.refl _ _⟩
  case round =>
    obtain ⟨k, o, hk, rfl, rfl, ho, hz, hb⟩ := hrel
    have HO := Lib.hid ho
    have hz1 : o.size ≤ k := by omega
    have HZ := Lib.hid hz
    clear ho hz
    by_cases hlt : k < s.size
    · have hc : s[k].toNat < 256 := s[k].toNat_lt
      have h1 := one_string wr (Oct.low s[k])
      have hL := Oct.low_toNat s[k]
      have hsz : ∀ c : UInt8, (⟨#[c]⟩ : ByteArray).size = 1 := fun _ => rfl
      have HN := Lib.hid (show (o ++ ⟨#[Oct.low s[k]]⟩ : ByteArray).data.toList = (s.data.toList.take (k + 1)).map Oct.low from by
        rw [List.take_succ_eq_append_getElem (by rw [Array.length_toList]; exact hlt), List.map_append, ← HO.out]
        rw [ByteArray.data_append, Array.toList_append]; rfl)
      have HM := Lib.hid (show (o ++ ⟨#[Oct.low s[k]]⟩ : ByteArray).size = k + 1 from by rw [ByteArray.size_append, HZ.out]; rfl)
      by_cases hg : (65 : Int) ≤ (s[k].toNat : Int) ∧ (s[k].toNat : Int) ≤ 90
      · have e : ((Oct.low s[k]).toNat : Int) = (s[k].toNat : Int) + 32 := by rw [hL]; rw [if_pos (by omega)]; omega
        rw [e] at h1
        obtain ⟨hg1, hg2⟩ := hg
        clear hL e
        go_wp2
        go_roundw
        case rel => exact ⟨k + 1, _, by omega, by go_num, rfl, HN.out, HM.out, hb.alloc hb.size _⟩
        case measure => simp [intOf]; omega
      · have e : ((Oct.low s[k]).toNat : Int) = (s[k].toNat : Int) := by rw [hL]; rw [if_neg (by omega)]
        rw [e] at h1
        clear hL e
        by_cases hg1 : (65 : Int) ≤ (s[k].toNat : Int)
        · have hg2 : ¬ (s[k].toNat : Int) ≤ 90 := fun h => hg ⟨hg1, h⟩
          clear hg
          go_wp2
          go_roundw
          case rel => exact ⟨k + 1, _, by omega, by go_num, rfl, HN.out, HM.out, hb.alloc hb.size _⟩
          case measure => simp [intOf]; omega
        · clear hg
          go_wp2
          go_roundw
          case rel => exact ⟨k + 1, _, by omega, by go_num, rfl, HN.out, HM.out, hb.alloc hb.size _⟩
          case measure => simp [intOf]; omega
    · have HE := Lib.hid (show o = ⟨(s.data.toList.map Oct.low).toArray⟩ from by
        have := HO.out
        rw [Oct.take_all s k (by omega)] at this
        rw [← this, Lib.mk_data])
      go_wp2
      go_ret
      exact ⟨ret_str HE.out, hb⟩
end Go.Proofs.YtkajddopjflniaaGreatDoor
