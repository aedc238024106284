/- The walk of write: the pieces of a header's text, one behind the other, and joined. -/
import Derived.Test.YtpimaobejjpffaaGreatDoorHeaderPut
import Derived.Test.YtpimaobejjpffaaGreatDoorHeaderWord
import Derived.Test.YtpimaobejjpffaaGreatDoorDateText
import Derived.Deep.RegionHeld
namespace Go.Proofs.YtpimaobejjpffaaGreatDoor
open Go.RowKit
namespace Hd
theorem put_first (h : Head) : (if true = true then ([] : List (List UInt8)) ++ [h.name ++ 61 :: h.value] else []) = [h.name ++ 61 :: h.value] := rfl
theorem add_exp (ps : List (List UInt8)) (o : Option Int) : (if o.isSome = true then ps ++ [wExp ++ 61 :: Dt.text (o.getD 0)] else ps) = ps ++ partExp o := by
  cases o with
  | none => rw [if_neg (by simp)]; exact (List.append_nil ps).symm
  | some n => rw [if_pos (by rfl)]; rfl
theorem add_age (ps : List (List UInt8)) (o : Option Nat) : (if o.isSome = true then ps ++ [wAge ++ 61 :: Lib.decDigits (o.getD 0)] else ps) = ps ++ partAge o := by
  cases o with
  | none => rw [if_neg (by simp)]; exact (List.append_nil ps).symm
  | some n => rw [if_pos (by rfl)]; rfl
theorem add_dom (ps : List (List UInt8)) (d : List UInt8) : (if (!d.isEmpty) = true then ps ++ [wDom ++ 61 :: domT d] else ps) = ps ++ partDom d := by
  cases d with
  | nil => rw [if_neg (by simp)]; exact (List.append_nil ps).symm
  | cons c r => rw [if_pos (by rfl)]; rfl
theorem add_path (ps : List (List UInt8)) (d : List UInt8) : (if (!d.isEmpty) = true then ps ++ [wPath ++ 61 :: d] else ps) = ps ++ partPath d := by
  cases d with
  | nil => rw [if_neg (by simp)]; exact (List.append_nil ps).symm
  | cons c r => rw [if_pos (by rfl)]; rfl
theorem add_sec (ps : List (List UInt8)) (b : Bool) : (if b = true then ps ++ [wSec] else ps) = ps ++ partSec b := by
  cases b with
  | false => rw [if_neg (by simp)]; exact (List.append_nil ps).symm
  | true => rw [if_pos rfl]; rfl
theorem add_only (ps : List (List UInt8)) (b : Bool) : (if b = true then ps ++ [wOnly] else ps) = ps ++ partOnly b := by
  cases b with
  | false => rw [if_neg (by simp)]; exact (List.append_nil ps).symm
  | true => rw [if_pos rfl]; rfl
theorem add_site (ps : List (List UInt8)) {n : Nat} {x : List UInt8} (hn : n ≤ 3) (hx : words4[n]? = some x) : (if ((n : Int) != 0) = true then ps ++ [wSite ++ 61 :: x] else ps) = ps ++ partSite n := by
  have : n = 0 ∨ n = 1 ∨ n = 2 ∨ n = 3 := by omega
  rcases this with rfl | rfl | rfl | rfl
  · rw [if_neg (by decide)]; exact (List.append_nil ps).symm
  · have e : x = wNone := (Option.some.inj hx).symm
    subst e; rw [if_pos (by decide)]; rfl
  · have e : x = wLax := (Option.some.inj hx).symm
    subst e; rw [if_pos (by decide)]; rfl
  · have e : x = wStrict := (Option.some.inj hx).symm
    subst e; rw [if_pos (by decide)]; rfl
theorem few_exp (h : Head) : (partExp h.exp).length ≤ 1 := by unfold partExp; split <;> simp
theorem few_parts (h : Head) : (partExp h.exp).length ≤ 1 ∧ (partAge h.age).length ≤ 1 ∧ (partDom h.domain).length ≤ 1 ∧ (partPath h.path).length ≤ 1 ∧ (partSec h.secure).length ≤ 1 ∧ (partOnly h.only).length ≤ 1 ∧ (partSite h.same).length ≤ 1 := by
  refine ⟨few_exp h, ?_, ?_, ?_, ?_, ?_, ?_⟩
  · unfold partAge; split <;> simp
  · unfold partDom; split <;> simp
  · unfold partPath; split <;> simp
  · unfold partSec; split <;> simp
  · unfold partOnly; split <;> simp
  · unfold partSite; split <;> simp
theorem joined_app (a b : List (List UInt8)) : joined (a ++ b) = joined a ++ joined b := by unfold joined; rw [List.flatMap_append]
theorem joined_one (a : List UInt8) : (joined [a]).length = a.length + 2 := by simp [joined]
theorem date_len {o : Option Int} (ho : ∀ n, o = some n → ∃ t, Dt.civil (n / 86400) = some t) : -9223372036854775808 ≤ o.getD 0 ∧ o.getD 0 ≤ 9223372036854775807 ∧ (Dt.text (o.getD 0)).length = 29 := by
  have key : ∀ n : Int, (∃ t, Dt.civil (n / 86400) = some t) → -9223372036854775808 ≤ n ∧ n ≤ 9223372036854775807 ∧ (Dt.text n).length = 29 := fun n h => by
    have hl := text_length h
    obtain ⟨⟨y, m, d⟩, h⟩ := h
    obtain ⟨hI, hd⟩ := Dt.civil_some.1 h
    have hb := Dt.days_bounds hI
    rw [hd] at hb
    exact ⟨by omega, by omega, hl⟩
  cases o with
  | none => exact key 0 ⟨(1970, 1, 1), Dt.civil_some.2 ⟨by decide, by decide⟩⟩
  | some n => exact key n (ho n rfl)
theorem age_len {o : Option Nat} (ho : ∀ n, o = some n → n ≤ 34560000) : o.getD 0 ≤ 34560000 ∧ (Lib.decDigits (o.getD 0)).length ≤ 8 := by
  have h : o.getD 0 ≤ 34560000 := by
    cases o with
    | none => exact Nat.zero_le _
    | some n => exact ho n rfl
  exact ⟨h, (dec_facts h).2.1⟩
theorem domT_len (d : List UInt8) : (domT d).length ≤ d.length + 1 := by unfold domT; split <;> simp
theorem site_len : ∀ n, (siteT n).length ≤ 6 := fun n => by unfold siteT; split <;> (try split) <;> decide
theorem text_len {h : Head} (hg : Good h) : (text h).length ≤ 10000 := by
  have hf := hg.few
  have hs := good_small hg
  have h1 := (date_len hg.exp).2.2
  have h2 := (age_len hg.age).2
  unfold text parts
  simp only [joined_app, List.length_append, List.length_cons]
  have e1 : (joined (partExp h.exp)).length ≤ 100 := by
    unfold partExp
    split
    · rename_i n hn
      rw [hn] at h1
      have : (Dt.text n).length = 29 := h1
      rw [joined_one, List.length_append, List.length_cons, this]; decide
    · decide
  have e2 : (joined (partAge h.age)).length ≤ 100 := by
    unfold partAge
    split
    · rename_i n hn
      rw [hn] at h2
      have : (Lib.decDigits n).length ≤ 8 := h2
      rw [joined_one, List.length_append, List.length_cons, show wAge.length = 7 from rfl]; omega
    · decide
  have e3 : (joined (partDom h.domain)).length ≤ 1100 := by
    unfold partDom
    split
    · decide
    · have := domT_len h.domain
      have := hs.domain
      rw [joined_one, List.length_append, List.length_cons, show wDom.length = 6 from rfl]; omega
  have e4 : (joined (partPath h.path)).length ≤ 1100 := by
    unfold partPath
    split
    · decide
    · have := hs.path
      rw [joined_one, List.length_append, List.length_cons, show wPath.length = 4 from rfl]; omega
  have e5 : (joined (partSec h.secure)).length ≤ 100 := by unfold partSec; split <;> decide
  have e6 : (joined (partOnly h.only)).length ≤ 100 := by unfold partOnly; split <;> decide
  have e7 : (joined (partSite h.same)).length ≤ 100 := by
    unfold partSite
    split
    · decide
    · have := site_len h.same
      rw [joined_one, List.length_append, List.length_cons, show wSite.length = 8 from rfl]; omega
  omega
end Hd
theorem formatAge_calls (n : Nat) (w : World) (h : Std w) (hn : n ≤ 34560000) :
    Calls Tryz.prog 44 #[.int .i64 (n : Int), .int .i64 10] w fun e w' => e = .returned (.string ⟨(Lib.decDigits n).toArray⟩) ∧ Below w.heap.size w w' := by
  refine (Tryz.strconv_FormatInt_10 (n : Int) (by omega) (by omega) w h.ten).mono fun e w' ⟨he, k, os, hw⟩ => ⟨?_, ?_⟩
  · rw [he, Lib.itoa_nonneg]
  · rw [hw]; exact below_grow (below_drawn _ _ _) (by have := (below_drawn w.heap.size w k).size; exact this) _
/-- A piece of a key and a value, and one of a key alone. -/
theorem put2_calls (b : Bool) (x y : ByteArray) (ps : List (List UInt8)) (bp gp : Nat) (w : World) (hP : Pieces gp ps w) (hx : Row w bp 9 #[.string x, .string y]) (h1 : x.size ≤ 10000) (h2 : y.size ≤ 10000) (hps : ps.length ≤ 1000) :
    Calls Tryz.prog 41 #[.bool b, .slice (some ⟨bp, 0, none⟩) 2 2, .pointer (some ⟨gp, 0, none⟩)] w (PutPost gp (if b = true then ps ++ [x.data.toList ++ 61 :: y.data.toList] else ps) w) := by
  have e : Row w bp 9 (textsA [x.data.toList, y.data.toList]) := by
    have e2 : textsA [x.data.toList, y.data.toList] = #[.string x, .string y] := by
      unfold textsA strV
      rw [List.map_cons, List.map_cons, List.map_nil, mk_bytes, mk_bytes]
    rw [e2]; exact hx
  have h := put_calls b [x.data.toList, y.data.toList] ps bp gp w hP e (by simp) (by rw [Hd.join_two, List.length_append, List.length_cons, Oct.length_bytes, Oct.length_bytes]; omega) hps
  rw [Hd.join_two] at h
  exact h
theorem put1_calls (b : Bool) (x : ByteArray) (ps : List (List UInt8)) (bp gp : Nat) (w : World) (hP : Pieces gp ps w) (hx : Row w bp 9 #[.string x]) (h1 : x.size ≤ 10000) (hps : ps.length ≤ 1000) :
    Calls Tryz.prog 41 #[.bool b, .slice (some ⟨bp, 0, none⟩) 1 1, .pointer (some ⟨gp, 0, none⟩)] w (PutPost gp (if b = true then ps ++ [x.data.toList] else ps) w) := by
  have e : Row w bp 9 (textsA [x.data.toList]) := by
    have e2 : textsA [x.data.toList] = #[.string x] := by
      unfold textsA strV
      rw [List.map_cons, List.map_nil, mk_bytes]
    rw [e2]; exact hx
  have h := put_calls b [x.data.toList] ps bp gp w hP e (by simp) (by rw [Hd.join_one, Oct.length_bytes]; omega) hps
  rw [Hd.join_one] at h
  exact h
/-- The pieces joined. -/
theorem joinP_calls (ps : List (List UInt8)) (gp : Nat) (w : World) (sl : Value) (O : w.ownsRow (gp + 1) 9 1 sl ps.length (ps.map strV)) (hn : 0 < ps.length) (hn2 : ps.length ≤ 1000) (hj : (Lib.join ps [59, 32]).length ≤ 1000000) :
    Calls Tryz.prog 42 #[sl, .string ⟨#[59, 32]⟩] w fun e w' => e = .returned (.string ⟨(Lib.join ps [59, 32]).toArray⟩) ∧ Below w.heap.size w w' := by
  obtain ⟨g, cap, rfl, hg, hlt⟩ := O.form hn
  have hcap : ps.length ≤ cap := by
    rcases O.2 with ⟨h0, _⟩ | ⟨g', cap', cur, hv, _, _, hle, _⟩
    · cases h0
    · have e := (Value.slice.inj hv)
      rw [e.2.2]; exact hle
  have e1 : ((ps.map fun p => (⟨p.toArray⟩ : ByteArray)).map (·.data.toList)) = ps := by rw [List.map_map]; exact List.map_id ps
  have e2 : (⟨#[59, 32]⟩ : ByteArray).data.toList = [59, 32] := rfl
  have h := Tryz.strings_Join g 0 cap (ps.map fun p => ⟨p.toArray⟩) ⟨#[59, 32]⟩ w (fun j x hxx => by
    rw [Nat.zero_add]
    rw [List.getElem?_map] at hxx
    cases hp : ps[j]? with
    | none => rw [hp] at hxx; cases hxx
    | some p => rw [hp] at hxx; exact own_text O hp (Option.some.inj hxx).symm) hlt (by rw [List.length_map]; omega) (by rw [List.length_map]; exact hcap) (by rw [e1, e2]; omega)
  rw [List.length_map, e1, e2] at h
  exact h
/-- What lies there while the pieces are put: the header, and all that was there. -/
structure KeptW (b0 : Nat) (h : Hd.Head) (w w' : World) : Prop where
  row : Row w' b0 24 (headA h)
  below : Below w.heap.size w w'
section
variable {b0 : Nat} {h : Hd.Head} {w w' w'' : World}
theorem KeptW.on (k : KeptW b0 h w w') (hb : Below w'.heap.size w' w'') : KeptW b0 h w w'' := ⟨k.row.stays hb, k.below.trans (hb.mono k.below.size)⟩
theorem KeptW.drew (k : KeptW b0 h w w') : KeptW b0 h w w'.drew := k.on (Below.refl _ _).drew
theorem KeptW.alloc (k : KeptW b0 h w w') (o : Obj) : KeptW b0 h w (w'.alloc o) := k.on ((Below.refl _ _).alloc (Nat.le_refl _) o)
theorem KeptW.put (k : KeptW b0 h w w') {gp : Nat} (h0 : b0 < gp) (h1 : w.heap.size ≤ gp) (hb : Below gp w' w'') : KeptW b0 h w w'' := ⟨k.row.below hb h0, k.below.trans (hb.mono h1)⟩
theorem KeptW.c2 (k : KeptW b0 h w w') : w'.cell? ⟨b0, 2, none⟩ = some (.string ⟨h.domain.toArray⟩) := k.row.cell 2
theorem KeptW.c4 (k : KeptW b0 h w w') : w'.cell? ⟨b0, 4, none⟩ = some (.bool h.exp.isSome) := k.row.cell 4
theorem KeptW.c5 (k : KeptW b0 h w w') : w'.cell? ⟨b0, 5, none⟩ = some (.int .i64 (h.exp.getD 0)) := k.row.cell 5
theorem KeptW.c6 (k : KeptW b0 h w w') : w'.cell? ⟨b0, 6, none⟩ = some (.bool h.age.isSome) := k.row.cell 6
theorem KeptW.c7 (k : KeptW b0 h w w') : w'.cell? ⟨b0, 7, none⟩ = some (.int .i64 ((h.age.getD 0 : Nat) : Int)) := k.row.cell 7
theorem KeptW.c10 (k : KeptW b0 h w w') : w'.cell? ⟨b0, 10, none⟩ = some (.int .i64 (h.same : Int)) := k.row.cell 10
end
theorem pieces_is {gp : Nat} {ps1 ps2 : List (List UInt8)} {w : World} (e : ps1 = ps2) (h : Pieces gp ps1 w) : Pieces gp ps2 w := by rw [← e]; exact h
theorem nilPieces (w : World) : Pieces w.heap.size [] (w.alloc (.cells #[.slice none 0 0] 39)) := ⟨_, Row.new _ _ _, ⟨rfl, .inl ⟨rfl, rfl⟩⟩⟩
set_option maxRecDepth 100000 in
set_option maxHeartbeats 16000000 in
theorem write_calls (h : Hd.Head) (hg : Hd.Good h) (w : World) (hw : Hal w) :
    Calls Tryz.prog 22 #[.agg (headA h)] w (NewText w.heap.size (Hd.text h) w) := by
  have hsm := Hd.good_small hg
  have htl := Hd.text_len hg
  obtain ⟨x1, x2, x3⟩ := Hd.date_len hg.exp
  obtain ⟨a1, a2⟩ := Hd.age_len hg.age
  have hd0 := Hd.domT_len h.domain
  obtain ⟨ww, hww⟩ := Hd.word_at (k := h.same) (by have := hsm.same; omega)
  have HW : Hid (∀ W, Below w.heap.size w W → Hal W) := Lib.hid (fun W hb => hw.below hb)
  have HDate := Lib.hid (fun W hW => text_calls (h.exp.getD 0) W hW x1 x2)
  unfold TextPost at HDate
  have HAge := Lib.hid (fun W hW => formatAge_calls (h.age.getD 0) W hW a1)
  have HDom := Lib.hid (fun W => marked_calls ⟨h.domain.toArray⟩ W (by rw [bytes_size]; have := hsm.domain; omega))
  unfold NewText at HDom
  have ed : (⟨h.domain.toArray⟩ : ByteArray).data.toList = h.domain := rfl
  rw [ed] at HDom
  have HSame := Lib.hid (fun W hW => sameName_calls h.same W hW hww)
  have R0 := Row.new w 24 (headA h)
  have K0 : KeptW w.heap.size h w (w.alloc (.cells (headA h) 24)) := ⟨R0, (Below.refl w.heap.size w).alloc (Nat.le_refl _) _⟩
  have P0 := nilPieces (w.alloc (.cells (headA h) 24))
  have K1 := K0.alloc (.cells #[.slice none 0 0] 39)
  have q3 : (headA h)[3]? = some (.string ⟨h.path.toArray⟩) := rfl
  have q8 : (headA h)[8]? = some (.bool h.secure) := rfl
  have q9 : (headA h)[9]? = some (.bool h.only) := rfl
  have hwl : ww.length ≤ 6 := by
    have : ∀ x ∈ Hd.words4, x.length ≤ 6 := by decide
    exact this _ (List.mem_of_getElem? hww)
  have c0 := K1.row.cell 0
  have c1 := K1.row.cell 1
  have q0 : (headA h)[0]? = some (.string ⟨h.name.toArray⟩) := rfl
  have q1 : (headA h)[1]? = some (.string ⟨h.value.toArray⟩) := rfl
  rw [q0] at c0
  rw [q1] at c1
  clear q0 q1
  go_enter Tryz.func22, Tryz.ntmps22
  go_wp2_with fail
  have hs1 : (w.alloc (.cells (headA h) 24)).heap.size = w.heap.size + 1 := by simp
  have hs2 : ((w.alloc (.cells (headA h) 24)).alloc (.cells #[.slice none 0 0] 39)).heap.size = w.heap.size + 1 + 1 := by simp
  rw [hs1] at P0
  generalize (w.alloc (.cells (headA h) 24)).alloc (.cells #[.slice none 0 0] 39) = W1 at *
  have N1 := Row.new W1 9 #[.string ⟨h.name.toArray⟩, .string ⟨h.value.toArray⟩]
  have K2 := K1.alloc (.cells #[Value.string ⟨h.name.toArray⟩, .string ⟨h.value.toArray⟩] 9)
  have P1 := P0.stays ((Below.refl W1.heap.size W1).alloc (Nat.le_refl _) (.cells #[Value.string ⟨h.name.toArray⟩, .string ⟨h.value.toArray⟩] 9))
  rw [hs2] at N1
  refine (put2_calls true _ _ [] _ _ _ P1 N1 (by rw [bytes_size]; have := hsm.name; omega) (by rw [bytes_size]; have := hsm.value; omega) (by simp)).mono ?_
  rintro e w2 ⟨rfl, T2, B2⟩
  have K3 := K2.put (by omega) (by omega) B2
  have P2 := pieces_is (Hd.put_first h) T2
  clear T2 P1 N1 K1 P0 c0 c1 hs1 hs2 B2 K2
  have K2 := K3
  clear K3
  go_wp2_with fail
  refine wp_region_held_drew (S := KeptW w.heap.size h w) (by kernel_rfl) K2.drew (fun _ => ?_)
  refine wpAnyH_take (i := 0) (v := ?_) rfl (by kernel_rfl) (by kernel_rfl) (by kernel_rfl) (fun _ _ _ h => h) (Or.inl ⟨by rfl, ?_⟩) (by assumption) ?_
  rotate_left
  · intro _ _; go_simp; with_reducible rfl
  simp only [Act.put, List.setIfInBounds_toArray, List.set_cons_zero, List.set_cons_succ, List.getElem_toArray, List.getElem_cons_zero]
  refine wpAnyH_take (i := 1) (v := ?_) rfl (by kernel_rfl) (by kernel_rfl) (by kernel_rfl) (fun _ _ _ h => h) (Or.inl ⟨by rfl, ?_⟩) (by assumption) ?_
  rotate_left
  · intro _ _; go_simp; with_reducible rfl
  simp only [Act.put, List.setIfInBounds_toArray, List.set_cons_zero, List.set_cons_succ, List.getElem_toArray, List.getElem_cons_zero, List.getElem_cons_succ]
  refine wpAnyH_take (i := 2) (v := ?_) rfl (by kernel_rfl) (by kernel_rfl) (by kernel_rfl) (fun _ _ _ h => h) (Or.inl ⟨by rfl, ?_⟩) (by assumption) ?_
  rotate_left
  · intro _ hS; have hcell := hS.c4; clear hS; go_simp; with_reducible rfl
  simp only [Act.put, List.setIfInBounds_toArray, List.set_cons_zero, List.set_cons_succ, List.getElem_toArray, List.getElem_cons_zero, List.getElem_cons_succ]
  refine wpAnyH_take (i := 3) (v := ?_) rfl (by kernel_rfl) (by kernel_rfl) (by kernel_rfl) (fun _ _ _ h => h) (Or.inl ⟨by rfl, ?_⟩) (by assumption) ?_
  rotate_left
  · intro _ _; go_simp; with_reducible rfl
  simp only [Act.put, List.setIfInBounds_toArray, List.set_cons_zero, List.set_cons_succ, List.getElem_toArray, List.getElem_cons_zero, List.getElem_cons_succ]
  refine wpAnyH_take (i := 4) (v := ?_) rfl (by kernel_rfl) (by kernel_rfl) (by kernel_rfl) (fun _ _ _ h => h) (Or.inl ⟨by rfl, ?_⟩) (by assumption) ?_
  rotate_left
  · intro _ hS; have hcell := hS.c5; clear hS; go_simp; with_reducible rfl
  simp only [Act.put, List.setIfInBounds_toArray, List.set_cons_zero, List.set_cons_succ, List.getElem_toArray, List.getElem_cons_zero, List.getElem_cons_succ]
  refine wpAnyH_ready (rs := [5]) (by kernel_rfl) (by simp) (AllReadyH.cons rfl (fun K hK => ?_) AllReadyH.nil)
  rw [if_pos (by rfl)]
  go_simp
  refine (HDate.out w2.drew (HW.out _ K2.drew.below).cal).mono ?_
  rintro e v2 ⟨rfl, b2⟩
  have D2 := K2.drew.on b2
  have Q2 := P2.stays ((Below.refl _ w2).drew.trans b2)
  go_wp2_with fail
  refine hK.out _ _ D2 (fun _ => ?_)
  clear hK K
  refine wpAnyH_ready (rs := [6]) (by kernel_rfl) (by simp) (AllReadyH.cons rfl (fun K hK => ?_) AllReadyH.nil)
  rw [if_pos (by rfl)]
  go_simp
  have E2 := D2.alloc (.cells #[Value.string ⟨#[69, 120, 112, 105, 114, 101, 115]⟩, .string ⟨(Dt.text (h.exp.getD 0)).toArray⟩] 9)
  have R2 := Row.new v2 9 #[Value.string ⟨#[69, 120, 112, 105, 114, 101, 115]⟩, .string ⟨(Dt.text (h.exp.getD 0)).toArray⟩]
  have S2 := Q2.stays ((Below.refl _ v2).alloc (Nat.le_refl _) (.cells #[Value.string ⟨#[69, 120, 112, 105, 114, 101, 115]⟩, .string ⟨(Dt.text (h.exp.getD 0)).toArray⟩] 9))
  refine hK.out _ _ E2 (fun _ => ?_)
  clear hK K
  refine wpAnyH_ready (rs := [7]) (by kernel_rfl) (by simp) (AllReadyH.cons rfl (fun K hK => ?_) AllReadyH.nil)
  rw [if_pos (by rfl)]
  go_simp
  refine (put2_calls _ _ _ _ _ _ _ S2 R2 (by decide) (by rw [bytes_size]; omega) (by simp)).mono ?_
  rintro e w3 ⟨rfl, T3, B3⟩
  have K3 := E2.put (by omega) (by omega) B3
  have P3 := pieces_is (Hd.add_exp _ h.exp) T3
  clear T3 B3 S2 R2 E2 Q2 D2 b2 P2 K2
  go_wp2_with fail
  refine hK.out _ _ K3 (fun _ => ?_)
  clear hK K
  refine wpAnyH_done (by kernel_rfl) ?_ _
  go_wp2_with fail
  refine wp_region_held_drew (S := KeptW w.heap.size h w) (by kernel_rfl) K3.drew (fun _ => ?_)
  refine wpAnyH_take (i := 0) (v := ?_) rfl (by kernel_rfl) (by kernel_rfl) (by kernel_rfl) (fun _ _ _ h => h) (Or.inl ⟨by rfl, ?_⟩) (by assumption) ?_
  rotate_left
  · intro _ _; go_simp; with_reducible rfl
  simp only [Act.put, List.setIfInBounds_toArray, List.set_cons_zero, List.set_cons_succ, List.getElem_toArray, List.getElem_cons_zero]
  refine wpAnyH_take (i := 1) (v := ?_) rfl (by kernel_rfl) (by kernel_rfl) (by kernel_rfl) (fun _ _ _ h => h) (Or.inl ⟨by rfl, ?_⟩) (by assumption) ?_
  rotate_left
  · intro _ _; go_simp; with_reducible rfl
  simp only [Act.put, List.setIfInBounds_toArray, List.set_cons_zero, List.set_cons_succ, List.getElem_toArray, List.getElem_cons_zero, List.getElem_cons_succ]
  refine wpAnyH_take (i := 2) (v := ?_) rfl (by kernel_rfl) (by kernel_rfl) (by kernel_rfl) (fun _ _ _ h => h) (Or.inl ⟨by rfl, ?_⟩) (by assumption) ?_
  rotate_left
  · intro _ hS; have hcell := hS.c6; clear hS; go_simp; with_reducible rfl
  simp only [Act.put, List.setIfInBounds_toArray, List.set_cons_zero, List.set_cons_succ, List.getElem_toArray, List.getElem_cons_zero, List.getElem_cons_succ]
  refine wpAnyH_take (i := 3) (v := ?_) rfl (by kernel_rfl) (by kernel_rfl) (by kernel_rfl) (fun _ _ _ h => h) (Or.inl ⟨by rfl, ?_⟩) (by assumption) ?_
  rotate_left
  · intro _ _; go_simp; with_reducible rfl
  simp only [Act.put, List.setIfInBounds_toArray, List.set_cons_zero, List.set_cons_succ, List.getElem_toArray, List.getElem_cons_zero, List.getElem_cons_succ]
  refine wpAnyH_take (i := 4) (v := ?_) rfl (by kernel_rfl) (by kernel_rfl) (by kernel_rfl) (fun _ _ _ h => h) (Or.inl ⟨by rfl, ?_⟩) (by assumption) ?_
  rotate_left
  · intro _ hS; have hcell := hS.c7; clear hS; go_simp; with_reducible rfl
  simp only [Act.put, List.setIfInBounds_toArray, List.set_cons_zero, List.set_cons_succ, List.getElem_toArray, List.getElem_cons_zero, List.getElem_cons_succ]
  refine wpAnyH_ready (rs := [5]) (by kernel_rfl) (by simp) (AllReadyH.cons rfl (fun K hK => ?_) AllReadyH.nil)
  rw [if_pos (by rfl)]
  go_simp
  refine (HAge.out w3.drew (HW.out _ K3.drew.below).cal.std).mono ?_
  rintro e v3 ⟨rfl, b3⟩
  have D3 := K3.drew.on b3
  have Q3 := P3.stays ((Below.refl _ w3).drew.trans b3)
  go_wp2_with fail
  refine hK.out _ _ D3 (fun _ => ?_)
  clear hK K
  refine wpAnyH_ready (rs := [6]) (by kernel_rfl) (by simp) (AllReadyH.cons rfl (fun K hK => ?_) AllReadyH.nil)
  rw [if_pos (by rfl)]
  go_simp
  have E3 := D3.alloc (.cells #[Value.string ⟨#[77, 97, 120, 45, 65, 103, 101]⟩, .string ⟨(Lib.decDigits (h.age.getD 0)).toArray⟩] 9)
  have R3 := Row.new v3 9 #[Value.string ⟨#[77, 97, 120, 45, 65, 103, 101]⟩, .string ⟨(Lib.decDigits (h.age.getD 0)).toArray⟩]
  have S3 := Q3.stays ((Below.refl _ v3).alloc (Nat.le_refl _) (.cells #[Value.string ⟨#[77, 97, 120, 45, 65, 103, 101]⟩, .string ⟨(Lib.decDigits (h.age.getD 0)).toArray⟩] 9))
  refine hK.out _ _ E3 (fun _ => ?_)
  clear hK K
  refine wpAnyH_ready (rs := [7]) (by kernel_rfl) (by simp) (AllReadyH.cons rfl (fun K hK => ?_) AllReadyH.nil)
  rw [if_pos (by rfl)]
  go_simp
  refine (put2_calls _ _ _ _ _ _ _ S3 R3 (by decide) (by rw [bytes_size]; omega) (by have := Hd.few_exp h; simp only [List.length_append, List.length_cons, List.length_nil]; omega)).mono ?_
  rintro e w4 ⟨rfl, T4, B4⟩
  have K4 := E3.put (by omega) (by omega) B4
  have P4 := pieces_is (Hd.add_age _ h.age) T4
  clear T4 B4 S3 R3 E3 Q3 D3 b3 P3 K3
  go_wp2_with fail
  refine hK.out _ _ K4 (fun _ => ?_)
  clear hK K
  refine wpAnyH_done (by kernel_rfl) ?_ _
  go_wp2_with fail
  refine wp_region_held_drew (S := KeptW w.heap.size h w) (by kernel_rfl) K4.drew (fun _ => ?_)
  refine wpAnyH_take (i := 0) (v := ?_) rfl (by kernel_rfl) (by kernel_rfl) (by kernel_rfl) (fun _ _ _ h => h) (Or.inl ⟨by rfl, ?_⟩) (by assumption) ?_
  rotate_left
  · intro _ _; go_simp; with_reducible rfl
  simp only [Act.put, List.setIfInBounds_toArray, List.set_cons_zero, List.set_cons_succ, List.getElem_toArray, List.getElem_cons_zero]
  refine wpAnyH_take (i := 1) (v := ?_) rfl (by kernel_rfl) (by kernel_rfl) (by kernel_rfl) (fun _ _ _ h => h) (Or.inl ⟨by rfl, ?_⟩) (by assumption) ?_
  rotate_left
  · intro _ _; go_simp; with_reducible rfl
  simp only [Act.put, List.setIfInBounds_toArray, List.set_cons_zero, List.set_cons_succ, List.getElem_toArray, List.getElem_cons_zero, List.getElem_cons_succ]
  refine wpAnyH_take (i := 2) (v := ?_) rfl (by kernel_rfl) (by kernel_rfl) (by kernel_rfl) (fun _ _ _ h => h) (Or.inl ⟨by rfl, ?_⟩) (by assumption) ?_
  rotate_left
  · intro _ hS; have hcell := hS.c2; clear hS; go_simp; with_reducible rfl
  simp only [Act.put, List.setIfInBounds_toArray, List.set_cons_zero, List.set_cons_succ, List.getElem_toArray, List.getElem_cons_zero, List.getElem_cons_succ]
  refine wpAnyH_take (i := 3) (v := ?_) rfl (by kernel_rfl) (by kernel_rfl) (by kernel_rfl) (fun _ _ _ h => h) (Or.inl ⟨by rfl, ?_⟩) (by assumption) ?_
  rotate_left
  · intro _ _; go_simp; with_reducible rfl
  simp only [Act.put, List.setIfInBounds_toArray, List.set_cons_zero, List.set_cons_succ, List.getElem_toArray, List.getElem_cons_zero, List.getElem_cons_succ]
  refine wpAnyH_take (i := 4) (v := ?_) rfl (by kernel_rfl) (by kernel_rfl) (by kernel_rfl) (fun _ _ _ h => h) (Or.inl ⟨by rfl, ?_⟩) (by assumption) ?_
  rotate_left
  · intro _ _; go_simp; with_reducible rfl
  simp only [Act.put, List.setIfInBounds_toArray, List.set_cons_zero, List.set_cons_succ, List.getElem_toArray, List.getElem_cons_zero, List.getElem_cons_succ]
  refine wpAnyH_take (i := 5) (v := ?_) rfl (by kernel_rfl) (by kernel_rfl) (by kernel_rfl) (fun _ _ _ h => h) (Or.inl ⟨by rfl, ?_⟩) (by assumption) ?_
  rotate_left
  · intro _ hS; have hcell := hS.c2; clear hS; go_simp; with_reducible rfl
  simp only [Act.put, List.setIfInBounds_toArray, List.set_cons_zero, List.set_cons_succ, List.getElem_toArray, List.getElem_cons_zero, List.getElem_cons_succ]
  refine wpAnyH_ready (rs := [6]) (by kernel_rfl) (by simp) (AllReadyH.cons rfl (fun K hK => ?_) AllReadyH.nil)
  rw [if_pos (by rfl)]
  go_simp
  refine (HDom.out w4.drew).mono ?_
  rintro e v4 ⟨rfl, b4⟩
  have D4 := K4.drew.on b4
  have Q4 := P4.stays ((Below.refl _ w4).drew.trans b4)
  go_wp2_with fail
  refine hK.out _ _ D4 (fun _ => ?_)
  clear hK K
  refine wpAnyH_ready (rs := [7]) (by kernel_rfl) (by simp) (AllReadyH.cons rfl (fun K hK => ?_) AllReadyH.nil)
  rw [if_pos (by rfl)]
  go_simp
  have E4 := D4.alloc (.cells #[Value.string ⟨#[68, 111, 109, 97, 105, 110]⟩, .string ⟨(Hd.domT h.domain).toArray⟩] 9)
  have R4 := Row.new v4 9 #[Value.string ⟨#[68, 111, 109, 97, 105, 110]⟩, .string ⟨(Hd.domT h.domain).toArray⟩]
  have S4 := Q4.stays ((Below.refl _ v4).alloc (Nat.le_refl _) (.cells #[Value.string ⟨#[68, 111, 109, 97, 105, 110]⟩, .string ⟨(Hd.domT h.domain).toArray⟩] 9))
  refine hK.out _ _ E4 (fun _ => ?_)
  clear hK K
  refine wpAnyH_ready (rs := [8]) (by kernel_rfl) (by simp) (AllReadyH.cons rfl (fun K hK => ?_) AllReadyH.nil)
  rw [if_pos (by rfl)]
  go_simp
  refine (put2_calls _ _ _ _ _ _ _ S4 R4 (by decide) (by rw [bytes_size]; have := hsm.domain; omega) (by have := Hd.few_parts h; simp only [List.length_append, List.length_cons, List.length_nil]; omega)).mono ?_
  rintro e w5 ⟨rfl, T5, B5⟩
  have K5 := E4.put (by omega) (by omega) B5
  have P5 := pieces_is (Hd.add_dom _ h.domain) T5
  clear T5 B5 S4 R4 E4 Q4 D4 b4 P4 K4
  go_wp2_with fail
  refine hK.out _ _ K5 (fun _ => ?_)
  clear hK K
  refine wpAnyH_done (by kernel_rfl) ?_ _
  have c3 := K5.row.cell 3
  rw [q3] at c3
  go_wp2_with fail
  have E5 := K5.alloc (.cells #[Value.string ⟨#[80, 97, 116, 104]⟩, .string ⟨h.path.toArray⟩] 9)
  have R5 := Row.new w5 9 #[Value.string ⟨#[80, 97, 116, 104]⟩, .string ⟨h.path.toArray⟩]
  have S5 := P5.stays ((Below.refl _ w5).alloc (Nat.le_refl _) (.cells #[Value.string ⟨#[80, 97, 116, 104]⟩, .string ⟨h.path.toArray⟩] 9))
  refine (put2_calls _ _ _ _ _ _ _ S5 R5 (by decide) (by rw [bytes_size]; have := hsm.path; omega) (by have := Hd.few_parts h; simp only [List.length_append, List.length_cons, List.length_nil]; omega)).mono ?_
  rintro e w6 ⟨rfl, T6, B6⟩
  have K6 := E5.put (by omega) (by omega) B6
  have P6 := pieces_is (Hd.add_path _ h.path) T6
  clear T6 B6 S5 R5 E5 P5 K5
  clear c3
  have c8 := K6.row.cell 8
  rw [q8] at c8
  go_wp2_with fail
  have E6 := K6.alloc (.cells #[Value.string ⟨#[83, 101, 99, 117, 114, 101]⟩] 9)
  have R6 := Row.new w6 9 #[Value.string ⟨#[83, 101, 99, 117, 114, 101]⟩]
  have S6 := P6.stays ((Below.refl _ w6).alloc (Nat.le_refl _) (.cells #[Value.string ⟨#[83, 101, 99, 117, 114, 101]⟩] 9))
  refine (put1_calls _ _ _ _ _ _ S6 R6 (by decide) (by have := Hd.few_parts h; simp only [List.length_append, List.length_cons, List.length_nil]; omega)).mono ?_
  rintro e w7 ⟨rfl, T7, B7⟩
  have K7 := E6.put (by omega) (by omega) B7
  have P7 := pieces_is (Hd.add_sec _ h.secure) T7
  clear T7 B7 S6 R6 E6 P6 K6
  clear c8
  have c9 := K7.row.cell 9
  rw [q9] at c9
  go_wp2_with fail
  have E7 := K7.alloc (.cells #[Value.string ⟨#[72, 116, 116, 112, 79, 110, 108, 121]⟩] 9)
  have R7 := Row.new w7 9 #[Value.string ⟨#[72, 116, 116, 112, 79, 110, 108, 121]⟩]
  have S7 := P7.stays ((Below.refl _ w7).alloc (Nat.le_refl _) (.cells #[Value.string ⟨#[72, 116, 116, 112, 79, 110, 108, 121]⟩] 9))
  refine (put1_calls _ _ _ _ _ _ S7 R7 (by decide) (by have := Hd.few_parts h; simp only [List.length_append, List.length_cons, List.length_nil]; omega)).mono ?_
  rintro e w8 ⟨rfl, T8, B8⟩
  have K8 := E7.put (by omega) (by omega) B8
  have P8 := pieces_is (Hd.add_only _ h.only) T8
  clear T8 B8 S7 R7 E7 P7 K7
  clear c9
  go_wp2_with fail
  refine wp_region_held_drew (S := KeptW w.heap.size h w) (by kernel_rfl) K8.drew (fun _ => ?_)
  refine wpAnyH_take (i := 0) (v := ?_) rfl (by kernel_rfl) (by kernel_rfl) (by kernel_rfl) (fun _ _ _ h => h) (Or.inl ⟨by rfl, ?_⟩) (by assumption) ?_
  rotate_left
  · intro _ _; go_simp; with_reducible rfl
  simp only [Act.put, List.setIfInBounds_toArray, List.set_cons_zero, List.set_cons_succ, List.getElem_toArray, List.getElem_cons_zero]
  refine wpAnyH_take (i := 1) (v := ?_) rfl (by kernel_rfl) (by kernel_rfl) (by kernel_rfl) (fun _ _ _ h => h) (Or.inl ⟨by rfl, ?_⟩) (by assumption) ?_
  rotate_left
  · intro _ _; go_simp; with_reducible rfl
  simp only [Act.put, List.setIfInBounds_toArray, List.set_cons_zero, List.set_cons_succ, List.getElem_toArray, List.getElem_cons_zero, List.getElem_cons_succ]
  refine wpAnyH_take (i := 2) (v := ?_) rfl (by kernel_rfl) (by kernel_rfl) (by kernel_rfl) (fun _ _ _ h => h) (Or.inl ⟨by rfl, ?_⟩) (by assumption) ?_
  rotate_left
  · intro _ hS; have hcell := hS.c10; clear hS; go_simp; with_reducible rfl
  simp only [Act.put, List.setIfInBounds_toArray, List.set_cons_zero, List.set_cons_succ, List.getElem_toArray, List.getElem_cons_zero, List.getElem_cons_succ]
  refine wpAnyH_take (i := 3) (v := ?_) rfl (by kernel_rfl) (by kernel_rfl) (by kernel_rfl) (fun _ _ _ h => h) (Or.inl ⟨by rfl, ?_⟩) (by assumption) ?_
  rotate_left
  · intro _ _; go_simp; with_reducible rfl
  simp only [Act.put, List.setIfInBounds_toArray, List.set_cons_zero, List.set_cons_succ, List.getElem_toArray, List.getElem_cons_zero, List.getElem_cons_succ]
  refine wpAnyH_take (i := 4) (v := ?_) rfl (by kernel_rfl) (by kernel_rfl) (by kernel_rfl) (fun _ _ _ h => h) (Or.inl ⟨by rfl, ?_⟩) (by assumption) ?_
  rotate_left
  · intro _ _; go_simp; with_reducible rfl
  simp only [Act.put, List.setIfInBounds_toArray, List.set_cons_zero, List.set_cons_succ, List.getElem_toArray, List.getElem_cons_zero, List.getElem_cons_succ]
  refine wpAnyH_take (i := 5) (v := ?_) rfl (by kernel_rfl) (by kernel_rfl) (by kernel_rfl) (fun _ _ _ h => h) (Or.inl ⟨by rfl, ?_⟩) (by assumption) ?_
  rotate_left
  · intro _ hS; have hcell := hS.c10; clear hS; go_simp; with_reducible rfl
  simp only [Act.put, List.setIfInBounds_toArray, List.set_cons_zero, List.set_cons_succ, List.getElem_toArray, List.getElem_cons_zero, List.getElem_cons_succ]
  refine wpAnyH_ready (rs := [6]) (by kernel_rfl) (by simp) (AllReadyH.cons rfl (fun K hK => ?_) AllReadyH.nil)
  rw [if_pos (by rfl)]
  go_simp
  refine (HSame.out w8.drew (HW.out _ K8.drew.below)).mono ?_
  rintro e v8 ⟨rfl, b8⟩
  have D8 := K8.drew.on b8
  have Q8 := P8.stays ((Below.refl _ w8).drew.trans b8)
  go_wp2_with fail
  refine hK.out _ _ D8 (fun _ => ?_)
  clear hK K
  refine wpAnyH_ready (rs := [7]) (by kernel_rfl) (by simp) (AllReadyH.cons rfl (fun K hK => ?_) AllReadyH.nil)
  rw [if_pos (by rfl)]
  go_simp
  have E8 := D8.alloc (.cells #[Value.string ⟨#[83, 97, 109, 101, 83, 105, 116, 101]⟩, .string ⟨ww.toArray⟩] 9)
  have R8 := Row.new v8 9 #[Value.string ⟨#[83, 97, 109, 101, 83, 105, 116, 101]⟩, .string ⟨ww.toArray⟩]
  have S8 := Q8.stays ((Below.refl _ v8).alloc (Nat.le_refl _) (.cells #[Value.string ⟨#[83, 97, 109, 101, 83, 105, 116, 101]⟩, .string ⟨ww.toArray⟩] 9))
  refine hK.out _ _ E8 (fun _ => ?_)
  clear hK K
  refine wpAnyH_ready (rs := [8]) (by kernel_rfl) (by simp) (AllReadyH.cons rfl (fun K hK => ?_) AllReadyH.nil)
  rw [if_pos (by rfl)]
  go_simp
  refine (put2_calls _ _ _ _ _ _ _ S8 R8 (by decide) (by rw [bytes_size]; omega) (by have := Hd.few_parts h; simp only [List.length_append, List.length_cons, List.length_nil]; omega)).mono ?_
  rintro e w9 ⟨rfl, T9, B9⟩
  have K9 := E8.put (by omega) (by omega) B9
  have P9 := pieces_is (Hd.add_site _ hsm.same hww) T9
  clear T9 B9 S8 R8 E8 Q8 D8 b8 P8 K8
  go_wp2_with fail
  refine hK.out _ _ K9 (fun _ => ?_)
  clear hK K
  refine wpAnyH_done (by kernel_rfl) ?_ _
  have P10 := pieces_is (ps2 := (h.name ++ 61 :: h.value) :: Hd.parts h) (by unfold Hd.parts; simp only [List.append_assoc, List.cons_append, List.nil_append]) P9
  obtain ⟨sl, Rsl, Osl⟩ := P10
  have q := Rsl.cell 0
  have q' : w9.cell? ⟨w.heap.size + 1, 0, none⟩ = some sl := q
  have hJ := joinP_calls _ _ w9 sl Osl (by simp) (by have := Hd.few_parts h; unfold Hd.parts; simp only [List.length_append, List.length_cons]; omega) (by rw [Hd.text_join]; omega)
  rw [Hd.text_join] at hJ
  have HJ := Lib.hid hJ
  clear P9 q hJ Osl Rsl
  go_wp2_with fail
  refine HJ.out.mono ?_
  rintro e w10 ⟨rfl, b10⟩
  go_wp2
  go_ret
  exact ⟨rfl, K9.below.trans (b10.mono K9.below.size)⟩
end Go.Proofs.YtpimaobejjpffaaGreatDoor
