/- The walks of url's Right and Text. -/
import Derived.Test.YtcookddgaomkiaaGreatDoorUrlParts
import Derived.Test.YtcookddgaomkiaaGreatDoorUrlRow
import Derived.Test.YtcookddgaomkiaaGreatDoorHostText
namespace Go.Proofs.YtcookddgaomkiaaGreatDoor
open Go.RowKit
theorem cell_path {u : Ur.URL} (ha : u.host.addr.length = 16) {p : ByteArray} (hp : p = ⟨u.path.toArray⟩) : (urlA u)[20]? = some (.string p) := by
  rw [urlA_path u ha, hp]; rfl
set_option maxRecDepth 100000 in
set_option maxHeartbeats 4000000 in
theorem urlRight_calls (u : Ur.URL) (ha : u.host.addr.length = 16) (hn : u.host.name.length ≤ 1048000) (w : World) (hw : Std w) :
    Calls Tryz.prog 5 #[.agg (urlA u)] w fun e w' => e = .returned (.bool (Ur.right u)) ∧ Below w.heap.size w w' := by
  have H1 := Lib.hid (fun W hW => right_calls u.host ha hn W hW)
  have HU := Lib.hid (urlA_size u ha)
  have HH := Lib.hid (urlA_host u ha)
  obtain ⟨p, hp⟩ : ∃ p : ByteArray, p = ⟨u.path.toArray⟩ := ⟨_, rfl⟩
  have hpl : p.data.toList = u.path := by rw [hp]
  have H2 := fun W => path_calls p W
  rw [hpl] at H2
  have H2 := Lib.hid H2
  have C19 := Lib.hid (urlA_port u ha)
  have C20 := Lib.hid (cell_path ha hp)
  have hr : Ur.right u = (Hst.can u.host && (decide (1 ≤ u.port ∧ u.port ≤ 65535) && Ur.isPath u.path)) := rfl
  have HR := Lib.hid hr
  have R0 := Row.new w 27 (urlA u)
  have B0 := (Below.refl w.heap.size w).alloc (Nat.le_refl _) (.cells (urlA u) 27)
  clear hp hpl hr
  generalize hostA u.host = X at *
  generalize urlA u = U at *
  generalize Ur.isPath u.path = q at *
  generalize Hst.can u.host = b at *
  rw [HR.out]
  clear HR
  generalize u.port = n at *
  go_enter Tryz.func5, Tryz.ntmps5
  go_wp2_with (refine at_slot 4 rfl ?_; refine load_part rfl 25 _ rfl w.heap.size 1 18 rfl R0 Tryz.underlying25 rfl infoHost (by rw [HU.out]; decide) X HH.out ?_)
  generalize w.alloc (.cells U 27) = w0 at *
  refine (H1.out _ (hw.below B0)).mono ?_
  rintro e v1 ⟨rfl, d1⟩
  have R1 := R0.stays d1
  have B1 := B0.trans (d1.mono B0.size)
  have c19 := (R1.cell 19).trans C19.out
  have c20 := (R1.cell 20).trans C20.out
  clear R0 B0 d1
  cases b with
  | false =>
    go_wp2
    go_ret
    exact ⟨rfl, B1⟩
  | true =>
    by_cases h1 : 1 ≤ n
    · by_cases h2 : n ≤ 65535
      · go_wp2_with (go_at_call 11; refine (H2.out _).mono ?_; rintro e v2 ⟨rfl, rfl⟩)
        go_ret
        exact ⟨ret_bool (by rw [decide_eq_true (show 1 ≤ n ∧ n ≤ 65535 from ⟨h1, h2⟩)]; rfl), B1⟩
      · go_wp2
        go_ret
        exact ⟨ret_bool (by rw [decide_eq_false (show ¬ n ≤ 65535 by omega)]; simp), B1⟩
    · go_wp2
      go_ret
      exact ⟨ret_bool (by rw [decide_eq_false (show ¬ 1 ≤ n by omega)]; simp), B1⟩
theorem glue {a b c : ByteArray} {l m : List UInt8} (ha : a.data.toList = l) (hb : b.data.toList = m) (h : a ++ b = c) : c.data.toList = l ++ m := by
  rw [← h, ByteArray.data_append, Array.toList_append, ha, hb]
theorem bytes_is {c : ByteArray} {l : List UInt8} (h : c.data.toList = l) : (⟨l.toArray⟩ : ByteArray) = c := by rw [← h, mk_bytes]
namespace Ur
theorem text_length (u : URL) (ha : u.host.addr.length = 16) : (text u).length ≤ u.host.name.length + u.path.length + 100 := by
  unfold text
  split
  · rename_i hr
    unfold right at hr
    simp only [Bool.and_eq_true, decide_eq_true_eq] at hr
    have h1 := Hst.text_length u.host ha
    have h2 : (portText u).length ≤ 6 := by
      unfold portText
      split
      · simp
      · have := dec_length 5 u.port.toNat (by omega) (by omega)
        rw [List.length_cons]; omega
    have h3 : (if u.secure then https else http).length ≤ 8 := by cases u.secure <;> decide
    rw [List.length_append, List.length_append, List.length_append]
    omega
  · simp
end Ur
set_option maxRecDepth 100000 in
set_option maxHeartbeats 8000000 in
theorem urlText_calls (u : Ur.URL) (ha : u.host.addr.length = 16) (hn : u.host.name.length ≤ 1048000) (t : ByteArray) (ht : t = ⟨(Ur.text u).toArray⟩) (w : World) (hw : Std w) :
    Calls Tryz.prog 7 #[.agg (urlA u)] w fun e w' => e = .returned (.string t) ∧ Below w.heap.size w w' := by
  have H1 := Lib.hid (fun W hW => urlRight_calls u ha hn W hW)
  have HU := Lib.hid (urlA_size u ha)
  have HI := Lib.hid (show (Tryz.prog.info? 27).map (·.size) = some (urlA u).size by rw [urlA_size u ha]; exact infoURL)
  have R0 := Row.new w 27 (urlA u)
  have B0 := (Below.refl w.heap.size w).alloc (Nat.le_refl _) (.cells (urlA u) 27)
  cases hr : Ur.right u with
  | false =>
    have e := (Ur.text_wrong hr).1
    rw [e] at ht
    rw [hr] at H1
    subst ht
    clear hr e
    generalize urlA u = U at *
    go_enter Tryz.func7, Tryz.ntmps7
    go_wp2_with (refine at_slot 4 rfl ?_; refine load_row rfl 27 _ rfl w.heap.size rfl R0 Tryz.underlying27 rfl HI.out ?_)
    generalize w.alloc (.cells U 27) = w0 at *
    refine (H1.out _ (hw.below B0)).mono ?_
    rintro e v1 ⟨rfl, d1⟩
    go_wp2
    go_ret
    exact ⟨rfl, B0.trans (d1.mono B0.size)⟩
  | true =>
    have hr2 := hr
    unfold Ur.right at hr2
    simp only [Bool.and_eq_true, decide_eq_true_eq] at hr2
    obtain ⟨_, ⟨hp1, hp2⟩, hpa⟩ := hr2
    have hpl := (Ur.isPath_facts hpa).2.2.1
    have htx : t.data.toList = (if u.secure then Ur.https else Ur.http) ++ (Hst.text u.host ++ (Ur.portText u ++ u.path)) := by
      rw [ht]
      unfold Ur.text
      rw [if_pos hr]
    have htl := Hst.text_length u.host ha
    obtain ⟨T, hT⟩ : ∃ T : ByteArray, T = ⟨(Hst.text u.host).toArray⟩ := ⟨_, rfl⟩
    have hTl : T.data.toList = Hst.text u.host := by rw [hT]
    have hTs : T.size ≤ 1048084 := by rw [← Oct.length_bytes, hTl]; omega
    have H2 := Lib.hid (fun W hW => text_calls u.host ha T hT W hW)
    obtain ⟨p, hp⟩ : ∃ p : ByteArray, p = ⟨u.path.toArray⟩ := ⟨_, rfl⟩
    have hpd : p.data.toList = u.path := by rw [hp]
    have hps : p.size ≤ 2048 := by rw [← Oct.length_bytes, hpd]; exact hpl
    obtain ⟨n, hport⟩ : ∃ n : Nat, u.port = (n : Int) := ⟨u.port.toNat, by omega⟩
    have hn2 : n ≤ 65535 := by omega
    obtain ⟨D, hD⟩ : ∃ D : ByteArray, (⟨(Lib.decDigits n).toArray⟩ : ByteArray) = D := ⟨_, rfl⟩
    have hDl : D.data.toList = Lib.decDigits n := by rw [← hD]
    have hDs : D.size ≤ 5 := by
      rw [← Oct.length_bytes, hDl]
      exact Ur.dec_length 5 n (by omega) (by omega)
    have H3 := fun W hW => itoa_calls n W hW (by omega)
    rw [hD] at H3
    have H3 := Lib.hid H3
    have hpt : Ur.portText u = if (n : Int) = Ur.usual u.secure then [] else 58 :: Lib.decDigits n := by
      unfold Ur.portText
      rw [hport, Int.toNat_natCast]
    have C0 := Lib.hid (urlA_secure u)
    have C19 := Lib.hid (show (urlA u)[19]? = some (.int .i64 (n : Int)) by rw [← hport]; exact urlA_port u ha)
    have C20 := Lib.hid (cell_path ha hp)
    have HH := Lib.hid (urlA_host u ha)
    rw [hr] at H1
    rw [hpt, ← hTl, ← hDl, ← hpd] at htx
    have HTX := Lib.hid htx
    clear ht htl hT hTl hp hpd hpl hD hDl hport hpt hr hp1 hp2 hpa htx
    generalize hostA u.host = X at *
    generalize urlA u = U at *
    generalize u.secure = b at *
    cases b with
    | false =>
      by_cases he : (n : Int) = 80
      · have hq : ((n : Int) != Ur.usual false) = false := by rw [he]; rfl
        have HT2 : Hid (t.data.toList = Ur.http ++ (T.data.toList ++ ([] ++ p.data.toList))) := Lib.hid (by rw [HTX.out, if_pos (show (n : Int) = Ur.usual false from he)]; try rfl)
        obtain ⟨E1, hE1⟩ : ∃ E : ByteArray, (⟨#[104, 116, 116, 112, 58, 47, 47]⟩ : ByteArray) ++ T = E := ⟨_, rfl⟩
        have hE1s : E1.size = 7 + T.size := by rw [← hE1, ByteArray.size_append]; rfl
        have hc1 : ¬ 9223372036854775807 < (⟨#[104, 116, 116, 112, 58, 47, 47]⟩ : ByteArray).size + T.size := by have : (⟨#[104, 116, 116, 112, 58, 47, 47]⟩ : ByteArray).size = 7 := rfl; omega
        have g1 := glue (a := ⟨#[104, 116, 116, 112, 58, 47, 47]⟩) rfl rfl hE1
        obtain ⟨E4, hE4⟩ : ∃ E : ByteArray, E1 ++ p = E := ⟨_, rfl⟩
        have hc4 : ¬ 9223372036854775807 < E1.size + p.size := by omega
        have g4 := glue g1 rfl hE4
        have HE : Hid (E4 = t) := Lib.hid (by rw [← mk_bytes E4, ← mk_bytes t, g4, HT2.out]; congr 1)
        clear g1 g4 HT2 HTX
        go_enter Tryz.func7, Tryz.ntmps7
        go_wp2_with (refine at_slot 4 rfl ?_; refine load_row rfl 27 _ rfl w.heap.size rfl R0 Tryz.underlying27 rfl HI.out ?_)
        generalize w.alloc (.cells U 27) = w0 at *
        refine (H1.out _ (hw.below B0)).mono ?_
        rintro e v1 ⟨rfl, d1⟩
        have R1 := R0.stays d1
        have B1 := B0.trans (d1.mono B0.size)
        have c0 := (R1.cell 0).trans C0.out
        clear R0 B0 d1
        go_wp2_with (refine at_slot 11 rfl ?_; refine load_part rfl 25 _ rfl w.heap.size 1 18 rfl R1 Tryz.underlying25 rfl infoHost (by rw [HU.out]; decide) X HH.out ?_)
        refine (H2.out _ (hw.below B1)).mono ?_
        rintro e v2 ⟨rfl, d2⟩
        have R2 := R1.stays d2
        have B2 := B1.trans (d2.mono B1.size)
        clear R1 B1 d2 c0
        have c0 := (R2.cell 0).trans C0.out
        have c19 := (R2.cell 19).trans C19.out
        have c20 := (R2.cell 20).trans C20.out
        go_wp2
        go_quiet ((go_at_call 15; exact quietL (usual_calls _ _)))
        go_wp2
        go_ret
        exact ⟨ret_str HE.out, B2.trans (below_draws _ _ _)⟩
      · have hne : ¬ (n : Int) = 80 := he
        have hq : ((n : Int) != Ur.usual false) = true := by rw [bne_iff_ne]; exact he
        clear he
        have HT2 : Hid (t.data.toList = Ur.http ++ (T.data.toList ++ (58 :: D.data.toList ++ p.data.toList))) := Lib.hid (by rw [HTX.out, if_neg (show ¬ ((n : Int) = Ur.usual false) from hne)]; try rfl)
        obtain ⟨E1, hE1⟩ : ∃ E : ByteArray, (⟨#[104, 116, 116, 112, 58, 47, 47]⟩ : ByteArray) ++ T = E := ⟨_, rfl⟩
        have hE1s : E1.size = 7 + T.size := by rw [← hE1, ByteArray.size_append]; rfl
        have hc1 : ¬ 9223372036854775807 < (⟨#[104, 116, 116, 112, 58, 47, 47]⟩ : ByteArray).size + T.size := by have : (⟨#[104, 116, 116, 112, 58, 47, 47]⟩ : ByteArray).size = 7 := rfl; omega
        have g1 := glue (a := ⟨#[104, 116, 116, 112, 58, 47, 47]⟩) rfl rfl hE1
        obtain ⟨E2, hE2⟩ : ∃ E : ByteArray, (⟨#[58]⟩ : ByteArray) ++ D = E := ⟨_, rfl⟩
        have hE2s : E2.size = 1 + D.size := by rw [← hE2, ByteArray.size_append]; rfl
        have hc2 : ¬ 9223372036854775807 < (⟨#[58]⟩ : ByteArray).size + D.size := by have : (⟨#[58]⟩ : ByteArray).size = 1 := rfl; omega
        have g2 := glue (a := ⟨#[58]⟩) rfl rfl hE2
        obtain ⟨E3, hE3⟩ : ∃ E : ByteArray, E1 ++ E2 = E := ⟨_, rfl⟩
        have hE3s : E3.size = E1.size + E2.size := by rw [← hE3, ByteArray.size_append]
        have hc3 : ¬ 9223372036854775807 < E1.size + E2.size := by omega
        have g3 := glue g1 g2 hE3
        obtain ⟨E4, hE4⟩ : ∃ E : ByteArray, E3 ++ p = E := ⟨_, rfl⟩
        have hc4 : ¬ 9223372036854775807 < E3.size + p.size := by omega
        have g4 := glue g3 rfl hE4
        have HE : Hid (E4 = t) := Lib.hid (by rw [← mk_bytes E4, ← mk_bytes t, g4, HT2.out]; congr 1; simp [Ur.http])
        clear g1 g2 g3 g4 HT2 HTX
        go_enter Tryz.func7, Tryz.ntmps7
        go_wp2_with (refine at_slot 4 rfl ?_; refine load_row rfl 27 _ rfl w.heap.size rfl R0 Tryz.underlying27 rfl HI.out ?_)
        generalize w.alloc (.cells U 27) = w0 at *
        refine (H1.out _ (hw.below B0)).mono ?_
        rintro e v1 ⟨rfl, d1⟩
        have R1 := R0.stays d1
        have B1 := B0.trans (d1.mono B0.size)
        have c0 := (R1.cell 0).trans C0.out
        clear R0 B0 d1
        go_wp2_with (refine at_slot 11 rfl ?_; refine load_part rfl 25 _ rfl w.heap.size 1 18 rfl R1 Tryz.underlying25 rfl infoHost (by rw [HU.out]; decide) X HH.out ?_)
        refine (H2.out _ (hw.below B1)).mono ?_
        rintro e v2 ⟨rfl, d2⟩
        have R2 := R1.stays d2
        have B2 := B1.trans (d2.mono B1.size)
        clear R1 B1 d2 c0
        have c0 := (R2.cell 0).trans C0.out
        have c19 := (R2.cell 19).trans C19.out
        have c20 := (R2.cell 20).trans C20.out
        go_wp2
        go_quiet ((go_at_call 15; exact quietL (usual_calls _ _)))
        have B3 := fun k => B2.trans (below_draws w.heap.size v2 k)
        have R3 := fun k => R2.stays (below_draws v2.heap.size v2 k)
        have c19 := fun k => ((R3 k).cell 19).trans C19.out
        clear c0 c20
        go_wp2_with fail
        refine (H3.out _ (hw.below (B3 _))).mono ?_
        rintro e v4 ⟨rfl, d4⟩
        have R4 := (R3 _).stays d4
        have B4 := (B3 _).trans (d4.mono (B3 _).size)
        have c20 := (R4.cell 20).trans C20.out
        clear R3 B3 c19 d4
        go_wp2
        go_ret
        exact ⟨ret_str HE.out, B4⟩
    | true =>
      by_cases he : (n : Int) = 443
      · have hq : ((n : Int) != Ur.usual true) = false := by rw [he]; rfl
        have HT2 : Hid (t.data.toList = Ur.https ++ (T.data.toList ++ ([] ++ p.data.toList))) := Lib.hid (by rw [HTX.out, if_pos (show (n : Int) = Ur.usual true from he)]; try rfl)
        obtain ⟨E1, hE1⟩ : ∃ E : ByteArray, (⟨#[104, 116, 116, 112, 115, 58, 47, 47]⟩ : ByteArray) ++ T = E := ⟨_, rfl⟩
        have hE1s : E1.size = 8 + T.size := by rw [← hE1, ByteArray.size_append]; rfl
        have hc1 : ¬ 9223372036854775807 < (⟨#[104, 116, 116, 112, 115, 58, 47, 47]⟩ : ByteArray).size + T.size := by have : (⟨#[104, 116, 116, 112, 115, 58, 47, 47]⟩ : ByteArray).size = 8 := rfl; omega
        have g1 := glue (a := ⟨#[104, 116, 116, 112, 115, 58, 47, 47]⟩) rfl rfl hE1
        obtain ⟨E4, hE4⟩ : ∃ E : ByteArray, E1 ++ p = E := ⟨_, rfl⟩
        have hc4 : ¬ 9223372036854775807 < E1.size + p.size := by omega
        have g4 := glue g1 rfl hE4
        have HE : Hid (E4 = t) := Lib.hid (by rw [← mk_bytes E4, ← mk_bytes t, g4, HT2.out]; congr 1)
        clear g1 g4 HT2 HTX
        go_enter Tryz.func7, Tryz.ntmps7
        go_wp2_with (refine at_slot 4 rfl ?_; refine load_row rfl 27 _ rfl w.heap.size rfl R0 Tryz.underlying27 rfl HI.out ?_)
        generalize w.alloc (.cells U 27) = w0 at *
        refine (H1.out _ (hw.below B0)).mono ?_
        rintro e v1 ⟨rfl, d1⟩
        have R1 := R0.stays d1
        have B1 := B0.trans (d1.mono B0.size)
        have c0 := (R1.cell 0).trans C0.out
        clear R0 B0 d1
        go_wp2_with (refine at_slot 11 rfl ?_; refine load_part rfl 25 _ rfl w.heap.size 1 18 rfl R1 Tryz.underlying25 rfl infoHost (by rw [HU.out]; decide) X HH.out ?_)
        refine (H2.out _ (hw.below B1)).mono ?_
        rintro e v2 ⟨rfl, d2⟩
        have R2 := R1.stays d2
        have B2 := B1.trans (d2.mono B1.size)
        clear R1 B1 d2 c0
        have c0 := (R2.cell 0).trans C0.out
        have c19 := (R2.cell 19).trans C19.out
        have c20 := (R2.cell 20).trans C20.out
        go_wp2
        go_quiet ((go_at_call 15; exact quietL (usual_calls _ _)))
        go_wp2
        go_ret
        exact ⟨ret_str HE.out, B2.trans (below_draws _ _ _)⟩
      · have hne : ¬ (n : Int) = 443 := he
        have hq : ((n : Int) != Ur.usual true) = true := by rw [bne_iff_ne]; exact he
        clear he
        have HT2 : Hid (t.data.toList = Ur.https ++ (T.data.toList ++ (58 :: D.data.toList ++ p.data.toList))) := Lib.hid (by rw [HTX.out, if_neg (show ¬ ((n : Int) = Ur.usual true) from hne)]; try rfl)
        obtain ⟨E1, hE1⟩ : ∃ E : ByteArray, (⟨#[104, 116, 116, 112, 115, 58, 47, 47]⟩ : ByteArray) ++ T = E := ⟨_, rfl⟩
        have hE1s : E1.size = 8 + T.size := by rw [← hE1, ByteArray.size_append]; rfl
        have hc1 : ¬ 9223372036854775807 < (⟨#[104, 116, 116, 112, 115, 58, 47, 47]⟩ : ByteArray).size + T.size := by have : (⟨#[104, 116, 116, 112, 115, 58, 47, 47]⟩ : ByteArray).size = 8 := rfl; omega
        have g1 := glue (a := ⟨#[104, 116, 116, 112, 115, 58, 47, 47]⟩) rfl rfl hE1
        obtain ⟨E2, hE2⟩ : ∃ E : ByteArray, (⟨#[58]⟩ : ByteArray) ++ D = E := ⟨_, rfl⟩
        have hE2s : E2.size = 1 + D.size := by rw [← hE2, ByteArray.size_append]; rfl
        have hc2 : ¬ 9223372036854775807 < (⟨#[58]⟩ : ByteArray).size + D.size := by have : (⟨#[58]⟩ : ByteArray).size = 1 := rfl; omega
        have g2 := glue (a := ⟨#[58]⟩) rfl rfl hE2
        obtain ⟨E3, hE3⟩ : ∃ E : ByteArray, E1 ++ E2 = E := ⟨_, rfl⟩
        have hE3s : E3.size = E1.size + E2.size := by rw [← hE3, ByteArray.size_append]
        have hc3 : ¬ 9223372036854775807 < E1.size + E2.size := by omega
        have g3 := glue g1 g2 hE3
        obtain ⟨E4, hE4⟩ : ∃ E : ByteArray, E3 ++ p = E := ⟨_, rfl⟩
        have hc4 : ¬ 9223372036854775807 < E3.size + p.size := by omega
        have g4 := glue g3 rfl hE4
        have HE : Hid (E4 = t) := Lib.hid (by rw [← mk_bytes E4, ← mk_bytes t, g4, HT2.out]; congr 1; simp [Ur.https])
        clear g1 g2 g3 g4 HT2 HTX
        go_enter Tryz.func7, Tryz.ntmps7
        go_wp2_with (refine at_slot 4 rfl ?_; refine load_row rfl 27 _ rfl w.heap.size rfl R0 Tryz.underlying27 rfl HI.out ?_)
        generalize w.alloc (.cells U 27) = w0 at *
        refine (H1.out _ (hw.below B0)).mono ?_
        rintro e v1 ⟨rfl, d1⟩
        have R1 := R0.stays d1
        have B1 := B0.trans (d1.mono B0.size)
        have c0 := (R1.cell 0).trans C0.out
        clear R0 B0 d1
        go_wp2_with (refine at_slot 11 rfl ?_; refine load_part rfl 25 _ rfl w.heap.size 1 18 rfl R1 Tryz.underlying25 rfl infoHost (by rw [HU.out]; decide) X HH.out ?_)
        refine (H2.out _ (hw.below B1)).mono ?_
        rintro e v2 ⟨rfl, d2⟩
        have R2 := R1.stays d2
        have B2 := B1.trans (d2.mono B1.size)
        clear R1 B1 d2 c0
        have c0 := (R2.cell 0).trans C0.out
        have c19 := (R2.cell 19).trans C19.out
        have c20 := (R2.cell 20).trans C20.out
        go_wp2
        go_quiet ((go_at_call 15; exact quietL (usual_calls _ _)))
        have B3 := fun k => B2.trans (below_draws w.heap.size v2 k)
        have R3 := fun k => R2.stays (below_draws v2.heap.size v2 k)
        have c19 := fun k => ((R3 k).cell 19).trans C19.out
        clear c0 c20
        go_wp2_with fail
        refine (H3.out _ (hw.below (B3 _))).mono ?_
        rintro e v4 ⟨rfl, d4⟩
        have R4 := (R3 _).stays d4
        have B4 := (B3 _).trans (d4.mono (B3 _).size)
        have c20 := (R4.cell 20).trans C20.out
        clear R3 B3 c19 d4
        go_wp2
        go_ret
        exact ⟨ret_str HE.out, B4⟩
end Go.Proofs.YtcookddgaomkiaaGreatDoor
