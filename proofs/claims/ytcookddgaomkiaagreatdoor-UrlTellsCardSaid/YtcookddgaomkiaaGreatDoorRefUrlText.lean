/- The walks of the reference's Right, decimal and Text of URLs. -/
import Derived.Test.YtcookddgaomkiaaGreatDoorUrlText
import Derived.Test.YtcookddgaomkiaaGreatDoorRefUrlParts
import Derived.Test.YtcookddgaomkiaaGreatDoorRefHostText
import Derived.Test.YtcookddgaomkiaaGreatDoorRefDec
namespace Go.Proofs.YtcookddgaomkiaaGreatDoor
open Go.RowKit
set_option maxRecDepth 100000 in
set_option maxHeartbeats 4000000 in
theorem refUrlRight_calls (u : Ur.URL) (ha : u.host.addr.length = 16) (hn : u.host.name.length ≤ 2900) (hpz : u.path.length ≤ 1048576) (w : World) :
    Calls Tryz.prog 6 #[.agg (urlA u)] w fun e w' => e = .returned (.bool (Ur.right u)) ∧ Below w.heap.size w w' := by
  have H1 := Lib.hid (fun W => refRight_calls u.host ha hn W)
  have HU := Lib.hid (urlA_size u ha)
  have HH := Lib.hid (urlA_host u ha)
  obtain ⟨p, hp⟩ : ∃ p : ByteArray, p = ⟨u.path.toArray⟩ := ⟨_, rfl⟩
  have hpl : p.data.toList = u.path := by rw [hp]
  have H2 := fun W => refPath_calls p W (by unfold maxLen; rw [← Oct.length_bytes, hpl]; omega)
  rw [hpl] at H2
  have H2 := Lib.hid H2
  have C19 := Lib.hid (urlA_port u ha)
  have C20 := Lib.hid (cell_path ha hp)
  have hr : Ur.right u = (Hst.can u.host && (decide (1 ≤ u.port ∧ u.port ≤ 65535) && Ur.isPath u.path)) := rfl
  have HR := Lib.hid hr
  have R0 := Row.new w 27 (urlA u)
  have B0 := (Below.refl w.heap.size w).alloc (Nat.le_refl _) (.cells (urlA u) 27)
  clear hp hpl hr
  generalize hostA u.host = X at *
  generalize urlA u = U at *
  generalize Ur.isPath u.path = q at *
  generalize Hst.can u.host = b at *
  rw [HR.out]
  clear HR
  generalize u.port = n at *
  go_enter Tryz.func6, Tryz.ntmps6
  go_wp2_with (refine at_slot 4 rfl ?_; refine load_part rfl 25 _ rfl w.heap.size 1 18 rfl R0 Tryz.underlying25 rfl infoHost (by rw [HU.out]; decide) X HH.out ?_)
  generalize w.alloc (.cells U 27) = w0 at *
  refine (H1.out _).mono ?_
  rintro e v1 ⟨rfl, d1⟩
  have R1 := R0.stays d1
  have B1 := B0.trans (d1.mono B0.size)
  have c19 := (R1.cell 19).trans C19.out
  have c20 := (R1.cell 20).trans C20.out
  clear R0 B0 d1
  cases b with
  | false =>
    go_wp2
    go_ret
    exact ⟨rfl, B1⟩
  | true =>
    by_cases h1 : 1 ≤ n
    · by_cases h2 : n ≤ 65535
      · go_wp2_with (go_at_call 13; refine (H2.out _).mono ?_; rintro e v2 ⟨rfl, rfl⟩)
        go_ret
        exact ⟨ret_bool (by rw [decide_eq_true (show 1 ≤ n ∧ n ≤ 65535 from ⟨h1, h2⟩)]; rfl), B1⟩
      · go_wp2
        go_ret
        exact ⟨ret_bool (by rw [decide_eq_false (show ¬ n ≤ 65535 by omega)]; simp), B1⟩
    · go_wp2
      go_ret
      exact ⟨ret_bool (by rw [decide_eq_false (show ¬ 1 ≤ n by omega)]; simp), B1⟩
set_option maxRecDepth 100000 in
set_option maxHeartbeats 2000000 in
theorem decU_calls (n : Nat) (hn : n ≤ 65535) (w : World) :
    Calls Tryz.prog 18 #[.int .i64 (n : Int)] w fun e w' => e = .returned (.string ⟨(Lib.decDigits n).toArray⟩) ∧ Below w.heap.size w w' := by
  go_enter Tryz.func18, Tryz.ntmps18
  go_wp2
  go_loopw [0, 3] (fun v x wr => ∃ (m : Nat) (o : ByteArray), m ≤ 65535 ∧ v = .int .i64 (m : Int) ∧ x = .string o ∧ o.size + m ≤ 65535 + 5 ∧ Hid (Lib.decDigits n = Lib.decDigits m ++ o.data.toList) ∧ Below w.heap.size w wr) (fun v _ _ => (intOf v).toNat)
  case atStart => exact ⟨n, ⟨#[]⟩, hn, rfl, rfl, by show 0 + n ≤ _; omega, Lib.hid (by show _ = _ ++ []; rw [List.append_nil]), Below.refl _ _⟩
  case round =>
    obtain ⟨m, o, hm, rfl, rfl, hz, HO, hb⟩ := hrel
    by_cases hg : m < 10
    · have hg1 : ¬ (9 : Int) < (m : Int) := by omega
      obtain ⟨c, hc⟩ : ∃ c : UInt8, c = UInt8.ofNat (48 + m) := ⟨_, rfl⟩
      have hu := Adr.dec_u8 m hg
      rw [← hc] at hu
      have hu' : (c.toNat : Int) = 48 + (m : Int) := by omega
      have hcv := one_string wr c
      rw [hu'] at hcv
      have hsz : ¬ 9223372036854775807 < (⟨#[c]⟩ : ByteArray).size + o.size := by have : (⟨#[c]⟩ : ByteArray).size = 1 := rfl; omega
      have HT : Hid ((⟨#[c]⟩ : ByteArray) ++ o = ⟨(Lib.decDigits n).toArray⟩) := Lib.hid (by
        rw [HO.out, Adr.dec_one hg, ← hc]
        apply ByteArray.ext
        rw [ByteArray.data_append]
        apply Array.ext'
        rw [Array.toList_append])
      clear hc hu hu'
      go_wp2
      go_ret
      exact ⟨ret_str HT.out, hb.alloc hb.size _⟩
    · have hg1 : (9 : Int) < (m : Int) := by omega
      have hd : m % 10 < 10 := by omega
      obtain ⟨c, hc⟩ : ∃ c : UInt8, c = UInt8.ofNat (48 + m % 10) := ⟨_, rfl⟩
      have hu := Adr.dec_u8 (m % 10) hd
      rw [← hc] at hu
      have hu' : (c.toNat : Int) = 48 + (m : Int) % 10 := by omega
      have hcv := one_string wr c
      rw [hu'] at hcv
      have q2 : (m : Int).tmod 10 = (m : Int) % 10 := Int.tmod_eq_emod_of_nonneg (by omega)
      have q1 : (m : Int).tdiv 10 = (m : Int) / 10 := Int.tdiv_eq_ediv_of_nonneg (by omega)
      have m0 : 0 ≤ (m : Int) % 10 := by omega
      have m1 : (m : Int) % 10 < 10 := by omega
      have hsz : ¬ 9223372036854775807 < (⟨#[c]⟩ : ByteArray).size + o.size := by have : (⟨#[c]⟩ : ByteArray).size = 1 := rfl; omega
      have HT : Hid (Lib.decDigits n = Lib.decDigits (m / 10) ++ ((⟨#[c]⟩ : ByteArray) ++ o).data.toList) := Lib.hid (by
        rw [HO.out, Adr.dec_more hg, ← hc, ByteArray.data_append, Array.toList_append, List.append_assoc])
      have hzz : ((⟨#[c]⟩ : ByteArray) ++ o).size = 1 + o.size := by rw [ByteArray.size_append]; rfl
      clear hc hu hu'
      go_wp2
      go_roundw
      case rel => exact ⟨m / 10, _, by omega, by go_num, rfl, by omega, HT, hb.alloc hb.size _⟩
      case measure => simp [intOf]; omega
set_option maxRecDepth 100000 in
set_option maxHeartbeats 8000000 in
theorem refUrlText_calls (u : Ur.URL) (ha : u.host.addr.length = 16) (hn : u.host.name.length ≤ 2900) (hpz : u.path.length ≤ 1048576) (t : ByteArray) (ht : t = ⟨(Ur.text u).toArray⟩) (w : World) :
    Calls Tryz.prog 8 #[.agg (urlA u)] w fun e w' => e = .returned (.string t) ∧ Below w.heap.size w w' := by
  have H1 := Lib.hid (fun W => refUrlRight_calls u ha hn hpz W)
  have HU := Lib.hid (urlA_size u ha)
  have HI := Lib.hid (show (Tryz.prog.info? 27).map (·.size) = some (urlA u).size by rw [urlA_size u ha]; exact infoURL)
  have R0 := Row.new w 27 (urlA u)
  have B0 := (Below.refl w.heap.size w).alloc (Nat.le_refl _) (.cells (urlA u) 27)
  cases hr : Ur.right u with
  | false =>
    have e := (Ur.text_wrong hr).1
    rw [e] at ht
    rw [hr] at H1
    subst ht
    clear hr e
    generalize urlA u = U at *
    go_enter Tryz.func8, Tryz.ntmps8
    go_wp2_with (refine at_slot 4 rfl ?_; refine load_row rfl 27 _ rfl w.heap.size rfl R0 Tryz.underlying27 rfl HI.out ?_)
    generalize w.alloc (.cells U 27) = w0 at *
    refine (H1.out _).mono ?_
    rintro e v1 ⟨rfl, d1⟩
    go_wp2
    go_ret
    exact ⟨rfl, B0.trans (d1.mono B0.size)⟩
  | true =>
    have hr2 := hr
    unfold Ur.right at hr2
    simp only [Bool.and_eq_true, decide_eq_true_eq] at hr2
    obtain ⟨_, ⟨hp1, hp2⟩, hpa⟩ := hr2
    have hpl := (Ur.isPath_facts hpa).2.2.1
    have htx : t.data.toList = (if u.secure then Ur.https else Ur.http) ++ (Hst.text u.host ++ (Ur.portText u ++ u.path)) := by
      rw [ht]
      unfold Ur.text
      rw [if_pos hr]
    have htl := Hst.text_length u.host ha
    obtain ⟨T, hT⟩ : ∃ T : ByteArray, T = ⟨(Hst.text u.host).toArray⟩ := ⟨_, rfl⟩
    have hTl : T.data.toList = Hst.text u.host := by rw [hT]
    have hTs : T.size ≤ 2984 := by rw [← Oct.length_bytes, hTl]; omega
    have H2 := Lib.hid (fun W => refText_calls u.host ha T hT W)
    obtain ⟨p, hp⟩ : ∃ p : ByteArray, p = ⟨u.path.toArray⟩ := ⟨_, rfl⟩
    have hpd : p.data.toList = u.path := by rw [hp]
    have hps : p.size ≤ 2048 := by rw [← Oct.length_bytes, hpd]; exact hpl
    obtain ⟨n, hport⟩ : ∃ n : Nat, u.port = (n : Int) := ⟨u.port.toNat, by omega⟩
    have hn2 : n ≤ 65535 := by omega
    obtain ⟨D, hD⟩ : ∃ D : ByteArray, (⟨(Lib.decDigits n).toArray⟩ : ByteArray) = D := ⟨_, rfl⟩
    have hDl : D.data.toList = Lib.decDigits n := by rw [← hD]
    have hDs : D.size ≤ 5 := by
      rw [← Oct.length_bytes, hDl]
      exact Ur.dec_length 5 n (by omega) (by omega)
    have H3 := fun W => decU_calls n hn2 W
    rw [hD] at H3
    have H3 := Lib.hid H3
    have hpt : Ur.portText u = if (n : Int) = Ur.usual u.secure then [] else 58 :: Lib.decDigits n := by
      unfold Ur.portText
      rw [hport, Int.toNat_natCast]
    have C0 := Lib.hid (urlA_secure u)
    have C19 := Lib.hid (show (urlA u)[19]? = some (.int .i64 (n : Int)) by rw [← hport]; exact urlA_port u ha)
    have C20 := Lib.hid (cell_path ha hp)
    have HH := Lib.hid (urlA_host u ha)
    rw [hr] at H1
    rw [hpt, ← hTl, ← hDl, ← hpd] at htx
    have HTX := Lib.hid htx
    clear ht htl hT hTl hp hpd hpl hD hDl hport hpt hr hp1 hp2 hpa htx
    generalize hostA u.host = X at *
    generalize urlA u = U at *
    generalize u.secure = b at *
    cases b with
    | false =>
      by_cases he : (n : Int) = 80
      · have hq : ((n : Int) != 80) = false := by rw [he]; rfl
        have HT2 : Hid (t.data.toList = Ur.http ++ (T.data.toList ++ ([] ++ p.data.toList))) := Lib.hid (by rw [HTX.out, if_pos (show (n : Int) = Ur.usual false from he)]; try rfl)
        obtain ⟨E0, hE0⟩ : ∃ E : ByteArray, (⟨#[58, 47, 47]⟩ : ByteArray) ++ T = E := ⟨_, rfl⟩
        have hE0s : E0.size = 3 + T.size := by rw [← hE0, ByteArray.size_append]; rfl
        have hc5 : ¬ 9223372036854775807 < (⟨#[58, 47, 47]⟩ : ByteArray).size + T.size := by have : (⟨#[58, 47, 47]⟩ : ByteArray).size = 3 := rfl; omega
        have g0 := glue (a := ⟨#[58, 47, 47]⟩) rfl rfl hE0
        obtain ⟨E1, hE1⟩ : ∃ E : ByteArray, (⟨#[104, 116, 116, 112]⟩ : ByteArray) ++ E0 = E := ⟨_, rfl⟩
        have hE1s : E1.size = 4 + E0.size := by rw [← hE1, ByteArray.size_append]; rfl
        have hc1 : ¬ 9223372036854775807 < (⟨#[104, 116, 116, 112]⟩ : ByteArray).size + E0.size := by have : (⟨#[104, 116, 116, 112]⟩ : ByteArray).size = 4 := rfl; omega
        have g1 := glue (a := ⟨#[104, 116, 116, 112]⟩) rfl g0 hE1
        obtain ⟨E4, hE4⟩ : ∃ E : ByteArray, E1 ++ p = E := ⟨_, rfl⟩
        have hc4 : ¬ 9223372036854775807 < E1.size + p.size := by omega
        have g4 := glue g1 rfl hE4
        have HE : Hid (E4 = t) := Lib.hid (by rw [← mk_bytes E4, ← mk_bytes t, g4, HT2.out]; congr 1)
        clear g0 g1 g4 HT2 HTX
        go_enter Tryz.func8, Tryz.ntmps8
        go_wp2_with (refine at_slot 4 rfl ?_; refine load_row rfl 27 _ rfl w.heap.size rfl R0 Tryz.underlying27 rfl HI.out ?_)
        generalize w.alloc (.cells U 27) = w0 at *
        refine (H1.out _).mono ?_
        rintro e v1 ⟨rfl, d1⟩
        have R1 := R0.stays d1
        have B1 := B0.trans (d1.mono B0.size)
        have c0 := (R1.cell 0).trans C0.out
        clear R0 B0 d1
        go_wp2_with (refine at_slot 13 rfl ?_; refine load_part rfl 25 _ rfl w.heap.size 1 18 rfl R1 Tryz.underlying25 rfl infoHost (by rw [HU.out]; decide) X HH.out ?_)
        refine (H2.out _).mono ?_
        rintro e v2 ⟨rfl, d2⟩
        have R2 := R1.stays d2
        have B2 := B1.trans (d2.mono B1.size)
        clear R1 B1 d2 c0
        have c0 := (R2.cell 0).trans C0.out
        have c19 := (R2.cell 19).trans C19.out
        have c20 := (R2.cell 20).trans C20.out
        go_wp2
        go_ret
        exact ⟨ret_str HE.out, B2⟩
      · have hne : ¬ (n : Int) = 80 := he
        have hq : ((n : Int) != 80) = true := by rw [bne_iff_ne]; exact he
        clear he
        have HT2 : Hid (t.data.toList = Ur.http ++ (T.data.toList ++ (58 :: D.data.toList ++ p.data.toList))) := Lib.hid (by rw [HTX.out, if_neg (show ¬ ((n : Int) = Ur.usual false) from hne)]; try rfl)
        obtain ⟨E0, hE0⟩ : ∃ E : ByteArray, (⟨#[58, 47, 47]⟩ : ByteArray) ++ T = E := ⟨_, rfl⟩
        have hE0s : E0.size = 3 + T.size := by rw [← hE0, ByteArray.size_append]; rfl
        have hc5 : ¬ 9223372036854775807 < (⟨#[58, 47, 47]⟩ : ByteArray).size + T.size := by have : (⟨#[58, 47, 47]⟩ : ByteArray).size = 3 := rfl; omega
        have g0 := glue (a := ⟨#[58, 47, 47]⟩) rfl rfl hE0
        obtain ⟨E1, hE1⟩ : ∃ E : ByteArray, (⟨#[104, 116, 116, 112]⟩ : ByteArray) ++ E0 = E := ⟨_, rfl⟩
        have hE1s : E1.size = 4 + E0.size := by rw [← hE1, ByteArray.size_append]; rfl
        have hc1 : ¬ 9223372036854775807 < (⟨#[104, 116, 116, 112]⟩ : ByteArray).size + E0.size := by have : (⟨#[104, 116, 116, 112]⟩ : ByteArray).size = 4 := rfl; omega
        have g1 := glue (a := ⟨#[104, 116, 116, 112]⟩) rfl g0 hE1
        obtain ⟨E2, hE2⟩ : ∃ E : ByteArray, (⟨#[58]⟩ : ByteArray) ++ D = E := ⟨_, rfl⟩
        have hE2s : E2.size = 1 + D.size := by rw [← hE2, ByteArray.size_append]; rfl
        have hc2 : ¬ 9223372036854775807 < (⟨#[58]⟩ : ByteArray).size + D.size := by have : (⟨#[58]⟩ : ByteArray).size = 1 := rfl; omega
        have g2 := glue (a := ⟨#[58]⟩) rfl rfl hE2
        obtain ⟨E3, hE3⟩ : ∃ E : ByteArray, E1 ++ E2 = E := ⟨_, rfl⟩
        have hE3s : E3.size = E1.size + E2.size := by rw [← hE3, ByteArray.size_append]
        have hc3 : ¬ 9223372036854775807 < E1.size + E2.size := by omega
        have g3 := glue g1 g2 hE3
        obtain ⟨E4, hE4⟩ : ∃ E : ByteArray, E3 ++ p = E := ⟨_, rfl⟩
        have hc4 : ¬ 9223372036854775807 < E3.size + p.size := by omega
        have g4 := glue g3 rfl hE4
        have HE : Hid (E4 = t) := Lib.hid (by rw [← mk_bytes E4, ← mk_bytes t, g4, HT2.out]; congr 1; simp [Ur.http])
        clear g0 g1 g4 g2 g3 HT2 HTX
        go_enter Tryz.func8, Tryz.ntmps8
        go_wp2_with (refine at_slot 4 rfl ?_; refine load_row rfl 27 _ rfl w.heap.size rfl R0 Tryz.underlying27 rfl HI.out ?_)
        generalize w.alloc (.cells U 27) = w0 at *
        refine (H1.out _).mono ?_
        rintro e v1 ⟨rfl, d1⟩
        have R1 := R0.stays d1
        have B1 := B0.trans (d1.mono B0.size)
        have c0 := (R1.cell 0).trans C0.out
        clear R0 B0 d1
        go_wp2_with (refine at_slot 13 rfl ?_; refine load_part rfl 25 _ rfl w.heap.size 1 18 rfl R1 Tryz.underlying25 rfl infoHost (by rw [HU.out]; decide) X HH.out ?_)
        refine (H2.out _).mono ?_
        rintro e v2 ⟨rfl, d2⟩
        have R2 := R1.stays d2
        have B2 := B1.trans (d2.mono B1.size)
        clear R1 B1 d2 c0
        have c0 := (R2.cell 0).trans C0.out
        have c19 := (R2.cell 19).trans C19.out
        have c20 := (R2.cell 20).trans C20.out
        go_wp2_with fail
        refine (H3.out _).mono ?_
        rintro e v4 ⟨rfl, d4⟩
        have R4 := R2.stays d4
        have B4 := B2.trans (d4.mono B2.size)
        clear c0 c19 c20
        have c20 := (R4.cell 20).trans C20.out
        clear d4
        go_wp2
        go_ret
        exact ⟨ret_str HE.out, B4⟩
    | true =>
      by_cases he : (n : Int) = 443
      · have hq : ((n : Int) != 443) = false := by rw [he]; rfl
        have HT2 : Hid (t.data.toList = Ur.https ++ (T.data.toList ++ ([] ++ p.data.toList))) := Lib.hid (by rw [HTX.out, if_pos (show (n : Int) = Ur.usual true from he)]; try rfl)
        obtain ⟨S, hS⟩ : ∃ E : ByteArray, (⟨#[104, 116, 116, 112]⟩ : ByteArray) ++ (⟨#[115]⟩ : ByteArray) = E := ⟨_, rfl⟩
        have hSs : S.size = 5 := by rw [← hS]; rfl
        have gS : S.data.toList = [104, 116, 116, 112, 115] := by rw [← hS]; rfl
        have hc0 : ¬ 9223372036854775807 < (⟨#[104, 116, 116, 112]⟩ : ByteArray).size + (⟨#[115]⟩ : ByteArray).size := by decide
        obtain ⟨E0, hE0⟩ : ∃ E : ByteArray, (⟨#[58, 47, 47]⟩ : ByteArray) ++ T = E := ⟨_, rfl⟩
        have hE0s : E0.size = 3 + T.size := by rw [← hE0, ByteArray.size_append]; rfl
        have hc5 : ¬ 9223372036854775807 < (⟨#[58, 47, 47]⟩ : ByteArray).size + T.size := by have : (⟨#[58, 47, 47]⟩ : ByteArray).size = 3 := rfl; omega
        have g0 := glue (a := ⟨#[58, 47, 47]⟩) rfl rfl hE0
        obtain ⟨E1, hE1⟩ : ∃ E : ByteArray, S ++ E0 = E := ⟨_, rfl⟩
        have hE1s : E1.size = 5 + E0.size := by rw [← hE1, ByteArray.size_append, hSs]
        have hc1 : ¬ 9223372036854775807 < S.size + E0.size := by omega
        have g1 := glue gS g0 hE1
        obtain ⟨E4, hE4⟩ : ∃ E : ByteArray, E1 ++ p = E := ⟨_, rfl⟩
        have hc4 : ¬ 9223372036854775807 < E1.size + p.size := by omega
        have g4 := glue g1 rfl hE4
        have HE : Hid (E4 = t) := Lib.hid (by rw [← mk_bytes E4, ← mk_bytes t, g4, HT2.out]; congr 1)
        clear g0 g1 g4 gS HT2 HTX
        go_enter Tryz.func8, Tryz.ntmps8
        go_wp2_with (refine at_slot 4 rfl ?_; refine load_row rfl 27 _ rfl w.heap.size rfl R0 Tryz.underlying27 rfl HI.out ?_)
        generalize w.alloc (.cells U 27) = w0 at *
        refine (H1.out _).mono ?_
        rintro e v1 ⟨rfl, d1⟩
        have R1 := R0.stays d1
        have B1 := B0.trans (d1.mono B0.size)
        have c0 := (R1.cell 0).trans C0.out
        clear R0 B0 d1
        go_wp2_with (refine at_slot 13 rfl ?_; refine load_part rfl 25 _ rfl w.heap.size 1 18 rfl R1 Tryz.underlying25 rfl infoHost (by rw [HU.out]; decide) X HH.out ?_)
        refine (H2.out _).mono ?_
        rintro e v2 ⟨rfl, d2⟩
        have R2 := R1.stays d2
        have B2 := B1.trans (d2.mono B1.size)
        clear R1 B1 d2 c0
        have c0 := (R2.cell 0).trans C0.out
        have c19 := (R2.cell 19).trans C19.out
        have c20 := (R2.cell 20).trans C20.out
        go_wp2
        go_ret
        exact ⟨ret_str HE.out, B2⟩
      · have hne : ¬ (n : Int) = 443 := he
        have hq : ((n : Int) != 443) = true := by rw [bne_iff_ne]; exact he
        clear he
        have HT2 : Hid (t.data.toList = Ur.https ++ (T.data.toList ++ (58 :: D.data.toList ++ p.data.toList))) := Lib.hid (by rw [HTX.out, if_neg (show ¬ ((n : Int) = Ur.usual true) from hne)]; try rfl)
        obtain ⟨S, hS⟩ : ∃ E : ByteArray, (⟨#[104, 116, 116, 112]⟩ : ByteArray) ++ (⟨#[115]⟩ : ByteArray) = E := ⟨_, rfl⟩
        have hSs : S.size = 5 := by rw [← hS]; rfl
        have gS : S.data.toList = [104, 116, 116, 112, 115] := by rw [← hS]; rfl
        have hc0 : ¬ 9223372036854775807 < (⟨#[104, 116, 116, 112]⟩ : ByteArray).size + (⟨#[115]⟩ : ByteArray).size := by decide
        obtain ⟨E0, hE0⟩ : ∃ E : ByteArray, (⟨#[58, 47, 47]⟩ : ByteArray) ++ T = E := ⟨_, rfl⟩
        have hE0s : E0.size = 3 + T.size := by rw [← hE0, ByteArray.size_append]; rfl
        have hc5 : ¬ 9223372036854775807 < (⟨#[58, 47, 47]⟩ : ByteArray).size + T.size := by have : (⟨#[58, 47, 47]⟩ : ByteArray).size = 3 := rfl; omega
        have g0 := glue (a := ⟨#[58, 47, 47]⟩) rfl rfl hE0
        obtain ⟨E1, hE1⟩ : ∃ E : ByteArray, S ++ E0 = E := ⟨_, rfl⟩
        have hE1s : E1.size = 5 + E0.size := by rw [← hE1, ByteArray.size_append, hSs]
        have hc1 : ¬ 9223372036854775807 < S.size + E0.size := by omega
        have g1 := glue gS g0 hE1
        obtain ⟨E2, hE2⟩ : ∃ E : ByteArray, (⟨#[58]⟩ : ByteArray) ++ D = E := ⟨_, rfl⟩
        have hE2s : E2.size = 1 + D.size := by rw [← hE2, ByteArray.size_append]; rfl
        have hc2 : ¬ 9223372036854775807 < (⟨#[58]⟩ : ByteArray).size + D.size := by have : (⟨#[58]⟩ : ByteArray).size = 1 := rfl; omega
        have g2 := glue (a := ⟨#[58]⟩) rfl rfl hE2
        obtain ⟨E3, hE3⟩ : ∃ E : ByteArray, E1 ++ E2 = E := ⟨_, rfl⟩
        have hE3s : E3.size = E1.size + E2.size := by rw [← hE3, ByteArray.size_append]
        have hc3 : ¬ 9223372036854775807 < E1.size + E2.size := by omega
        have g3 := glue g1 g2 hE3
        obtain ⟨E4, hE4⟩ : ∃ E : ByteArray, E3 ++ p = E := ⟨_, rfl⟩
        have hc4 : ¬ 9223372036854775807 < E3.size + p.size := by omega
        have g4 := glue g3 rfl hE4
        have HE : Hid (E4 = t) := Lib.hid (by rw [← mk_bytes E4, ← mk_bytes t, g4, HT2.out]; congr 1; simp [Ur.https])
        clear g0 g1 g4 g2 g3 gS HT2 HTX
        go_enter Tryz.func8, Tryz.ntmps8
        go_wp2_with (refine at_slot 4 rfl ?_; refine load_row rfl 27 _ rfl w.heap.size rfl R0 Tryz.underlying27 rfl HI.out ?_)
        generalize w.alloc (.cells U 27) = w0 at *
        refine (H1.out _).mono ?_
        rintro e v1 ⟨rfl, d1⟩
        have R1 := R0.stays d1
        have B1 := B0.trans (d1.mono B0.size)
        have c0 := (R1.cell 0).trans C0.out
        clear R0 B0 d1
        go_wp2_with (refine at_slot 13 rfl ?_; refine load_part rfl 25 _ rfl w.heap.size 1 18 rfl R1 Tryz.underlying25 rfl infoHost (by rw [HU.out]; decide) X HH.out ?_)
        refine (H2.out _).mono ?_
        rintro e v2 ⟨rfl, d2⟩
        have R2 := R1.stays d2
        have B2 := B1.trans (d2.mono B1.size)
        clear R1 B1 d2 c0
        have c0 := (R2.cell 0).trans C0.out
        have c19 := (R2.cell 19).trans C19.out
        have c20 := (R2.cell 20).trans C20.out
        go_wp2_with fail
        refine (H3.out _).mono ?_
        rintro e v4 ⟨rfl, d4⟩
        have R4 := R2.stays d4
        have B4 := B2.trans (d4.mono B2.size)
        clear c0 c19 c20
        have c20 := (R4.cell 20).trans C20.out
        clear d4
        go_wp2
        go_ret
        exact ⟨ret_str HE.out, B4⟩
end Go.Proofs.YtcookddgaomkiaaGreatDoor
