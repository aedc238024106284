/- The walk of url's Parse. -/
import Derived.Test.YtcookddgaomkiaaGreatDoorUrlParts
import Derived.Test.YtcookddgaomkiaaGreatDoorUrlRow
import Derived.Test.YtcookddgaomkiaaGreatDoorHostParse
namespace Go.Proofs.YtcookddgaomkiaaGreatDoor
open Go.RowKit
/-- A value is built of four parts. -/
theorem build_four {P : Program} {ops : Array Oper} {rest : List Oper} {o : Oper} {a : Act} {w : World} {Q : Exit → Act → World → Prop} (hg : o.guard = none) (t : TypeId) (i0 i1 i2 i3 : Nat) (x0 x1 x2 x3 : Operand) (ho : o.op = .build t #[(i0, x0), (i1, x1), (i2, x2), (i3, x3)])
    (u0 u1 u2 u3 : Value) (h0 : a.eval x0 = u0) (h1 : a.eval x1 = u1) (h2 : a.eval x2 = u2) (h3 : a.eval x3 = u3) (cells : Array Value)
    (hc : P.built t [(i0, u0), (i1, u1), (i2, u2), (i3, u3)] = some cells) (h : wpList P ops Q rest (a.put o.dst (.agg cells)) w) : wpList P ops Q (o :: rest) a w := by
  have e : ((#[(i0, x0), (i1, x1), (i2, x2), (i3, x3)] : Array (Nat × Operand)).map fun (i, x) => (i, a.eval x)).toList = [(i0, u0), (i1, u1), (i2, u2), (i3, u3)] := by simp [h0, h1, h2, h3]
  refine wpList_build hg t #[(i0, x0), (i1, x1), (i2, x2), (i3, x3)] ho ?_ ?_
  · rw [e, hc]; rfl
  · rw [e, hc]; exact h
namespace Ur
theorem parse_none {l : List UInt8} (h : scheme l = none) : parse l = (41, zero) ∧ secure? l = false ∧ rest? l = [] ∧ (scheme l).isSome = false := by
  unfold parse secure? rest?
  rw [h]; exact ⟨rfl, rfl, rfl, rfl⟩
theorem parse_some {l rest : List UInt8} {b : Bool} (h : scheme l = some (b, rest)) : parse l = go b (place rest) (pathOf rest) ∧ secure? l = b ∧ rest? l = rest ∧ (scheme l).isSome = true := by
  unfold parse secure? rest?
  rw [h]; exact ⟨rfl, rfl, rfl, rfl⟩
theorem scheme_length {l rest : List UInt8} {b : Bool} (h : scheme l = some (b, rest)) : rest.length ≤ l.length := by
  unfold scheme at h
  split at h
  · obtain ⟨_, rfl⟩ := Prod.mk.inj (Option.some.inj h)
    rw [List.length_drop]; omega
  · split at h
    · obtain ⟨_, rfl⟩ := Prod.mk.inj (Option.some.inj h)
      rw [List.length_drop]; omega
    · cases h
theorem go_host_length (b : Bool) (pl p : List UInt8) : (go b pl p).2.host.addr.length = 16 := by
  unfold go
  have hx := Hst.parse_length (pl.take (endOf pl))
  cases e : Hst.parse (pl.take (endOf pl)) with
  | none => rfl
  | some h =>
    rw [e] at hx
    dsimp only
    split
    · rfl
    · split
      · rfl
      · split
        · exact hx
        · rfl
theorem parse_host_length (l : List UInt8) : (parse l).2.host.addr.length = 16 := by
  unfold parse
  split
  · rfl
  · exact go_host_length _ _ _
theorem go_host {b : Bool} {pl p : List UInt8} (h : Hst.parse (pl.take (endOf pl)) = none) : go b pl p = (31, zero) := by
  unfold go
  rw [h]
theorem go_stray {b : Bool} {pl p : List UInt8} (h : strayB (pl.drop (endOf pl)) = true) : go b pl p = (31, zero) := by
  unfold go
  split
  · rfl
  · rw [if_pos (of_decide_eq_true h)]
theorem go_port {b : Bool} {pl p : List UInt8} {x : Hst.Host} (hx : Hst.parse (pl.take (endOf pl)) = some x) (h : strayB (pl.drop (endOf pl)) = false) (hp : (portOf b (pl.drop (endOf pl))).isSome = false) : go b pl p = (42, zero) := by
  unfold go
  rw [hx]
  dsimp only
  rw [if_neg (of_decide_eq_false h)]
  cases e : portOf b (pl.drop (endOf pl)) with
  | none => rfl
  | some n => rw [e] at hp; cases hp
theorem go_yes {b : Bool} {pl p : List UInt8} {x : Hst.Host} (hx : Hst.parse (pl.take (endOf pl)) = some x) (h : strayB (pl.drop (endOf pl)) = false) (hp : (portOf b (pl.drop (endOf pl))).isSome = true) (hq : isPath p = true) : go b pl p = (0, ⟨b, x, (portOf b (pl.drop (endOf pl))).getD 0, p⟩) := by
  unfold go
  rw [hx]
  dsimp only
  rw [if_neg (of_decide_eq_false h)]
  cases e : portOf b (pl.drop (endOf pl)) with
  | none => rw [e] at hp; cases hp
  | some n => dsimp only; rw [if_pos hq]; rfl
theorem go_no {b : Bool} {pl p : List UInt8} {x : Hst.Host} (hx : Hst.parse (pl.take (endOf pl)) = some x) (h : strayB (pl.drop (endOf pl)) = false) (hp : (portOf b (pl.drop (endOf pl))).isSome = true) (hq : isPath p = false) : go b pl p = (43, zero) := by
  unfold go
  rw [hx]
  dsimp only
  rw [if_neg (of_decide_eq_false h)]
  cases e : portOf b (pl.drop (endOf pl)) with
  | none => rw [e] at hp; cases hp
  | some n => dsimp only; rw [if_neg (by rw [hq]; simp)]
end Ur
set_option maxRecDepth 100000 in
set_option maxHeartbeats 8000000 in
theorem urlParse_calls (s : ByteArray) (w : World) (hw : Std w) (hs : s.size ≤ 1048576) :
    Calls Tryz.prog 9 #[.string s] w (NewURL (Ur.parse s.data.toList) w) := by
  have z0 := zeroURL
  have z1 := zeroHost
  have HZ := Lib.hid (show (urlA Ur.zero).size = 21 from rfl)
  have H1 := Lib.hid (fun W => scheme_calls s W (by unfold maxLen; omega))
  have hl := Oct.length_bytes s
  have HPost : Hid (∀ o w', Ur.parse s.data.toList = o → Below w.heap.size w w' → NewURL (Ur.parse s.data.toList) w (.returned (.tuple #[.agg (urlA o.2), .int .i64 o.1])) w') := Lib.hid (fun o w' h hb => by subst h; exact ⟨rfl, hb⟩)
  generalize NewURL (Ur.parse s.data.toList) w = post at *
  cases hsc : Ur.scheme s.data.toList with
  | none =>
    obtain ⟨p1, p2, p3, p4⟩ := Ur.parse_none hsc
    rw [p2, p3, p4] at H1
    have HP := Lib.hid p1
    clear hsc p1 p2 p3 p4 hl
    go_enter Tryz.func9, Tryz.ntmps9
    go_wp2_with fail
    have R0 := Row.new w 27 (urlA Ur.zero)
    have B0 := (Below.refl w.heap.size w).alloc (Nat.le_refl _) (.cells (urlA Ur.zero) 27)
    generalize w.alloc (.cells (urlA Ur.zero) 27) = w0 at *
    refine (H1.out _).mono ?_
    rintro e v1 ⟨rfl, d1⟩
    have R1 := R0.stays d1
    have B1 := B0.trans (d1.mono B0.size)
    go_wp2_with (first
      | (refine wpList_store_row rfl 27 _ _ rfl w.heap.size (urlA Ur.zero) rfl rfl 27 _ R1 (by rw [HZ.out]; exact infoURL) rfl (urlA_one _) ?_))
    exact bodyPost_ret (v := .tuple #[.agg (urlA Ur.zero), .int .i64 41]) (results_cell_two rfl _ _ w.heap.size _ _ _ rfl _ rfl (R1.whole _) Tryz.underlying27 rfl (by rw [HZ.out]; exact infoURL)) rfl (HPost.out _ _ HP.out (below_setRow B1 (Nat.le_refl _) _))
  | some br =>
    obtain ⟨b, rest⟩ := br
    obtain ⟨p1, p2, p3, p4⟩ := Ur.parse_some hsc
    have hrl := Ur.scheme_length hsc
    rw [p2, p3, p4] at H1
    rw [p1] at HPost
    clear hsc p1 p2 p3 p4
    rw [hl] at hrl
    obtain ⟨r, hr⟩ : ∃ r : ByteArray, (⟨rest.toArray⟩ : ByteArray) = r := ⟨_, rfl⟩
    have hrd : r.data.toList = rest := by rw [← hr]
    have hrs : r.size ≤ 1048576 := by rw [← Oct.length_bytes, hrd]; omega
    rw [hr] at H1
    have H2 := fun W => ahead_calls r ⟨#[47, 63, 35]⟩ W (by show 1 ≤ 3; omega) (by show 3 ≤ 1000; omega) (by decide) (by omega)
    have e2 : (⟨#[47, 63, 35]⟩ : ByteArray).data.toList = [47, 63, 35] := rfl
    rw [e2, hrd] at H2
    change ∀ W, Calls Tryz.prog 20 #[.string r, .string ⟨#[47, 63, 35]⟩] W fun e w' => e = .returned (.tuple #[.string ⟨(Ur.place rest).toArray⟩, .string ⟨(Ur.behind rest).toArray⟩]) ∧ Below W.heap.size W w' at H2
    have hpl : (Ur.place rest).length ≤ 1048576 := by unfold Ur.place; rw [List.length_take]; omega
    have hbl : (Ur.behind rest).length ≤ 1048576 := by unfold Ur.behind; rw [List.length_drop]; omega
    obtain ⟨path, hpath⟩ : ∃ p, Ur.pathOf rest = p := ⟨_, rfl⟩
    have hpo : path = if Ur.raw rest = [] then [47] else Ur.raw rest := hpath.symm
    rw [hpath] at HPost
    obtain ⟨bh, hbh⟩ : ∃ x : ByteArray, (⟨(Ur.behind rest).toArray⟩ : ByteArray) = x := ⟨_, rfl⟩
    have hbd : bh.data.toList = Ur.behind rest := by rw [← hbh]
    have hbs : bh.size ≤ 1048576 := by rw [← Oct.length_bytes, hbd]; omega
    have H7 := fun W => ahead_calls bh ⟨#[63, 35]⟩ W (by show 1 ≤ 2; omega) (by show 2 ≤ 1000; omega) (by decide) (by omega)
    have e7 : (⟨#[63, 35]⟩ : ByteArray).data.toList = [63, 35] := rfl
    rw [e7, hbd] at H7
    change ∀ W, Calls Tryz.prog 20 #[.string bh, .string ⟨#[63, 35]⟩] W fun e w' => e = .returned (.tuple #[.string ⟨(Ur.raw rest).toArray⟩, .string ⟨((Ur.behind rest).drop (Ur.find (Ur.behind rest) [63, 35])).toArray⟩]) ∧ Below W.heap.size W w' at H7
    obtain ⟨pl, hplb⟩ : ∃ x : ByteArray, (⟨(Ur.place rest).toArray⟩ : ByteArray) = x := ⟨_, rfl⟩
    have hpd : pl.data.toList = Ur.place rest := by rw [← hplb]
    have hps : pl.size ≤ 1048576 := by rw [← Oct.length_bytes, hpd]; exact hpl
    rw [hplb, hbh] at H2
    generalize (⟨((Ur.behind rest).drop (Ur.find (Ur.behind rest) [63, 35])).toArray⟩ : ByteArray) = junk at *
    obtain ⟨rw_, hrw⟩ : ∃ x : ByteArray, (⟨(Ur.raw rest).toArray⟩ : ByteArray) = x := ⟨_, rfl⟩
    have hrwd : rw_.data.toList = Ur.raw rest := by rw [← hrw]
    rw [hrw] at H7
    rw [← hrwd] at hpo
    have H3 := fun W h => place_calls pl W h hps
    rw [hpd] at H3
    generalize Ur.place rest = P at *
    have hnl : (P.take (Ur.endOf P)).length ≤ 1048576 := by rw [List.length_take]; omega
    have hdl : (P.drop (Ur.endOf P)).length ≤ 1048576 := by rw [List.length_drop]; omega
    obtain ⟨nm, hnm⟩ : ∃ x : ByteArray, (⟨(P.take (Ur.endOf P)).toArray⟩ : ByteArray) = x := ⟨_, rfl⟩
    have hnd : nm.data.toList = P.take (Ur.endOf P) := by rw [← hnm]
    have hns : nm.size ≤ 1048576 := by rw [← Oct.length_bytes, hnd]; exact hnl
    obtain ⟨b2, hb2⟩ : ∃ x : ByteArray, (⟨(P.drop (Ur.endOf P)).toArray⟩ : ByteArray) = x := ⟨_, rfl⟩
    have hbd2 : b2.data.toList = P.drop (Ur.endOf P) := by rw [← hb2]
    have hbs2 : b2.size ≤ 1048576 := by rw [← Oct.length_bytes, hbd2]; exact hdl
    rw [hnm, hb2] at H3
    have H4 := fun W h => (parse_calls nm W h hns).mono fun e w' h => newHost_is h
    rw [hnd] at H4
    have hx := Hst.parse_length (P.take (Ur.endOf P))
    have G1 := fun h => Ur.go_host (b := b) (pl := P) (p := path) h
    have G2 := Ur.go_stray (b := b) (pl := P) (p := path)
    have G3 := fun x => Ur.go_port (b := b) (pl := P) (p := path) (x := x)
    have G4 := fun x => Ur.go_yes (b := b) (pl := P) (p := path) (x := x)
    have G5 := fun x => Ur.go_no (b := b) (pl := P) (p := path) (x := x)
    have H5 := fun W => stray_calls b2 W
    have H6 := fun W h => port_calls b2 b W hbs2 h
    rw [hbd2] at H5 H6
    generalize Ur.portOf b (P.drop (Ur.endOf P)) = po at *
    generalize Ur.strayB (P.drop (Ur.endOf P)) = st at *
    generalize Ur.go b P path = res at *
    have H2 := Lib.hid H2
    have H3 := Lib.hid H3
    have H5 := Lib.hid H5
    have H6 := Lib.hid H6
    have H7 := Lib.hid H7
    have HPo := Lib.hid hpo
    have G2 := Lib.hid G2
    clear hpo hrl hl hr hrd hrs hplb hpd hps hbh hbd hbs hrw hrwd hnm hnd hns hb2 hbd2 hbs2 hnl hdl hpl hbl hpath e2 e7
    cases ho : Hst.parse (P.take (Ur.endOf P)) with
    | none =>
      rw [ho] at H4
      have e1 : Hst.host none = Hst.zero := rfl
      have e3 : Hst.code none = 31 := rfl
      rw [e1, e3] at H4
      have H4 := Lib.hid H4
      have HP := Lib.hid (G1 ho)
      have HX := Lib.hid (show (hostA Hst.zero).size = 18 from rfl)
      clear G1 G3 G4 G5 ho hx e1 e3
      go_enter Tryz.func9, Tryz.ntmps9
      go_wp2_with fail
      have R0 := Row.new w 27 (urlA Ur.zero)
      have B0 := (Below.refl w.heap.size w).alloc (Nat.le_refl _) (.cells (urlA Ur.zero) 27)
      generalize w.alloc (.cells (urlA Ur.zero) 27) = w0 at *
      refine (H1.out _).mono ?_
      rintro e v1 ⟨rfl, d1⟩
      have R1 := R0.stays d1
      have B1 := B0.trans (d1.mono B0.size)
      go_wp2_with fail
      refine (H2.out _).mono ?_
      rintro e v2 ⟨rfl, d2⟩
      have R2 := R1.stays d2
      have B2 := B1.trans (d2.mono B1.size)
      go_wp2_with fail
      refine (H3.out _ (hw.below B2)).mono ?_
      rintro e v3 ⟨rfl, d3⟩
      have R3 := R2.stays d3
      have B3 := B2.trans (d3.mono B2.size)
      go_wp2_with fail
      refine (H4.out _ (hw.below B3)).mono ?_
      rintro e v4 ⟨rfl, d4⟩
      have R4 := R3.stays d4
      have B4 := B3.trans (d4.mono B3.size)
      obtain ⟨T, U, C, L⟩ := lay_row 25 (hostA Hst.zero) (hostA Hst.zero) B4 B4.size
      have R5 := L _ _ _ R4
      clear d1 d2 d3 d4 B0 B1 B2 B3 B4 R0 R1 R2 R3 R4 L
      go_wp2_with (first
        | (refine wpList_store_row rfl 25 _ _ rfl v4.heap.size (hostA Hst.zero) rfl rfl 25 _ T (by rw [HX.out]; exact infoHost) rfl (hostA_one _) ?_)
        | (refine wpList_store_row rfl 27 _ _ rfl w.heap.size (urlA Ur.zero) rfl rfl 27 _ R5 (by rw [HZ.out]; exact infoURL) rfl (urlA_one _) ?_))
      exact bodyPost_ret (v := .tuple #[.agg (urlA Ur.zero), .int .i64 31]) (results_cell_two rfl _ _ w.heap.size _ _ _ rfl _ rfl (R5.whole _) Tryz.underlying27 rfl (by rw [HZ.out]; exact infoURL)) rfl (HPost.out _ _ HP.out (below_setRow C (Nat.le_refl _) _))
    | some h =>
      rw [ho] at H4 hx
      have e1 : Hst.host (some h) = h := rfl
      have e3 : Hst.code (some h) = 0 := rfl
      rw [e1, e3] at H4
      rw [e1] at hx
      have H4 := Lib.hid H4
      have G3 := Lib.hid (G3 h ho)
      have G4 := Lib.hid (G4 h ho)
      have G5 := Lib.hid (G5 h ho)
      have HX := Lib.hid (hostA_size h hx)
      have HX1 := Lib.hid (hostA_one h)
      have HBu := Lib.hid (fun n s => built_url b h hx n s)
      have HUS := Lib.hid (fun n p => urlA_size ⟨b, h, n, p⟩ hx)
      clear G1 ho e1 e3 hx
      generalize hX : hostA h = X at *
      go_enter Tryz.func9, Tryz.ntmps9
      go_wp2_with fail
      have R0 := Row.new w 27 (urlA Ur.zero)
      have B0 := (Below.refl w.heap.size w).alloc (Nat.le_refl _) (.cells (urlA Ur.zero) 27)
      generalize w.alloc (.cells (urlA Ur.zero) 27) = w0 at *
      refine (H1.out _).mono ?_
      rintro e v1 ⟨rfl, d1⟩
      have R1 := R0.stays d1
      have B1 := B0.trans (d1.mono B0.size)
      go_wp2_with fail
      refine (H2.out _).mono ?_
      rintro e v2 ⟨rfl, d2⟩
      have R2 := R1.stays d2
      have B2 := B1.trans (d2.mono B1.size)
      go_wp2_with fail
      refine (H3.out _ (hw.below B2)).mono ?_
      rintro e v3 ⟨rfl, d3⟩
      have R3 := R2.stays d3
      have B3 := B2.trans (d3.mono B2.size)
      go_wp2_with fail
      refine (H4.out _ (hw.below B3)).mono ?_
      rintro e v4 ⟨rfl, d4⟩
      have R4 := R3.stays d4
      have B4 := B3.trans (d4.mono B3.size)
      obtain ⟨T, U, C, L⟩ := lay_row 25 (hostA Hst.zero) X B4 B4.size
      have R5 := L _ _ _ R4
      clear d1 d2 d3 d4 B0 B1 B2 B3 B4 R0 R1 R2 R3 R4 L
      go_wp2_with (first
        | (refine wpList_store_row rfl 25 _ _ rfl v4.heap.size X rfl rfl 25 _ T (by rw [HX.out]; exact infoHost) (by rw [HX.out]; rfl) HX1.out ?_))
      generalize (v4.alloc (.cells (hostA Hst.zero) 25)).setRow v4.heap.size X = v5 at *
      generalize v4.heap.size = g4 at *
      clear T
      refine (H5.out _).mono ?_
      rintro e v6 ⟨rfl, rfl⟩
      cases st with
      | true =>
        go_wp2_with (first
          | (refine wpList_store_row rfl 27 _ _ rfl w.heap.size (urlA Ur.zero) rfl rfl 27 _ R5 (by rw [HZ.out]; exact infoURL) rfl (urlA_one _) ?_))
        exact bodyPost_ret (v := .tuple #[.agg (urlA Ur.zero), .int .i64 31]) (results_cell_two rfl _ _ w.heap.size _ _ _ rfl _ rfl (R5.whole _) Tryz.underlying27 rfl (by rw [HZ.out]; exact infoURL)) rfl (HPost.out _ _ (G2.out (by trivial)) (below_setRow C (Nat.le_refl _) _))
      | false =>
        have H6b := Lib.hid (fun W => H6.out W (by trivial))
        clear H6
        obtain ⟨ok, hok⟩ : ∃ ok, po.isSome = ok := ⟨_, rfl⟩
        rw [hok] at H6b
        go_wp2_with fail
        refine (H6b.out _).mono ?_
        rintro e v7 ⟨rfl, rfl⟩
        cases ok with
        | false =>
          go_wp2_with (first
            | (refine wpList_store_row rfl 27 _ _ rfl w.heap.size (urlA Ur.zero) rfl rfl 27 _ R5 (by rw [HZ.out]; exact infoURL) rfl (urlA_one _) ?_))
          exact bodyPost_ret (v := .tuple #[.agg (urlA Ur.zero), .int .i64 42]) (results_cell_two rfl _ _ w.heap.size _ _ _ rfl _ rfl (R5.whole _) Tryz.underlying27 rfl (by rw [HZ.out]; exact infoURL)) rfl (HPost.out _ _ (G3.out (by trivial) hok) (below_setRow C (Nat.le_refl _) _))
        | true =>
          have HOK := Lib.hid hok
          clear hok
          generalize po.getD 0 = n at *
          go_wp2_with fail
          refine (H7.out _).mono ?_
          rintro e v8 ⟨rfl, d8⟩
          have R6 := R5.stays d8
          have U6 := U.stays d8
          have C6 := C.trans (d8.mono C.size)
          clear R5 U C d8
          obtain ⟨q, hq⟩ : ∃ q, rw_.toList.isEmpty = q := ⟨_, rfl⟩
          have hqq : rw_.data.toList = [] ↔ q = true := by
            rw [← hq, Oct.bytes_data]
            cases rw_.data.toList <;> simp
          cases q with
          | true =>
            have HPa : Hid (path = [47]) := Lib.hid (by rw [HPo.out, if_pos (hqq.2 rfl)])
            have H8 := Lib.hid (fun W => path_calls ⟨#[47]⟩ W)
            have e8 : (⟨#[47]⟩ : ByteArray).data.toList = [47] := rfl
            have e9 : Ur.isPath [47] = true := rfl
            rw [e8, e9] at H8
            have HR : Hid (res = (0, ⟨b, h, n, [47]⟩)) := Lib.hid (by rw [G4.out (by trivial) HOK.out (by rw [HPa.out]; rfl), HPa.out])
            have HBn : Hid (Tryz.prog.built 27 [(0, .bool b), (1, .agg X), (2, .int .i64 n), (3, .string ⟨#[47]⟩)] = some (urlA ⟨b, h, n, [47]⟩)) := Lib.hid (HBu.out n ⟨#[47]⟩)
            clear hqq e8 e9
            go_wp2_with fail
            refine (H8.out _).mono ?_
            rintro e v9 ⟨rfl, rfl⟩
            go_wp2_with (first
              | (refine at_slot 67 rfl ?_; refine load_row rfl 25 _ rfl g4 rfl U6 Tryz.underlying25 rfl (by rw [HX.out]; exact infoHost) ?_)
              | (refine at_slot 70 rfl ?_; refine build_four rfl 27 0 1 2 3 _ _ _ _ rfl _ _ _ _ rfl rfl rfl rfl (urlA ⟨b, h, n, [47]⟩) HBn.out ?_)
              | (refine wpList_store_row rfl 27 _ _ rfl w.heap.size (urlA ⟨b, h, n, [47]⟩) rfl rfl 27 _ R6 (by rw [HUS.out n [47]]; exact infoURL) (by rw [HUS.out n [47]]; rfl) (urlA_one _) ?_))
            exact bodyPost_ret (v := .tuple #[.agg (urlA ⟨b, h, n, [47]⟩), .int .i64 0]) (results_cell_two rfl _ _ w.heap.size _ _ _ rfl _ rfl (R6.whole _) Tryz.underlying27 rfl (by rw [HUS.out n [47]]; exact infoURL)) rfl (HPost.out _ _ HR.out (below_setRow C6 (Nat.le_refl _) _))
          | false =>
            have HPa : Hid (path = rw_.data.toList) := Lib.hid (by rw [HPo.out, if_neg (fun k => by have := hqq.1 k; cases this)])
            have H8 := Lib.hid (fun W => path_calls rw_ W)
            have HBn := Lib.hid (HBu.out n rw_)
            have HUn := Lib.hid (HUS.out n rw_.data.toList)
            cases hok : Ur.isPath rw_.data.toList with
            | true =>
              rw [hok] at H8
              have HR : Hid (res = (0, ⟨b, h, n, rw_.data.toList⟩)) := Lib.hid (by rw [G4.out (by trivial) HOK.out (by rw [HPa.out]; exact hok), HPa.out])
              clear hqq hok
              generalize rw_.data.toList = pb at *
              go_wp2_with fail
              refine (H8.out _).mono ?_
              rintro e v9 ⟨rfl, rfl⟩
              go_wp2_with (first
                | (refine at_slot 67 rfl ?_; refine load_row rfl 25 _ rfl g4 rfl U6 Tryz.underlying25 rfl (by rw [HX.out]; exact infoHost) ?_)
                | (refine at_slot 70 rfl ?_; refine build_four rfl 27 0 1 2 3 _ _ _ _ rfl _ _ _ _ rfl rfl rfl rfl (urlA ⟨b, h, n, pb⟩) HBn.out ?_)
                | (refine wpList_store_row rfl 27 _ _ rfl w.heap.size (urlA ⟨b, h, n, pb⟩) rfl rfl 27 _ R6 (by rw [HUn.out]; exact infoURL) (by rw [HUn.out]; rfl) (urlA_one _) ?_))
              exact bodyPost_ret (v := .tuple #[.agg (urlA ⟨b, h, n, pb⟩), .int .i64 0]) (results_cell_two rfl _ _ w.heap.size _ _ _ rfl _ rfl (R6.whole _) Tryz.underlying27 rfl (by rw [HUn.out]; exact infoURL)) rfl (HPost.out _ _ HR.out (below_setRow C6 (Nat.le_refl _) _))
            | false =>
              rw [hok] at H8
              have HR : Hid (res = (43, Ur.zero)) := Lib.hid (G5.out (by trivial) HOK.out (by rw [HPa.out]; exact hok))
              clear hqq hok
              go_wp2_with fail
              refine (H8.out _).mono ?_
              rintro e v9 ⟨rfl, rfl⟩
              go_wp2_with (first
                | (refine wpList_store_row rfl 27 _ _ rfl w.heap.size (urlA Ur.zero) rfl rfl 27 _ R6 (by rw [HZ.out]; exact infoURL) rfl (urlA_one _) ?_))
              exact bodyPost_ret (v := .tuple #[.agg (urlA Ur.zero), .int .i64 43]) (results_cell_two rfl _ _ w.heap.size _ _ _ rfl _ rfl (R6.whole _) Tryz.underlying27 rfl (by rw [HZ.out]; exact infoURL)) rfl (HPost.out _ _ HR.out (below_setRow C6 (Nat.le_refl _) _))
end Go.Proofs.YtcookddgaomkiaaGreatDoor
