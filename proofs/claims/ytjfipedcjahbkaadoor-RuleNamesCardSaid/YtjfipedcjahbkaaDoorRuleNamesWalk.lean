/- The walk of the law RuleNames. -/
import Derived.Test.YtjfipedcjahbkaaDoorRuleOnceWalk
namespace Go.Proofs.YtjfipedcjahbkaaDoor
open Go.RowKit
/-- A value is built of three parts, guarded or not, where it runs. -/
theorem build_three_g {P : Program} {ops : Array Oper} {rest : List Oper} {o : Oper} {a : Act} {w : World} {Q : Exit → Act → World → Prop} (hw : Region.wanted o (yielded ops a.tmps) = true) (t : TypeId) (i0 i1 i2 : Nat) (x0 x1 x2 : Operand) (ho : o.op = .build t #[(i0, x0), (i1, x1), (i2, x2)])
    (u0 u1 u2 : Value) (h0 : a.eval x0 = u0) (h1 : a.eval x1 = u1) (h2 : a.eval x2 = u2) (cells : Array Value)
    (hc : P.built t [(i0, u0), (i1, u1), (i2, u2)] = some cells) (h : wpList P ops Q rest (a.put o.dst (.agg cells)) w) : wpList P ops Q (o :: rest) a w := by
  have e : ((#[(i0, x0), (i1, x1), (i2, x2)] : Array (Nat × Operand)).map fun (i, x) => (i, a.eval x)).toList = [(i0, u0), (i1, u1), (i2, u2)] := by simp [h0, h1, h2]
  refine wpList_step fun K hK => ?_
  simp only [hw, if_true]
  refine wp_build t #[(i0, x0), (i1, x1), (i2, x2)] ho ?_ (hK _ _ ?_)
  · rw [e, hc]; rfl
  · rw [e, hc]; exact h
namespace Ru
/-- One of the names that are put together: the i-th. -/
def nth (i : Nat) : Rule := ⟨1, [97, UInt8.ofNat (97 + i / 26), UInt8.ofNat (97 + i % 26)]⟩
def upto (k : Nat) : List Rule := (List.range k).map nth
def canB (r : Rule) : Bool := (r.kind == 1) && (decide (r.name.length ≤ 253) && ((Oct.split 46 r.name).all Hst.lab && ((Oct.digits (Hst.last r.name) == false) && decide (r.name.map Oct.low = r.name))))
theorem canB_can {r : Rule} (h : canB r = true) : Can r := by
  unfold canB at h
  simp only [Bool.and_eq_true, beq_iff_eq, decide_eq_true_eq] at h
  obtain ⟨h1, h2, h3, h4, h5⟩ := h
  exact ⟨.inl h1, ⟨h2, h3, h4, h5⟩, fun e => by rw [h1] at e; cases e⟩
theorem upto_can : (upto 201).all canB = true := by decide +kernel
theorem upto_once : (upto 201).Nodup := by decide +kernel
theorem upto_split : upto 201 = upto 200 ++ [nth 200] := by
  unfold upto
  rw [show 201 = 200 + 1 by rfl, List.range_succ, List.map_append]; rfl
theorem upto_rules : Rules (upto 200) := by
  refine ⟨fun r hr => canB_can (List.all_eq_true.1 upto_can r (by rw [upto_split]; exact List.mem_append_left _ hr)), ?_, by simp [upto]⟩
  have h := upto_once
  rw [upto_split, List.nodup_append] at h
  exact h.1
theorem upto_length (k : Nat) : (upto k).length = k := by simp [upto]
theorem texts_upto : ∀ k : Nat, (texts (upto k)).length = 4 * k
  | 0 => rfl
  | k + 1 => by
    have ih := texts_upto k
    have e : upto (k + 1) = upto k ++ [nth k] := by unfold upto; rw [List.range_succ, List.map_append]; rfl
    rw [e, texts_snoc, List.length_append, ih, List.length_append]
    have : (text (nth k)).length = 3 := by unfold text nth; rw [if_neg (by show ¬ (1 : Int) = 3; decide), if_neg (by show ¬ (1 : Int) = 2; decide)]; rfl
    rw [this]
    simp only [List.length_cons, List.length_nil]
    omega
theorem upto_step (k : Nat) : texts (upto (k + 1)) = texts (upto k) ++ [97, UInt8.ofNat (97 + k / 26), UInt8.ofNat (97 + k % 26), 10] := by
  have e : upto (k + 1) = upto k ++ [nth k] := by unfold upto; rw [List.range_succ, List.map_append]; rfl
  have e2 : text (nth k) = [97, UInt8.ofNat (97 + k / 26), UInt8.ofNat (97 + k % 26)] := by unfold text nth; rw [if_neg (by show ¬ (1 : Int) = 3; decide), if_neg (by show ¬ (1 : Int) = 2; decide)]
  rw [e, texts_snoc, e2]; rfl
theorem few_file : file (texts (upto 200)) = (fine, upto 200) := file_texts upto_rules (by rw [texts_upto]; omega)
theorem many_file : file (texts (upto 201)) = (⟨53, 201, 1⟩, []) := by
  have hc : ∀ r ∈ upto 201, Can r := fun r hr => canB_can (List.all_eq_true.1 upto_can r hr)
  have h200 : Can (nth 200) := hc _ (by rw [upto_split]; simp)
  have hn : nth 200 ∉ upto 200 := by
    have h := upto_once
    rw [upto_split, List.nodup_append] at h
    exact fun hm => h.2.2 _ hm _ (by simp) rfl
  unfold file
  rw [if_neg (by rw [texts_upto]; omega), lines_texts hc, upto_split, List.map_append, List.map_singleton, go_texts [text (nth 200)] (upto 200) 0 [] upto_rules.can (by simpa using upto_rules.once) (by rw [upto_length]; simp)]
  rw [List.nil_append, go_step, (why_text h200 (upto 200)).1]
  have hw : whyNot (upto 200) (nth 200) = 53 := by unfold whyNot; rw [if_neg hn, if_pos (by rw [upto_length]; omega)]
  rw [hw, if_neg (by decide), col_text h200, upto_length]; rfl
theorem ex3 : file [99, 111, 109, 10, 32, 32, 33, 99, 107] = (⟨51, 2, 3⟩, []) := by decide +kernel
theorem ex4 : file [99, 111, 109, 10, 10, 47, 47, 120, 10, 99, 111, 109] = (⟨52, 4, 1⟩, []) := by decide +kernel
end Ru
theorem two_string (W : World) (c d : UInt8) : (convert 28 9 (.slice (some ⟨W.heap.size, 0, none⟩) 2 2)).run Tryd.prog (W.alloc (.cells #[.int .u8 (c.toNat : Int), .int .u8 (d.toNat : Int)] 5)) = .ok (.string ⟨#[c, d]⟩) (W.alloc (.cells #[.int .u8 (c.toNat : Int), .int .u8 (d.toNat : Int)] 5)) := by
  refine run_convert_bytes_back (W.alloc (.cells #[.int .u8 (c.toNat : Int), .int .u8 (d.toNat : Int)] 5)) 28 9 5 ⟨W.heap.size, 0, none⟩ 2 [c, d] Tryd.underlying28 Tryd.underlying5 Tryd.underlying9 (fun j hj => ?_)
  rw [own_add, (Row.new W 5 #[.int .u8 (c.toNat : Int), .int .u8 (d.toNat : Int)]).cell]
  match j, hj with
  | 0, _ => rfl
  | 1, _ => rfl
set_option maxRecDepth 100000 in
set_option maxHeartbeats 16000000 in
theorem rnames_walk (w : World) (hw : Std w) : Calls Tryd.prog 3 #[] w fun e w' => e = .returned (.bool true) ∧ Below w.heap.size w w' := by
  have HA := Lib.hid rule_alive
  have z1 := zeroFault
  have H1 := Lib.hid (fun W hW => fileR_is ⟨#[99, 111, 109, 10, 32, 32, 33, 99, 107]⟩ rfl Ru.ex3 (by decide) W hW)
  have H2 := Lib.hid (fun W hW => fileR_is ⟨#[99, 111, 109, 10, 10, 47, 47, 120, 10, 99, 111, 109]⟩ rfl Ru.ex4 (by decide) W hW)
  have hs201 : (⟨(Ru.texts (Ru.upto 201)).toArray⟩ : ByteArray).size = 804 := by rw [list_size, Ru.texts_upto]
  have H3 := fun W hW => fileR_is ⟨(Ru.texts (Ru.upto 201)).toArray⟩ rfl Ru.many_file (by rw [hs201]; omega) W hW
  have hcut : (⟨(Ru.texts (Ru.upto 201)).toArray⟩ : ByteArray).extract 0 800 = ⟨(Ru.texts (Ru.upto 200)).toArray⟩ := by
    rw [extract_take]
    show (⟨((Ru.texts (Ru.upto 201)).take 800).toArray⟩ : ByteArray) = _
    rw [Ru.upto_step 200, List.take_append_of_le_length (by rw [Ru.texts_upto]; omega), List.take_of_length_le (by rw [Ru.texts_upto]; omega)]
  have H4 := fun W hW => fileR_is ((⟨(Ru.texts (Ru.upto 201)).toArray⟩ : ByteArray).extract 0 800) (l := Ru.texts (Ru.upto 200)) (by rw [hcut]) Ru.few_file (by rw [hcut, list_size, Ru.texts_upto]; omega) W hW
  have hl200 : (Ru.upto 200).length = 200 := Ru.upto_length 200
  generalize Ru.upto 200 = rs at *
  obtain ⟨X, hX⟩ : ∃ X : ByteArray, X = ⟨(Ru.texts (Ru.upto 201)).toArray⟩ := ⟨_, rfl⟩
  rw [← hX] at hs201 H3 H4
  have HX := Lib.hid hX
  have hX8 : (800 : Int) ≤ (X.size : Int) := by rw [hs201]; omega
  have H3 := Lib.hid H3
  have H4 := Lib.hid H4
  have HL := Lib.hid hl200
  clear hcut hl200 hX hs201
  have q1 := eql_fault ⟨51, 2, 3⟩ ⟨51, 2, 3⟩
  have q2 := eql_fault ⟨52, 4, 1⟩ ⟨52, 4, 1⟩
  have q3 := eql_fault ⟨53, 201, 1⟩ ⟨53, 201, 1⟩
  have q4 := eql_fault Ru.fine Ru.fine
  rw [decide_eq_true rfl] at q1 q2 q3 q4
  have HB1 := Lib.hid (built_fault 51 2 3)
  have HB2 := Lib.hid (built_fault 52 4 1)
  have HB3 := Lib.hid (built_fault 53 201 1)
  have HO1 := Lib.hid (faultA_one ⟨51, 2, 3⟩)
  have HO2 := Lib.hid (faultA_one ⟨52, 4, 1⟩)
  have HO3 := Lib.hid (faultA_one ⟨53, 201, 1⟩)
  have HI1 : Hid ((Tryd.prog.info? 25).map (·.size) = some (faultA ⟨51, 2, 3⟩).size) := Lib.hid infoFault
  have HI2 : Hid ((Tryd.prog.info? 25).map (·.size) = some (faultA ⟨52, 4, 1⟩).size) := Lib.hid infoFault
  have HI3 : Hid ((Tryd.prog.info? 25).map (·.size) = some (faultA ⟨53, 201, 1⟩).size) := Lib.hid infoFault
  have HZ1 : Hid ((faultA Ru.fine).size = (faultA ⟨51, 2, 3⟩).size) := Lib.hid rfl
  have HZ2 : Hid ((faultA Ru.fine).size = (faultA ⟨52, 4, 1⟩).size) := Lib.hid rfl
  have HZ3 : Hid ((faultA Ru.fine).size = (faultA ⟨53, 201, 1⟩).size) := Lib.hid rfl
  generalize faultA ⟨51, 2, 3⟩ = F1 at *
  generalize faultA ⟨52, 4, 1⟩ = F2 at *
  generalize faultA ⟨53, 201, 1⟩ = F3 at *
  go_enter Tryd.func3, Tryd.ntmps3
  go_wp2_with fail
  refine (H1.out _ hw).mono ?_
  rintro e v1 ⟨a1, rfl, _, d1⟩
  obtain ⟨T1, U1, C1, _⟩ := lay_row 25 (faultA Ru.fine) F1 d1 d1.size
  go_wp2_with (first
    | (refine wpList_store_row rfl 25 _ _ rfl v1.heap.size F1 rfl rfl 25 _ T1 HI1.out HZ1.out HO1.out ?_))
  generalize (v1.alloc (.cells (faultA Ru.fine) 25)).setRow v1.heap.size F1 = x1 at *
  generalize v1.heap.size = g1 at *
  clear T1 d1 H1
  refine (H2.out _ (hw.below C1)).mono ?_
  rintro e v2 ⟨a2, rfl, _, d2⟩
  have B2 := C1.trans (d2.mono C1.size)
  have P1 := U1.stays d2
  obtain ⟨T2, U2, C2, L2⟩ := lay_row 25 (faultA Ru.fine) F2 B2 B2.size
  have P2 := L2 _ _ _ P1
  clear L2 P1 U1 C1 B2 d2 H2
  go_wp2_with (first
    | (refine wpList_store_row rfl 25 _ _ rfl v2.heap.size F2 rfl rfl 25 _ T2 HI2.out HZ2.out HO2.out ?_))
  generalize (v2.alloc (.cells (faultA Ru.fine) 25)).setRow v2.heap.size F2 = x2 at *
  generalize v2.heap.size = g2 at *
  clear T2
  go_loopw [5, 6] (fun x i wr => ∃ k : Nat, k ≤ 201 ∧ i = .int .i64 k ∧ x = .string ⟨(Ru.texts (Ru.upto k)).toArray⟩ ∧ Below x2.heap.size x2 wr) (fun _ i _ => 201 - (intOf i).toNat)
  case atStart => exact ⟨0, Nat.zero_le _, rfl, rfl, Below.refl _ _⟩
  case round =>
    obtain ⟨k, hk, rfl, rfl, hb⟩ := hrel
    by_cases hlt : k < 201
    · have HST := Lib.hid (Ru.upto_step k)
      have hks : (⟨(Ru.texts (Ru.upto k)).toArray⟩ : ByteArray).size ≤ 804 := by rw [list_size, Ru.texts_upto]; omega
      obtain ⟨Y, hY⟩ : ∃ Y : ByteArray, Y = ⟨(Ru.texts (Ru.upto k)).toArray⟩ := ⟨_, rfl⟩
      rw [← hY] at hks ⊢
      have HY := Lib.hid hY
      have hlt1 : (k : Int) < 201 := by omega
      obtain ⟨c, hc⟩ : ∃ c : UInt8, c = UInt8.ofNat (97 + k / 26) := ⟨_, rfl⟩
      obtain ⟨d, hd⟩ : ∃ d : UInt8, d = UInt8.ofNat (97 + k % 26) := ⟨_, rfl⟩
      have hcn : c.toNat = 97 + k / 26 := by rw [hc, UInt8.toNat_ofNat']; omega
      have hdn : d.toNat = 97 + k % 26 := by rw [hd, UInt8.toNat_ofNat']; omega
      rw [← hc, ← hd] at HST
      have h2s := fun W => two_string W c d
      rw [hcn, hdn] at h2s
      have e1 : ((97 + k / 26 : Nat) : Int) = 97 + (k : Int) / 26 := by omega
      have e2 : ((97 + k % 26 : Nat) : Int) = 97 + (k : Int) % 26 := by omega
      rw [e1, e2] at h2s
      clear hY hcn hdn hc hd e1 e2
      go_wp2
      go_roundw
      case rel => exact ⟨k + 1, by omega, by go_num, val_str (by rw [HST.out, HY.out]; apply ByteArray.ext; simp), hb.alloc hb.size _⟩
      case measure => simp [intOf]; omega
    · have hk201 : k = 201 := by omega
      subst hk201
      rw [← HX.out]
      have C3 := C2.trans (hb.mono C2.size)
      have P3 := P2.stays hb
      have Q3 := U2.stays hb
      clear C2 P2 U2 hb hk hlt HX
      go_wp2_with fail
      refine (H3.out _ (hw.below C3)).mono ?_
      rintro e v3 ⟨a3, rfl, _, d3⟩
      have B4 := C3.trans (d3.mono C3.size)
      have P4 := P3.stays d3
      have Q4 := Q3.stays d3
      obtain ⟨T5, U5, C5, L5⟩ := lay_row 25 (faultA Ru.fine) F3 B4 B4.size
      have P5 := L5 _ _ _ P4
      have Q5 := L5 _ _ _ Q4
      clear C3 P3 Q3 d3 B4 P4 Q4 L5 H3
      go_wp2_with (first
        | (refine wpList_store_row rfl 25 _ _ rfl v3.heap.size F3 rfl rfl 25 _ T5 HI3.out HZ3.out HO3.out ?_))
      generalize (v3.alloc (.cells (faultA Ru.fine) 25)).setRow v3.heap.size F3 = x5 at *
      generalize v3.heap.size = g5 at *
      clear T5
      refine (H4.out _ (hw.below C5)).mono ?_
      rintro e v6 ⟨a6, rfl, hr6, d6⟩
      obtain ⟨A6, c6, rfl⟩ : ∃ A6 c6, a6 = .slice A6 200 c6 := by
        obtain ⟨A6, c6, e, _⟩ := hr6
        exact ⟨A6, c6, by rw [e, HL.out]⟩
      have B7 := C5.trans (d6.mono C5.size)
      have P7 := P5.stays d6
      have Q7 := Q5.stays d6
      have R7 := U5.stays d6
      obtain ⟨T8, U8, C8, L8⟩ := lay_row 25 (faultA Ru.fine) (faultA Ru.fine) B7 B7.size
      have P8 := L8 _ _ _ P7
      have Q8 := L8 _ _ _ Q7
      have R8 := L8 _ _ _ R7
      clear hr6 d6 B7 P7 Q7 R7 L8 C5 P5 Q5 U5 H4
      go_wp2_with (first
        | (refine wpList_store_row rfl 25 _ _ rfl v6.heap.size (faultA Ru.fine) rfl rfl 25 _ T8 infoFault rfl (faultA_one _) ?_))
      generalize (v6.alloc (.cells (faultA Ru.fine) 25)).setRow v6.heap.size (faultA Ru.fine) = x8 at *
      generalize v6.heap.size = g8 at *
      clear T8
      refine (HA.out _ (hw.below C8)).mono ?_
      rintro e v9 ⟨rfl, d9⟩
      have C9 := C8.trans (d9.mono C8.size)
      have P9 := P8.stays d9
      have Q9 := Q8.stays d9
      have R9 := R8.stays d9
      have U9 := U8.stays d9
      clear C8 P8 Q8 R8 U8 d9
      go_wp2_with (first
        | (refine at_slot 64 rfl ?_; refine load_row rfl 25 _ rfl g1 rfl P9 Tryd.underlying25 rfl HI1.out ?_)
        | (refine at_slot 65 rfl ?_; refine build_three_g rfl 25 0 1 2 _ _ _ rfl _ _ _ rfl rfl rfl F1 HB1.out ?_)
        | (refine at_slot 69 rfl ?_; refine load_row rfl 25 _ rfl g2 rfl Q9 Tryd.underlying25 rfl HI2.out ?_)
        | (refine at_slot 70 rfl ?_; refine build_three_g rfl 25 0 1 2 _ _ _ rfl _ _ _ rfl rfl rfl F2 HB2.out ?_)
        | (refine at_slot 74 rfl ?_; refine load_row rfl 25 _ rfl g5 rfl R9 Tryd.underlying25 rfl HI3.out ?_)
        | (refine at_slot 75 rfl ?_; refine build_three_g rfl 25 0 1 2 _ _ _ rfl _ _ _ rfl rfl rfl F3 HB3.out ?_)
        | (refine at_slot 79 rfl ?_; refine load_row rfl 25 _ rfl g8 rfl U9 Tryd.underlying25 rfl infoFault ?_))
      go_ret
      exact ⟨rfl, C9⟩
end Go.Proofs.YtjfipedcjahbkaaDoor
