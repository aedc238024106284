/- The walks of readSame, sameName and marked. -/
import Derived.Test.YtpimaobejjpffaaGreatDoorHeaderSmall
namespace Go.Proofs.YtpimaobejjpffaaGreatDoor
open Go.RowKit
namespace Hd
/-- Which of the words from the k-th on it is. -/
def wordAt (v : List UInt8) (k : Nat) : Nat := if k = 0 then sameOf (v.map Oct.low) else if k = 1 then (if Oct.sameB v wNone = true then 1 else if Oct.sameB v wLax = true then 2 else if Oct.sameB v wStrict = true then 3 else 0) else if k = 2 then (if Oct.sameB v wLax = true then 2 else if Oct.sameB v wStrict = true then 3 else 0) else if k = 3 then (if Oct.sameB v wStrict = true then 3 else 0) else 0
theorem word_at {k : Nat} (h : k < 4) : ∃ x, words4[k]? = some x := ⟨_, List.getElem?_eq_getElem h⟩
theorem word_step (v : List UInt8) {k : Nat} {x : List UInt8} (h : words4[k]? = some x) : wordAt v k = if Oct.sameB v x = true then k else wordAt v (k + 1) := by
  have hk : k < 4 := (List.getElem?_eq_some_iff.1 h).1
  have : k = 0 ∨ k = 1 ∨ k = 2 ∨ k = 3 := by omega
  rcases this with rfl | rfl | rfl | rfl
  · have e : x = [] := (Option.some.inj h).symm
    subst e
    exact sameOf_low v
  · have e : x = wNone := (Option.some.inj h).symm
    subst e; rfl
  · have e : x = wLax := (Option.some.inj h).symm
    subst e; rfl
  · have e : x = wStrict := (Option.some.inj h).symm
    subst e; rfl
theorem word_end (v : List UInt8) : wordAt v 4 = 0 := rfl
end Hd
theorem infoFour : (Tryz.prog.info? 70).map (·.size) = some (textsA Hd.words4).size := by kernel_rfl
theorem index_word_0 (W : World) : (Instr.index 70 (.agg (textsA Hd.words4)) (.int .i64 0)).run Tryz.prog W = .ok (strV []) W := by kernel_rfl
theorem index_word_1 (W : World) : (Instr.index 70 (.agg (textsA Hd.words4)) (.int .i64 1)).run Tryz.prog W = .ok (strV [78, 111, 110, 101]) W := by kernel_rfl
theorem index_word_2 (W : World) : (Instr.index 70 (.agg (textsA Hd.words4)) (.int .i64 2)).run Tryz.prog W = .ok (strV [76, 97, 120]) W := by kernel_rfl
theorem index_word_3 (W : World) : (Instr.index 70 (.agg (textsA Hd.words4)) (.int .i64 3)).run Tryz.prog W = .ok (strV [83, 116, 114, 105, 99, 116]) W := by kernel_rfl
theorem index_word {k : Nat} (hk : k < 4) {n : List UInt8} (hn : Hd.words4[k]? = some n) (W : World) : (Instr.index 70 (.agg (textsA Hd.words4)) (.int .i64 (k : Int))).run Tryz.prog W = .ok (strV n) W := by
  have : k = 0 ∨ k = 1 ∨ k = 2 ∨ k = 3 := by omega
  rcases this with rfl | rfl | rfl | rfl
  · have e := Option.some.inj hn; rw [← e]; exact index_word_0 W
  · have e := Option.some.inj hn; rw [← e]; exact index_word_1 W
  · have e := Option.some.inj hn; rw [← e]; exact index_word_2 W
  · have e := Option.some.inj hn; rw [← e]; exact index_word_3 W
def WordPost (n : Nat) (w : World) (e : Ending) (w' : World) : Prop := e = .returned (.int .i64 (n : Int)) ∧ Below w.heap.size w w'
theorem word_post {m n : Nat} (h : m = n) {w w' : World} (hb : Below w.heap.size w w') : WordPost m w (.returned (.int .i64 (n : Int))) w' := by subst h; exact ⟨rfl, hb⟩
set_option maxRecDepth 100000 in
set_option maxHeartbeats 4000000 in
theorem readSame_calls (s : ByteArray) (w : World) (hw : Hal w) (hs : s.size ≤ maxLen) :
    Calls Tryz.prog 31 #[.string s] w (WordPost (Hd.sameOf (s.data.toList.map Oct.low)) w) := by
  have HST : Hid (Hd.sameOf (s.data.toList.map Oct.low) = Hd.wordAt s.data.toList 0) := Lib.hid rfl
  have HP := Lib.hid (fun n (h : Hd.sameOf (s.data.toList.map Oct.low) = n) w' (hb : Below w.heap.size w w') => word_post h hb)
  generalize hpost : WordPost (Hd.sameOf (s.data.toList.map Oct.low)) w = post at *
  clear hpost
  have HC : Hid (∀ (n : List UInt8) W, Calls Tryz.prog 25 #[.string s, strV n] W (BoolDrawn (Oct.sameB s.data.toList n) W)) := Lib.hid (fun n W => same_calls s ⟨n.toArray⟩ W hs)
  have HSTEP := Lib.hid (fun k x (h : Hd.words4[k]? = some x) => Hd.word_step s.data.toList h)
  generalize Hd.sameOf (s.data.toList.map Oct.low) = res at *
  obtain ⟨t, fr, hrow⟩ := hw.row
  go_enter Tryz.func31, Tryz.ntmps31
  go_wp2_with (refine at_slot 5 rfl ?_; refine wpList_load_row rfl 70 _ rfl 0 rfl t _ fr _ hrow Tryz.underlying70 rfl infoFour ?_)
  clear hrow
  go_loopw [6] (fun i wr => ∃ k : Nat, k ≤ 4 ∧ i = .int .i64 k ∧ res = Hd.wordAt s.data.toList k ∧ Drawn w wr) (fun i _ => 4 - (intOf i).toNat)
  case atStart => exact ⟨0, Nat.zero_le _, rfl, HST.out, Drawn.refl _⟩
  case round =>
    obtain ⟨k, hk, rfl, hm, hd⟩ := hrel
    have HM := Lib.hid hm
    clear hm
    by_cases hlt : k < 4
    · obtain ⟨x, hx⟩ := Hd.word_at hlt
      have hidx := index_word hlt hx
      have HS1 := HSTEP.out k x hx
      rw [← HM.out] at HS1
      have hki : (k : Int) < 4 := by omega
      have HCn := Lib.hid (HC.out x)
      unfold BoolDrawn strV at HCn
      unfold strV at hidx
      cases hb : Oct.sameB s.data.toList x with
      | true =>
        rw [hb] at HCn
        rw [hb, if_pos rfl] at HS1
        have HR := Lib.hid (HP.out k HS1)
        generalize hnb : (⟨x.toArray⟩ : ByteArray) = nb at *
        clear hnb hb HS1 hx HSTEP HM
        go_wp2_with fail
        refine (HCn.out _).mono ?_
        rintro e w2 ⟨rfl, d2⟩
        have HRR := Lib.hid (HR.out w2 ((hd.below w.heap.size).trans (d2.below w.heap.size)))
        go_wp2
        first | exact HRR.out | (go_ret; exact HRR.out)
      | false =>
        rw [hb] at HCn
        rw [hb, if_neg (by simp)] at HS1
        have HR := Lib.hid HS1
        generalize hnb : (⟨x.toArray⟩ : ByteArray) = nb at *
        clear hnb hb HS1 hx HM
        go_wp2_with fail
        refine (HCn.out _).mono ?_
        rintro e w2 ⟨rfl, d2⟩
        have hD : Drawn w w2 := by
          obtain ⟨a, rfl⟩ := hd
          obtain ⟨b, rfl⟩ := d2
          exact ⟨a + b, World.drewN_drewN _ _ _⟩
        go_wp2
        go_roundw
        case rel => exact ⟨k + 1, by omega, by go_num, HR.out, hD⟩
        case measure => simp [intOf]; omega
    · have hk4 : k = 4 := by omega
      subst hk4
      have HR := Lib.hid (HP.out 0 (HM.out.trans (Hd.word_end _)) wr (hd.below _))
      go_wp2
      first | exact HR.out | (go_ret; exact HR.out)
set_option maxRecDepth 100000 in
set_option maxHeartbeats 1000000 in
theorem sameName_calls (n : Nat) (w : World) (hw : Hal w) {x : List UInt8} (hx : Hd.words4[n]? = some x) :
    Calls Tryz.prog 46 #[.int .i64 (n : Int)] w fun e w' => e = .returned (.string ⟨x.toArray⟩) ∧ Below w.heap.size w w' := by
  have hn : n < 4 := (List.getElem?_eq_some_iff.1 hx).1
  have hcell := hw.word hx
  unfold strV at hcell
  generalize (⟨x.toArray⟩ : ByteArray) = nb at *
  have h1 : ¬ (n : Int) < 0 := by omega
  have h2 : ¬ (4 : Int) ≤ (n : Int) := by omega
  have h3 : (n : Int) < 4 := by omega
  have h4 : (0 : Int) ≤ (n : Int) := by omega
  clear hx
  go_enter Tryz.func46, Tryz.ntmps46
  go_wp2
  go_ret
  exact ⟨rfl, Below.refl _ _⟩
/-- Leading dots and blanks are cut off. -/
theorem trimLost_calls (s : ByteArray) (w : World) :
    Calls Tryz.prog 68 #[.string s, .string ⟨#[46, 32, 9]⟩] w fun e w' => e = .returned (.string ⟨(Lib.trimLeftS s.data.toList [46, 32, 9]).toArray⟩) ∧ Below w.heap.size w w' :=
  (Any.strings_TrimLeft_laid Tryz.lays161 (by kernel_rfl) s ⟨#[46, 32, 9]⟩ w (by decide) (ascii_of_all (by decide))).mono fun _ _ ⟨h1, h2⟩ => ⟨h1, h2⟩
set_option maxRecDepth 100000 in
set_option maxHeartbeats 1000000 in
theorem marked_calls (s : ByteArray) (w : World) (hs : s.size ≤ 1048576) :
    Calls Tryz.prog 45 #[.string s] w (NewText w.heap.size (Hd.domT s.data.toList) w) := by
  have HC := Lib.hid (fun W => trimLost_calls s W)
  have hl := Hd.lost_drop s.data.toList
  have HP : Hid (∀ a w', (⟨(Hd.domT s.data.toList).toArray⟩ : ByteArray) = a → Below w.heap.size w w' → NewText w.heap.size (Hd.domT s.data.toList) w (.returned (.string a)) w') := Lib.hid (fun a w' h hb => by subst h; exact ⟨rfl, hb⟩)
  generalize hpost : NewText w.heap.size (Hd.domT s.data.toList) w = post at *
  clear hpost
  obtain ⟨a, ha⟩ : ∃ a : ByteArray, (⟨(Lib.trimLeftS s.data.toList [46, 32, 9]).toArray⟩ : ByteArray) = a := ⟨_, rfl⟩
  have ha2 : a.data.toList = Lib.trimLeftS s.data.toList [46, 32, 9] := by rw [← ha]
  rw [ha] at HC
  rw [← ha2] at hl
  have hz : ((⟨#[46]⟩ : ByteArray).size) = 1 := rfl
  have hne : (!(a.toList == s.toList)) = Hd.dotB s.data.toList := by
    rw [Oct.bytes_data, Oct.bytes_data]
    cases hd : Hd.dotB s.data.toList with
    | false => rw [hl.2 hd]; simp
    | true =>
      rw [Bool.not_eq_true', beq_eq_false_iff_ne]
      intro e
      rw [hl.1 e] at hd
      cases hd
  clear ha ha2 hl
  cases hd : Hd.dotB s.data.toList with
  | true =>
    rw [hd] at hne
    have HQ := Lib.hid (fun w' => HP.out (⟨#[46]⟩ ++ s) w' (by unfold Hd.domT; rw [if_pos hd]; apply ByteArray.ext; simp [ByteArray.data_append]))
    clear hd HP
    have hsum : ¬ 9223372036854775807 < (⟨#[46]⟩ : ByteArray).size + s.size := by rw [hz]; omega
    have hsum1 : ¬ 9223372036854775807 < 1 + s.size := by omega
    go_enter Tryz.func45, Tryz.ntmps45
    go_wp2_with fail
    refine (HC.out _).mono ?_
    rintro e w1 ⟨rfl, b1⟩
    go_wp2
    first | exact HQ.out _ b1 | (go_ret; exact HQ.out _ b1)
  | false =>
    rw [hd] at hne
    have HQ := Lib.hid (fun w' => HP.out s w' (by unfold Hd.domT; rw [if_neg (by rw [hd]; simp), mk_bytes]))
    clear hd HP
    go_enter Tryz.func45, Tryz.ntmps45
    go_wp2_with fail
    refine (HC.out _).mono ?_
    rintro e w1 ⟨rfl, b1⟩
    go_wp2
    first | exact HQ.out _ b1 | (go_ret; exact HQ.out _ b1)
end Go.Proofs.YtpimaobejjpffaaGreatDoor
