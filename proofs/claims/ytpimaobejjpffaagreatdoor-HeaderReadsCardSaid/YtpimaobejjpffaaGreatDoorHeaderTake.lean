/- The walk of take: what an attribute says is put into a header. -/
import Derived.Test.YtpimaobejjpffaaGreatDoorHeaderWord
import Derived.Test.YtpimaobejjpffaaGreatDoorCookie
namespace Go.Proofs.YtpimaobejjpffaaGreatDoor
open Go.RowKit
namespace Hd
theorem put_exp_yes {h : Head} {k v : List UInt8} {n : Int} (hv : v.length ≤ 1024) (hk : k = kExp) (hc : Dt.cookie v = (n, true)) : put h k v = { h with exp := some n } := by subst hk; rw [put_exp h hv, hc]; rfl
theorem put_exp_no {h : Head} {k v : List UInt8} {n : Int} (hv : v.length ≤ 1024) (hk : k = kExp) (hc : Dt.cookie v = (n, false)) : put h k v = h := by subst hk; rw [put_exp h hv, hc]; rfl
theorem put_age_yes {h : Head} {k v : List UInt8} {n : Nat} (hv : v.length ≤ 1024) (hk : k = kAge) (hc : ageOf v = some n) : put h k v = { h with age := some n } := by subst hk; rw [put_age h hv, hc]
theorem put_age_no {h : Head} {k v : List UInt8} (hv : v.length ≤ 1024) (hk : k = kAge) (hc : ageOf v = none) : put h k v = h := by subst hk; rw [put_age h hv, hc]
theorem put_dom_is {h : Head} {k v : List UInt8} (hv : v.length ≤ 1024) (hk : k = kDom) : put h k v = { h with domain := (undot v).map Oct.low } := by subst hk; rw [put_dom h hv, undot_low]
theorem put_path_is {h : Head} {k v : List UInt8} (hv : v.length ≤ 1024) (hk : k = kPath) : put h k v = { h with path := if v.head? = some 47 then v else [] } := by subst hk; exact put_path h hv
theorem put_sec_is {h : Head} {k v : List UInt8} (hv : v.length ≤ 1024) (hk : k = kSec) : put h k v = { h with secure := true } := by subst hk; exact put_sec h hv
theorem put_only_is {h : Head} {k v : List UInt8} (hv : v.length ≤ 1024) (hk : k = kOnly) : put h k v = { h with only := true } := by subst hk; exact put_only h hv
theorem put_site_is {h : Head} {k v : List UInt8} (hv : v.length ≤ 1024) (hk : k = kSite) : put h k v = { h with same := sameOf (v.map Oct.low) } := by subst hk; exact put_site h hv
end Hd
def TakePost (g : Nat) (h : Hd.Head) (w : World) (e : Ending) (w' : World) : Prop := e = .returned (.tuple #[]) ∧ KeptH g h w w'
theorem key_calls (k : ByteArray) (hk : k.size ≤ maxLen) {W0 : List UInt8} {x : List UInt8} (h : W0.map Oct.low = x) (W : World) : Calls Tryz.prog 25 #[.string k, .string ⟨W0.toArray⟩] W (BoolDrawn (decide (k.data.toList.map Oct.low = x)) W) := by
  have := same_calls k ⟨W0.toArray⟩ W hk
  rw [show (⟨W0.toArray⟩ : ByteArray).data.toList = W0 from rfl, Hd.key_same _ h] at this
  exact this
set_option maxRecDepth 100000 in
set_option maxHeartbeats 8000000 in
theorem take_calls (h : Hd.Head) (k v : ByteArray) (g : Nat) (w : World) (hw : ∀ W, Below g w W → Hal W) (hR : Row w g 24 (headA h)) (hk : k.size ≤ maxLen) (hv : v.size ≤ 1024) :
    Calls Tryz.prog 12 #[.pointer (some ⟨g, 0, none⟩), .string k, .string v] w (TakePost g (Hd.put h (k.data.toList.map Oct.low) v.data.toList) w) := by
  have K0 : KeptH g h w w := ⟨hR, Below.refl _ _⟩
  have hvl : v.data.toList.length ≤ 1024 := by rw [Oct.length_bytes]; exact hv
  have S1 := Lib.hid (fun W => key_calls k hk (show ([69, 120, 112, 105, 114, 101, 115] : List UInt8).map Oct.low = Hd.kExp from by decide) W)
  have S2 := Lib.hid (fun W => key_calls k hk (show ([77, 97, 120, 45, 65, 103, 101] : List UInt8).map Oct.low = Hd.kAge from by decide) W)
  have S3 := Lib.hid (fun W => key_calls k hk (show ([68, 111, 109, 97, 105, 110] : List UInt8).map Oct.low = Hd.kDom from by decide) W)
  have S4 := Lib.hid (fun W => key_calls k hk (show ([80, 97, 116, 104] : List UInt8).map Oct.low = Hd.kPath from by decide) W)
  have S5 := Lib.hid (fun W => key_calls k hk (show ([83, 101, 99, 117, 114, 101] : List UInt8).map Oct.low = Hd.kSec from by decide) W)
  have S6 := Lib.hid (fun W => key_calls k hk (show ([72, 116, 116, 112, 79, 110, 108, 121] : List UInt8).map Oct.low = Hd.kOnly from by decide) W)
  have S7 := Lib.hid (fun W => key_calls k hk (show ([83, 97, 109, 101, 83, 105, 116, 101] : List UInt8).map Oct.low = Hd.kSite from by decide) W)
  unfold BoolDrawn at S1 S2 S3 S4 S5 S6 S7
  have HPost : Hid (∀ h' w', Hd.put h (k.data.toList.map Oct.low) v.data.toList = h' → KeptH g h' w w' → TakePost g (Hd.put h (k.data.toList.map Oct.low) v.data.toList) w (.returned (.tuple #[])) w') := Lib.hid (fun h' w' e kk => by rw [e]; exact ⟨rfl, kk⟩)
  generalize hpost : TakePost g (Hd.put h (k.data.toList.map Oct.low) v.data.toList) w = post at *
  clear hpost
  have HW := Lib.hid hw
  have C1 := Lib.hid (fun W hW => cookie_calls v W hW (by unfold maxLen; omega))
  have C2 := Lib.hid (fun W => readAge_calls v W (by omega))
  have C3 := Lib.hid (fun W => Tryz.strings_TrimPrefix v ⟨#[46]⟩ W)
  have e3 : (⟨#[46]⟩ : ByteArray).data.toList = [46] := rfl
  rw [e3, Hd.undot_trim] at C3
  have C3b : Hid (∀ W, Calls Tryz.prog 28 #[.string ⟨(Hd.undot v.data.toList).toArray⟩] W (NewText W.heap.size ((Hd.undot v.data.toList).map Oct.low) W)) := Lib.hid (fun W => by
    have := lower_calls ⟨(Hd.undot v.data.toList).toArray⟩ W (by
      have e : (⟨(Hd.undot v.data.toList).toArray⟩ : ByteArray).size = (Hd.undot v.data.toList).length := by show (List.toArray _).size = _; simp
      have := Hd.undot_le v.data.toList
      omega)
    exact this)
  have C4 := Lib.hid (fun W => readPath_calls v W)
  have C7 := Lib.hid (fun W hW => readSame_calls v W hW (by unfold maxLen; omega))
  unfold MomPost at C1
  unfold AgePost at C2
  unfold NewText at C3b
  unfold WordPost at C7
  have P1 := Lib.hid (fun n => @Hd.put_exp_yes h (k.data.toList.map Oct.low) v.data.toList n hvl)
  have P1n := Lib.hid (fun n => @Hd.put_exp_no h (k.data.toList.map Oct.low) v.data.toList n hvl)
  have P2 := Lib.hid (fun n => @Hd.put_age_yes h (k.data.toList.map Oct.low) v.data.toList n hvl)
  have P2n := Lib.hid (@Hd.put_age_no h (k.data.toList.map Oct.low) v.data.toList hvl)
  have P3 := Lib.hid (@Hd.put_dom_is h (k.data.toList.map Oct.low) v.data.toList hvl)
  have P4 := Lib.hid (@Hd.put_path_is h (k.data.toList.map Oct.low) v.data.toList hvl)
  have P5 := Lib.hid (@Hd.put_sec_is h (k.data.toList.map Oct.low) v.data.toList hvl)
  have P6 := Lib.hid (@Hd.put_only_is h (k.data.toList.map Oct.low) v.data.toList hvl)
  have P7 := Lib.hid (@Hd.put_site_is h (k.data.toList.map Oct.low) v.data.toList hvl)
  have PN := Lib.hid (fun hh => @Hd.put_none h (k.data.toList.map Oct.low) v.data.toList hh)
  obtain ⟨⟨mo, mb⟩, hmo⟩ : ∃ o, Dt.cookie v.data.toList = o := ⟨_, rfl⟩
  obtain ⟨ag, hag⟩ : ∃ o, Hd.ageOf v.data.toList = o := ⟨_, rfl⟩
  rw [hmo] at C1 P1 P1n
  rw [hag] at C2 P2 P2n
  generalize (if v.data.toList.head? = some 47 then v.data.toList else []) = pa at *
  generalize Hd.sameOf (v.data.toList.map Oct.low) = sm at *
  generalize (Hd.undot v.data.toList).map Oct.low = dm at *
  generalize (⟨(Hd.undot v.data.toList).toArray⟩ : ByteArray) = ud at *
  generalize Hd.put h (k.data.toList.map Oct.low) v.data.toList = res at *
  generalize k.data.toList.map Oct.low = K at *
  clear hw hR hk hv hvl e3 hmo hag
  obtain ⟨b1, hb1⟩ : ∃ b, decide (K = Hd.kExp) = b := ⟨_, rfl⟩
  obtain ⟨b2, hb2⟩ : ∃ b, decide (K = Hd.kAge) = b := ⟨_, rfl⟩
  obtain ⟨b3, hb3⟩ : ∃ b, decide (K = Hd.kDom) = b := ⟨_, rfl⟩
  obtain ⟨b4, hb4⟩ : ∃ b, decide (K = Hd.kPath) = b := ⟨_, rfl⟩
  obtain ⟨b5, hb5⟩ : ∃ b, decide (K = Hd.kSec) = b := ⟨_, rfl⟩
  obtain ⟨b6, hb6⟩ : ∃ b, decide (K = Hd.kOnly) = b := ⟨_, rfl⟩
  obtain ⟨b7, hb7⟩ : ∃ b, decide (K = Hd.kSite) = b := ⟨_, rfl⟩
  rw [hb1] at S1
  rw [hb2] at S2
  rw [hb3] at S3
  rw [hb4] at S4
  rw [hb5] at S5
  rw [hb6] at S6
  rw [hb7] at S7
  have B1 := Lib.hid hb1
  have B2 := Lib.hid hb2
  have B3 := Lib.hid hb3
  have B4 := Lib.hid hb4
  have B5 := Lib.hid hb5
  have B6 := Lib.hid hb6
  have B7 := Lib.hid hb7
  clear hb1 hb2 hb3 hb4 hb5 hb6 hb7
  go_enter Tryz.func12, Tryz.ntmps12
  go_wp2_with fail
  refine (S1.out _).mono ?_
  rintro e w1 ⟨rfl, d1⟩
  have K1 := K0.on (d1.below _)
  clear K0 d1 S1
  cases b1 with
  | true =>
    have hK := of_decide_eq_true B1.out
    have HW1 := (HW.out _ K1.below).cal
    go_wp2_with fail
    refine (C1.out _ HW1).mono ?_
    rintro e w2 ⟨rfl, d2⟩
    have K2 := K1.on d2
    cases mb with
    | true =>
      have HR := Lib.hid (HPost.out _ _ (P1.out mo hK rfl) (K2.two (head_exp h mo)))
      have q1 := K2.cell 4
      have f1 := K2.free 4
      have q2 := K2.cell 5
      have f2 := K2.free 5
      clear hK
      go_wp2
      go_end0
      exact HR.out
    | false =>
      have HR := Lib.hid (HPost.out _ _ (P1n.out mo hK rfl) K2)
      clear hK
      go_wp2
      go_end0
      exact HR.out
  | false =>
  go_wp2_with fail
  refine (S2.out _).mono ?_
  rintro e w2 ⟨rfl, d1⟩
  have K2 := K1.on (d1.below _)
  clear K1 d1 S2
  cases b2 with
  | true =>
    have hK := of_decide_eq_true B2.out
    go_wp2_with fail
    refine (C2.out _).mono ?_
    rintro e w3 ⟨rfl, rfl⟩
    cases ag with
    | some n =>
      have HR := Lib.hid (HPost.out _ _ (P2.out n hK rfl) (K2.two (head_age h n)))
      have q1 := K2.cell 6
      have f1 := K2.free 6
      have q2 := K2.cell 7
      have f2 := K2.free 7
      clear hK
      go_wp2
      go_end0
      exact HR.out
    | none =>
      have HR := Lib.hid (HPost.out _ _ (P2n.out hK rfl) K2)
      clear hK
      go_wp2
      go_end0
      exact HR.out
  | false =>
  go_wp2_with fail
  refine (S3.out _).mono ?_
  rintro e w3 ⟨rfl, d1⟩
  have K3 := K2.on (d1.below _)
  clear K2 d1 S3
  cases b3 with
  | true =>
    have hK := of_decide_eq_true B3.out
    go_wp2_with fail
    refine (C3.out _).mono ?_
    rintro e w4 ⟨rfl, rfl⟩
    go_wp2_with fail
    refine (C3b.out _).mono ?_
    rintro e w5 ⟨rfl, d5⟩
    have K4 := K3.on d5
    have HR := Lib.hid (HPost.out _ _ (P3.out hK) (K4.one (head_dom h dm)))
    have q1 := K4.cell 2
    have f1 := K4.free 2
    clear hK
    go_wp2
    go_end0
    exact HR.out
  | false =>
  go_wp2_with fail
  refine (S4.out _).mono ?_
  rintro e w4 ⟨rfl, d1⟩
  have K4 := K3.on (d1.below _)
  clear K3 d1 S4
  cases b4 with
  | true =>
    have hK := of_decide_eq_true B4.out
    go_wp2_with fail
    refine (C4.out _).mono ?_
    rintro e w5 ⟨rfl, rfl⟩
    have HR := Lib.hid (HPost.out _ _ (P4.out hK) (K4.one (head_path h pa)))
    have q1 := K4.cell 3
    have f1 := K4.free 3
    clear hK
    go_wp2
    go_end0
    exact HR.out
  | false =>
  go_wp2_with fail
  refine (S5.out _).mono ?_
  rintro e w5 ⟨rfl, d1⟩
  have K5 := K4.on (d1.below _)
  clear K4 d1 S5
  cases b5 with
  | true =>
    have hK := of_decide_eq_true B5.out
    have HR := Lib.hid (HPost.out _ _ (P5.out hK) (K5.one (head_sec h)))
    have q1 := K5.cell 8
    have f1 := K5.free 8
    clear hK
    go_wp2
    go_end0
    exact HR.out
  | false =>
  go_wp2_with fail
  refine (S6.out _).mono ?_
  rintro e w6 ⟨rfl, d1⟩
  have K6 := K5.on (d1.below _)
  clear K5 d1 S6
  cases b6 with
  | true =>
    have hK := of_decide_eq_true B6.out
    have HR := Lib.hid (HPost.out _ _ (P6.out hK) (K6.one (head_only h)))
    have q1 := K6.cell 9
    have f1 := K6.free 9
    clear hK
    go_wp2
    go_end0
    exact HR.out
  | false =>
  go_wp2_with fail
  refine (S7.out _).mono ?_
  rintro e w7 ⟨rfl, d1⟩
  have K7 := K6.on (d1.below _)
  clear K6 d1 S7
  cases b7 with
  | true =>
    have hK := of_decide_eq_true B7.out
    have HW7 := HW.out _ K7.below
    go_wp2_with fail
    refine (C7.out _ HW7).mono ?_
    rintro e w8 ⟨rfl, d8⟩
    have K8 := K7.on d8
    have HR := Lib.hid (HPost.out _ _ (P7.out hK) (K8.one (head_same h sm)))
    have q1 := K8.cell 10
    have f1 := K8.free 10
    clear hK
    go_wp2
    go_end0
    exact HR.out
  | false =>
  have HR := Lib.hid (HPost.out _ _ (PN.out ⟨of_decide_eq_false B1.out, of_decide_eq_false B2.out, of_decide_eq_false B3.out, of_decide_eq_false B4.out, of_decide_eq_false B5.out, of_decide_eq_false B6.out, of_decide_eq_false B7.out⟩) K7)
  go_wp2
  go_end0
  exact HR.out
end Go.Proofs.YtpimaobejjpffaaGreatDoor
