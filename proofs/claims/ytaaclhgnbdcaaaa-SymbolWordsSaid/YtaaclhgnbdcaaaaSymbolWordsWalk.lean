/- The walk of the law SymbolWords. -/
import Derived.Test.YtaaclhgnbdcaaaaSymbolAlive
import Derived.Test.YtaaclhgnbdcaaaaSymbolData
namespace Go.Proofs.Ytaaclhgnbdcaaaa
open Go.RowKit
set_option maxRecDepth 100000 in
set_option maxHeartbeats 4000000 in
theorem symWordsLaw_calls {v : Value} (s : ByteArray) (l : List Int) (w : World) (hs : s.size ≤ maxLen) (hl : Nums w v l ∧ l.length ≤ maxLen ∧ ∀ x ∈ l, (Lit.int .i64 x).wf = true) :
    Calls Try.prog 6 #[.string s, v] w fun e w' => e = .returned (.bool true) ∧ Below w.heap.size w w' := by
  have HAL := Lib.hid (alive_calls14 w)
  obtain ⟨hN, hl, _⟩ := hl
  unfold maxLen at hs hl
  obtain ⟨A, c, rfl⟩ := hN.slice
  obtain ⟨n, hn⟩ : ∃ n, l.length = n := ⟨_, rfl⟩
  rw [hn] at hN hl ⊢
  have HL := Lib.hid hn
  have HN := Lib.hid hN
  clear hn hN
  by_cases h1 : (500 : Int) < (s.size : Int)
  · go_enter Try.func6, Try.ntmps6
    have e1 : decide ((500 : Int) < (s.size : Int)) = true := decide_eq_true h1
    go_wp2_with (go_at_call 7; refine HAL.out.mono ?_; rintro e w1 ⟨rfl, hb⟩)
    go_ret
    exact ⟨rfl, hb⟩
  have e1 : decide ((500 : Int) < (s.size : Int)) = false := decide_eq_false h1
  by_cases h2 : (500 : Int) < (n : Int)
  · have e2 : decide ((500 : Int) < (n : Int)) = true := decide_eq_true h2
    go_enter Try.func6, Try.ntmps6
    go_wp2_with (go_at_call 7; refine HAL.out.mono ?_; rintro e w1 ⟨rfl, hb⟩)
    go_ret
    exact ⟨rfl, hb⟩
  have e2 : decide ((500 : Int) < (n : Int)) = false := decide_eq_false h2
  have hs5 : s.size ≤ 500 := by omega
  have hn5 : l.length ≤ 500 := by have := HL.out; omega
  obtain ⟨x, ok, hx⟩ : ∃ x ok, Sy.bytes s.data.toList = (x, ok) := ⟨_, _, rfl⟩
  obtain ⟨u, is, hu⟩ : ∃ u is, Sy.from' l = (u, is) := ⟨_, _, rfl⟩
  have HB := Lib.hid (fun W => symBytes_calls s W (by omega))
  have HF := Lib.hid (fun v W h => symFrom_calls v l W h (by omega))
  unfold NumsIf at HB
  unfold NewTextIf at HF
  rw [hx] at HB
  rw [hu] at HF
  -- what a path's symbols make
  have HOK : Hid (ok = true → Sy.from' x = (s.data.toList, true) ∧ x.length = s.size) := Lib.hid (fun h => by
    have := Sy.bytes_back (s := s.data.toList) (by rw [hx]; exact h)
    rw [hx, Oct.length_bytes] at this
    exact this)
  -- what the text of symbols has
  have HIS : Hid (is = true → Sy.bytes u = (l, true) ∧ u.length ≤ 500) := Lib.hid (fun h => by
    have := Sy.from_back (l := l) (by rw [hu]; exact h)
    rw [hu] at this
    refine ⟨this, ?_⟩
    have h2 := Sy.bytes_back (s := u) (by rw [this])
    rw [this] at h2
    have h3 : l.length = u.length := h2.2
    omega)
  have HNO : Hid (is = false → u = []) := Lib.hid (fun h => by
    have := Sy.from_no (l := l) (by rw [hu]; exact h)
    rw [hu] at this
    exact this)
  clear hx hu
  go_enter Try.func6, Try.ntmps6
  go_wp2_with (go_at_call 7; refine HAL.out.mono ?_; rintro e w1 ⟨rfl, hb⟩)
  refine (HB.out _).mono ?_
  rintro e w2 ⟨p, rfl, hP, hb2⟩
  have B2 := Lib.hid (hb.trans (hb2.mono hb.size))
  clear hb2 hb HAL HB
  obtain ⟨A2, c2, rfl⟩ := hP.slice
  cases ok with
  | false =>
    clear HOK
    go_wp2_with fail
    refine (HF.out _ _ (HN.out.later B2.out (Nat.le_refl _))).mono ?_
    rintro e w4 ⟨rfl, hb4⟩
    have B4 := Lib.hid (B2.out.trans (hb4.mono B2.out.size))
    clear hb4
    cases is with
    | false =>
      obtain rfl := HNO.out rfl
      have z0 : ((⟨([] : List UInt8).toArray⟩ : ByteArray).toList == (⟨#[]⟩ : ByteArray).toList) = true := by rw [text_beq]; rfl
      go_wp2_with fail
      go_ret
      exact ⟨rfl, B4.out⟩
    | true =>
      obtain ⟨hu1, hu2⟩ := HIS.out rfl
      have HU := Lib.hid (fun W => symBytes_calls ⟨u.toArray⟩ W (by show u.length ≤ _; omega))
      unfold NumsIf at HU
      rw [show Sy.bytes (⟨u.toArray⟩ : ByteArray).data.toList = (l, true) from hu1] at HU
      clear hu1
      go_wp2_with fail
      refine (HU.out _).mono ?_
      rintro e w5 ⟨q, rfl, hQ, hb5⟩
      have B5 := Lib.hid (B4.out.trans (hb5.mono B4.out.size))
      have HS := refSameN_calls q (.slice A n c) l l w5 hQ (HN.out.later B5.out (Nat.le_refl _)) (by omega)
      rw [decide_eq_true rfl] at HS
      have HS := Lib.hid HS
      unfold BoolDrawn at HS
      clear hb5 hQ
      go_wp2_with (go_at_call 22; refine HS.out.mono ?_; rintro e w6 ⟨rfl, hd⟩)
      go_ret
      exact ⟨rfl, B5.out.trans (hd.below _)⟩
  | true =>
    obtain ⟨hx1, hx2⟩ := HOK.out rfl
    have HG := Lib.hid (symFrom_calls _ x w2 hP (by omega))
    unfold NewTextIf at HG
    rw [hx1] at HG
    obtain ⟨m, hm⟩ : ∃ m, x.length = m := ⟨_, rfl⟩
    rw [hm] at hx2 HG
    subst hx2
    have z0 : ((⟨s.data.toList.toArray⟩ : ByteArray).toList != s.toList) = false := by simp
    have z1 : ((s.size : Int) != (s.size : Int)) = false := by simp
    rw [hm]
    clear HOK hx1 hm
    go_wp2_with fail
    refine HG.out.mono ?_
    rintro e w3 ⟨rfl, hb3⟩
    have B3 := Lib.hid (B2.out.trans (hb3.mono B2.out.size))
    clear hb3 hP HG
    go_wp2_with fail
    refine (HF.out _ _ (HN.out.later B3.out (Nat.le_refl _))).mono ?_
    rintro e w4 ⟨rfl, hb4⟩
    have B4 := Lib.hid (B3.out.trans (hb4.mono B3.out.size))
    clear hb4
    cases is with
    | false =>
      obtain rfl := HNO.out rfl
      have z0 : ((⟨([] : List UInt8).toArray⟩ : ByteArray).toList == (⟨#[]⟩ : ByteArray).toList) = true := by rw [text_beq]; rfl
      go_wp2_with fail
      go_ret
      exact ⟨rfl, B4.out⟩
    | true =>
      obtain ⟨hu1, hu2⟩ := HIS.out rfl
      have HU := Lib.hid (fun W => symBytes_calls ⟨u.toArray⟩ W (by show u.length ≤ _; omega))
      unfold NumsIf at HU
      rw [show Sy.bytes (⟨u.toArray⟩ : ByteArray).data.toList = (l, true) from hu1] at HU
      clear hu1
      go_wp2_with fail
      refine (HU.out _).mono ?_
      rintro e w5 ⟨q, rfl, hQ, hb5⟩
      have B5 := Lib.hid (B4.out.trans (hb5.mono B4.out.size))
      have HS := refSameN_calls q (.slice A n c) l l w5 hQ (HN.out.later B5.out (Nat.le_refl _)) (by omega)
      rw [decide_eq_true rfl] at HS
      have HS := Lib.hid HS
      unfold BoolDrawn at HS
      clear hb5 hQ
      go_wp2_with (go_at_call 22; refine HS.out.mono ?_; rintro e w6 ⟨rfl, hd⟩)
      go_ret
      exact ⟨rfl, B5.out.trans (hd.below _)⟩
end Go.Proofs.Ytaaclhgnbdcaaaa
