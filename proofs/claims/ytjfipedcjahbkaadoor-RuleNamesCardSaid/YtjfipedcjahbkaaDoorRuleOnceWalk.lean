/- The walk of the law RuleOnce. -/
import Derived.Test.YtjfipedcjahbkaaDoorRuleAlive
import Derived.Test.YtjfipedcjahbkaaDoorRuleFile
import Derived.Test.YtjfipedcjahbkaaDoorRefRuleSame
namespace Go.Proofs.YtjfipedcjahbkaaDoor
open Go.RowKit
theorem fileR_is (s : ByteArray) {l : List UInt8} (hl : s.data.toList = l) {f : Ru.Fault} {rs : List Ru.Rule} (ho : Ru.file l = (f, rs)) (hs : s.size ≤ 1048576) (w : World) (hw : Std w) :
    Calls Tryd.prog 6 #[.string s] w fun e w' => ∃ v, e = .returned (.tuple #[v, .agg (faultA f)]) ∧ HasRules w' v rs ∧ Below w.heap.size w w' := by
  have h := file_calls s w hw hs
  rw [hl, ho] at h
  exact h
theorem HasRules.cut {w : World} {A : Option Addr} {n c : Nat} {rs : List Ru.Rule} (h : HasRules w (.slice A n c) rs) : rs.length = n ∧ (0 < n → ∃ g, A = some ⟨g, 0, none⟩ ∧ g < w.heap.size ∧ n ≤ c ∧ ∀ k r, rs[k]? = some r → w.cell? ⟨g, k * 2, none⟩ = some (.int .i64 r.kind) ∧ w.cell? ⟨g, k * 2 + 1, none⟩ = some (strV r.name)) := by
  obtain ⟨A', c', e, hh⟩ := h
  simp only [Value.slice.injEq] at e
  obtain ⟨rfl, rfl, rfl⟩ := e
  exact ⟨rfl, hh⟩
namespace Ru
theorem texts_take {rs : List Rule} {k : Nat} {r : Rule} (h : rs[k]? = some r) : texts (rs.take (k + 1)) = texts (rs.take k) ++ (text r ++ [10]) := by
  rw [List.take_add_one, h, Option.toList_some, texts_snoc]
theorem texts_part (rs : List Rule) (k : Nat) : (texts (rs.take k)).length ≤ (texts rs).length := by
  have e : texts rs = texts (rs.take k) ++ texts (rs.drop k) := by
    conv => lhs; rw [← List.take_append_drop k rs]
    unfold texts
    rw [List.flatMap_append]
  rw [e, List.length_append]
  omega
theorem once_ne {rs : List Rule} (h : rs.Nodup) {m k : Nat} {x r : Rule} (hm : rs[m]? = some x) (hk : rs[k]? = some r) (hlt : m < k) : x ≠ r := by
  intro e
  subst e
  obtain ⟨h1, e1⟩ := List.getElem?_eq_some_iff.1 hm
  obtain ⟨h2, e2⟩ := List.getElem?_eq_some_iff.1 hk
  exact (List.pairwise_iff_getElem.1 h m k h1 h2 hlt) (e1.trans e2.symm)
end Ru
theorem texts_bytes {rs : List Ru.Rule} {k : Nat} {r : Ru.Rule} (h : rs[k]? = some r) :
    ((⟨(Ru.texts (rs.take k)).toArray⟩ : ByteArray) ++ (⟨(Ru.text r).toArray⟩ ++ ⟨#[10]⟩)) = ⟨(Ru.texts (rs.take (k + 1))).toArray⟩ := by
  rw [Ru.texts_take h]
  apply ByteArray.ext
  simp
theorem twice_bytes (a b : List UInt8) : ((⟨a.toArray⟩ : ByteArray) ++ ⟨b.toArray⟩) = ⟨(a ++ b).toArray⟩ := by
  apply ByteArray.ext
  simp
theorem list_size (l : List UInt8) : (⟨l.toArray⟩ : ByteArray).size = l.length := by show (List.toArray _).size = _; simp
set_option maxRecDepth 100000 in
set_option maxHeartbeats 16000000 in
theorem ronce_walk (s : ByteArray) (wh : Int) (w : World) (_hs : s.size ≤ maxLen) (hwh : (Lit.int .u8 wh).wf = true) (hw : Std w) :
    Calls Tryd.prog 5 #[.string s, .int .u8 wh] w fun e w' => e = .returned (.bool true) ∧ Below w.heap.size w w' := by
  have HA := Lib.hid rule_alive
  have z0 := zeroRule
  have z1 := zeroFault
  by_cases hlen : s.size ≤ 4000
  case neg =>
    have hlen1 : (4000 : Int) < (s.size : Int) := by omega
    go_enter Tryd.func5, Tryd.ntmps5
    go_wp2_with fail
    refine (HA.out _ hw).mono ?_
    rintro e w1 ⟨rfl, b1⟩
    go_wp2
    go_ret
    exact ⟨rfl, b1⟩
  have hlen1 : ¬ (4000 : Int) < (s.size : Int) := by omega
  obtain ⟨f, rs, hfr⟩ : ∃ f rs, Ru.file s.data.toList = (f, rs) := ⟨_, _, rfl⟩
  have H1 := Lib.hid (fun W hW => fileR_is s rfl hfr (by omega) W hW)
  have HF1 := Lib.hid (faultA_one f)
  have HFS : Hid ((Tryd.prog.info? 25).map (·.size) = some (faultA f).size) := Lib.hid infoFault
  have HFZ : Hid ((faultA Ru.fine).size = (faultA f).size) := Lib.hid rfl
  by_cases hfine : f = Ru.fine
  case neg =>
    have hn : rs = [] := by have := Ru.file_none (s := s.data.toList) (by rw [hfr]; exact hfine); rw [hfr] at this; exact this
    subst hn
    have q1 := neq_fault f Ru.fine
    rw [decide_eq_false hfine] at q1
    generalize faultA f = F at *
    clear hfr
    go_enter Tryd.func5, Tryd.ntmps5
    go_wp2_with fail
    refine (HA.out _ hw).mono ?_
    rintro e v0 ⟨rfl, d0⟩
    go_wp2_with fail
    refine (H1.out _ (hw.below d0)).mono ?_
    rintro e v1 ⟨v, rfl, ⟨A, c, rfl, _⟩, d1⟩
    have B1 := d0.trans (d1.mono d0.size)
    obtain ⟨T1, U1, C1, _⟩ := lay_row 25 (faultA Ru.fine) F B1 B1.size
    go_wp2_with (first
      | (refine wpList_store_row rfl 25 _ _ rfl v1.heap.size F rfl rfl 25 _ T1 HFS.out HFZ.out HF1.out ?_)
      | (refine at_slot 26 rfl ?_; refine load_row rfl 25 _ rfl v1.heap.size rfl U1 Tryd.underlying25 rfl HFS.out ?_))
    go_ret
    exact ⟨rfl, C1⟩
  subst hfine
  have hR : Ru.Rules rs := by have := Ru.file_rules (s := s.data.toList) (by rw [hfr]); rw [hfr] at this; exact this
  have hL : (Ru.texts rs).length ≤ 4001 := by
    have := Ru.file_length s.data.toList
    rw [hfr, Oct.length_bytes] at this
    simp only at this
    omega
  have hR3 := hR.few
  have q1 := neq_fault Ru.fine Ru.fine
  have q2 := eql_fault Ru.fine Ru.fine
  rw [decide_eq_true rfl] at q1 q2
  have HR := Lib.hid hR
  have HFILE := Lib.hid (fun W hW => fileR_is ⟨(Ru.texts rs).toArray⟩ rfl (Ru.file_texts hR (by omega)) (by rw [list_size]; omega) W hW)
  obtain ⟨n, hn⟩ : ∃ n, rs.length = n := ⟨_, rfl⟩
  have HN := Lib.hid hn
  rw [hn] at hR3
  have HPART := Lib.hid (Ru.texts_part rs)
  have HALL : Hid (∀ k, n ≤ k → rs.take k = rs) := Lib.hid (fun k hk => List.take_of_length_le (by rw [HN.out]; exact hk))
  clear hfr hn hR hlen
  go_enter Tryd.func5, Tryd.ntmps5
  go_wp2_with fail
  refine (HA.out _ hw).mono ?_
  rintro e v0 ⟨rfl, d0⟩
  go_wp2_with fail
  refine (H1.out _ (hw.below d0)).mono ?_
  rintro e v1 ⟨v, rfl, hr1, d1⟩
  obtain ⟨A, c, rfl⟩ : ∃ A c, v = .slice A n c := by
    obtain ⟨A, c, e, _⟩ := hr1
    exact ⟨A, c, by rw [e, HN.out]⟩
  have B1 := d0.trans (d1.mono d0.size)
  obtain ⟨T1, U1, C1, _⟩ := lay_row 25 (faultA Ru.fine) (faultA Ru.fine) B1 B1.size
  have hr2 : HasRules ((v1.alloc (.cells (faultA Ru.fine) 25)).setRow v1.heap.size (faultA Ru.fine)) (.slice A n c) rs := hr1.stays (below_setRow ((Below.refl _ _).alloc (Nat.le_refl _) _) (Nat.le_refl _) _)
  clear hr1 d1 d0 B1 H1
  go_wp2_with (first
    | (refine wpList_store_row rfl 25 _ _ rfl v1.heap.size (faultA Ru.fine) rfl rfl 25 _ T1 infoFault rfl (faultA_one _) ?_)
    | (refine at_slot 26 rfl ?_; refine load_row rfl 25 _ rfl v1.heap.size rfl U1 Tryd.underlying25 rfl infoFault ?_))
  generalize (v1.alloc (.cells (faultA Ru.fine) 25)).setRow v1.heap.size (faultA Ru.fine) = x1 at *
  generalize v1.heap.size = g1 at *
  clear T1 U1
  go_loopw [7, 34] (fun x i wr => ∃ k : Nat, k ≤ n ∧ i = .int .i64 k ∧ x = .string ⟨(Ru.texts (rs.take k)).toArray⟩ ∧ Below x1.heap.size x1 wr) (fun _ i _ => n - (intOf i).toNat)
  case atStart => exact ⟨0, Nat.zero_le _, rfl, rfl, Below.refl _ _⟩
  case round =>
    obtain ⟨k, hk, rfl, rfl, hb⟩ := hrel
    have hr3 := hr2.stays hb
    by_cases hlt : k < n
    · obtain ⟨_, hh⟩ := hr3.cut
      obtain ⟨g, rfl, hg, hc, hcell⟩ := hh (by omega)
      obtain ⟨r, hr⟩ : ∃ r, rs[k]? = some r := ⟨_, List.getElem?_eq_getElem (by rw [HN.out]; exact hlt)⟩
      obtain ⟨c0, c1⟩ := hcell k r hr
      have hdk : decide ((k : Int) < (n : Int)) = true := by simp; exact hlt
      have HRK := Lib.hid hr
      have hcan := HR.out.can r (List.mem_of_getElem? hr)
      have hnl : r.name.length ≤ 253 := hcan.good.few
      have HT := Lib.hid (fun W => ruleText_calls r W (by omega))
      obtain ⟨T2, U2, C2, _⟩ := lay_row 31 (ruleA Ru.zero) (ruleA r) (Below.refl wr.heap.size wr) (Nat.le_refl _)
      clear hr hcan hcell
      go_wp2_with (first
        | (refine at_slot 38 rfl ?_; refine load_rule rfl _ rfl g (k * 2) rfl r c0 c1 ?_)
        | (refine wpList_store_row rfl 31 _ _ rfl wr.heap.size (ruleA r) rfl rfl 31 _ T2 infoRule rfl (ruleA_one _) ?_))
      generalize (wr.alloc (.cells (ruleA Ru.zero) 31)).setRow wr.heap.size (ruleA r) = x2 at *
      have hb2 := hb.trans (C2.mono hb.size)
      have hr4 := hr3.stays C2
      have hx2 := C2.size
      clear C2 hr3 hh T2 c0 c1
      have HB2 := Lib.hid hb2
      have hk2 : k ≤ n := hk
      generalize wr.heap.size = g9 at *
      have hXL := HPART.out k
      obtain ⟨X, hX⟩ : ∃ X : ByteArray, X = ⟨(Ru.texts (rs.take k)).toArray⟩ := ⟨_, rfl⟩
      have hXs : X.size ≤ 4001 := by rw [hX, list_size]; omega
      obtain ⟨tx, htx⟩ : ∃ tx : ByteArray, tx = ⟨(Ru.text r).toArray⟩ := ⟨_, rfl⟩
      have htxs : tx.size ≤ 255 := by
        rw [htx, list_size]
        unfold Ru.text
        split
        · simp; omega
        · split
          · simp; omega
          · omega
      have HNX : Hid (X ++ (tx ++ ⟨#[10]⟩) = ⟨(Ru.texts (rs.take (k + 1))).toArray⟩) := Lib.hid (by rw [hX, htx]; exact texts_bytes HRK.out)
      unfold NewText at HT
      rw [← htx] at HT
      rw [← hX]
      have hn1 : ¬ 9223372036854775807 < tx.size + (⟨#[10]⟩ : ByteArray).size := by show ¬ 9223372036854775807 < tx.size + 1; omega
      have hn2 : ¬ 9223372036854775807 < X.size + (tx ++ ⟨#[10]⟩ : ByteArray).size := by rw [ByteArray.size_append]; show ¬ 9223372036854775807 < X.size + (tx.size + 1); omega
      have hn3 : ¬ 9223372036854775807 < X.size + (tx.size + (⟨#[10]⟩ : ByteArray).size) := by show ¬ 9223372036854775807 < X.size + (tx.size + 1); omega
      clear hX htx hXL hnl hb2 hb
      go_loopw [43] (fun i wr => ∃ m : Nat, m ≤ k ∧ i = .int .i64 m ∧ Below x2.heap.size x2 wr) (fun i _ => k - (intOf i).toNat)
      case atStart => exact ⟨0, Nat.zero_le _, rfl, Below.refl _ _⟩
      case round =>
        obtain ⟨m, hm, rfl, hbi⟩ := hrel
        have hr5 := hr4.stays hbi
        have U3 := U2.stays hbi
        by_cases hmk : m < k
        · obtain ⟨_, hh5⟩ := hr5.cut
          obtain ⟨g', e, _, _, hcell⟩ := hh5 (by omega)
          obtain rfl : g = g' := by simpa using e
          obtain ⟨q, hq⟩ : ∃ q, rs[m]? = some q := ⟨_, List.getElem?_eq_getElem (by rw [HN.out]; omega)⟩
          obtain ⟨c0, c1⟩ := hcell m q hq
          have qne := eql_rule q r
          rw [decide_eq_false (Ru.once_ne HR.out.once hq HRK.out hmk)] at qne
          obtain ⟨T4, U4, C4, L4⟩ := lay_row 31 (ruleA Ru.zero) (ruleA q) (Below.refl wr.heap.size wr) (Nat.le_refl _)
          have U5 := L4 _ _ _ U3
          have hbn := hbi.trans (C4.mono hbi.size)
          clear hq hcell hh5 e hr5 L4 C4
          go_wp2_with (first
            | (refine at_slot 46 rfl ?_; refine load_rule rfl _ rfl g (m * 2) rfl q c0 c1 ?_)
            | (refine wpList_store_row rfl 31 _ _ rfl wr.heap.size (ruleA q) rfl rfl 31 _ T4 infoRule rfl (ruleA_one _) ?_)
            | (refine at_slot 47 rfl ?_; refine load_row rfl 31 _ rfl wr.heap.size rfl U4 Tryd.underlying31 rfl infoRule ?_)
            | (refine at_slot 48 rfl ?_; refine load_row rfl 31 _ rfl g9 rfl U5 Tryd.underlying31 rfl infoRule ?_))
          go_roundw
          case rel => exact ⟨m + 1, by omega, by go_num, hbn⟩
          case measure => simp [intOf]; omega
        · clear hr5
          go_wp2_with (first
            | (refine at_slot 52 rfl ?_; refine load_row rfl 31 _ rfl g9 rfl U3 Tryd.underlying31 rfl infoRule ?_))
          refine (HT.out _).mono ?_
          rintro e v4 ⟨rfl, d4⟩
          have hbo := HB2.out.trans ((hbi.trans (d4.mono hbi.size)).mono HB2.out.size)
          go_wp2
          go_roundw
          case rel => exact ⟨k + 1, by omega, by go_num, by rw [HNX.out], hbo⟩
          case measure => simp [intOf]; omega
    · have HX := Lib.hid (HALL.out k (by omega))
      have hbe := C1.trans (hb.mono C1.size)
      clear hb hr2
      rw [HX.out]
      obtain ⟨X, hX⟩ : ∃ X : ByteArray, X = ⟨(Ru.texts rs).toArray⟩ := ⟨_, rfl⟩
      rw [← hX] at HFILE ⊢
      have hXs : X.size ≤ 4001 := by rw [hX, list_size]; exact hL
      have HXX := Lib.hid hX
      clear hX HX HALL HPART
      go_wp2_with fail
      refine (HFILE.out _ (hw.below hbe)).mono ?_
      rintro e v4 ⟨v', rfl, hr4, d4⟩
      obtain ⟨A', c', rfl⟩ : ∃ A' c', v' = .slice A' n c' := by
        obtain ⟨A', c', e, _⟩ := hr4
        exact ⟨A', c', by rw [e, HN.out]⟩
      have hr5 := hr3.stays d4
      have hbf := hbe.trans (d4.mono hbe.size)
      obtain ⟨T6, U6, C6, _⟩ := lay_row 25 (faultA Ru.fine) (faultA Ru.fine) (Below.refl v4.heap.size v4) (Nat.le_refl _)
      have hr6 := hr5.stays C6
      have hr7 := hr4.stays C6
      have hbg := hbf.trans (C6.mono hbf.size)
      clear hr3 hr4 hr5 hbf d4 C6 hbe
      have HSAME : Hid (∀ W, HasRules W (.slice A n c) rs → HasRules W (.slice A' n c') rs → Calls Tryd.prog 10 #[.slice A n c, .slice A' n c'] W fun e w' => e = .returned (.bool true) ∧ Drawn W w') := Lib.hid (fun W h1 h2 => by
        have h := sameRules_calls rs rs (.slice A n c) (.slice A' n c') W (by rw [HN.out]; omega) h1 h2
        rw [decide_eq_true rfl] at h
        exact h)
      by_cases hz : n = 0
      · have hz1 : ((n : Int) == 0) = true := by rw [hz]; rfl
        have HZ := Lib.hid hz
        clear hz
        go_wp2_with (first
          | (refine wpList_store_row rfl 25 _ _ rfl v4.heap.size (faultA Ru.fine) rfl rfl 25 _ T6 infoFault rfl (faultA_one _) ?_)
          | (refine at_slot 62 rfl ?_; refine load_row rfl 25 _ rfl v4.heap.size rfl U6 Tryd.underlying25 rfl infoFault ?_))
        generalize (v4.alloc (.cells (faultA Ru.fine) 25)).setRow v4.heap.size (faultA Ru.fine) = x6 at *
        generalize v4.heap.size = g13 at *
        refine (HSAME.out _ hr6 hr7).mono ?_
        rintro e v7 ⟨rfl, d7⟩
        have U7 := U6.stays (d7.below _)
        have hbh := hbg.trans (d7.below _)
        go_wp2_with (first
          | (refine at_slot 76 rfl ?_; refine load_row rfl 25 _ rfl g13 rfl U7 Tryd.underlying25 rfl infoFault ?_))
        go_ret
        exact ⟨rfl, hbh⟩
      · have hz1 : ((n : Int) == 0) = false := by simpa using hz
        obtain ⟨b, hb256, hwb⟩ : ∃ b : Nat, b < 256 ∧ wh = (b : Int) := by
          obtain ⟨cc, hcc⟩ := byte_of hwh
          exact ⟨cc.toNat, cc.toNat_lt, hcc⟩
        subst hwb
        obtain ⟨j, hj⟩ : ∃ j, j = b % n := ⟨_, rfl⟩
        have hjn : j < n := by rw [hj]; exact Nat.mod_lt _ (by omega)
        have e1 : (b : Int) % (n : Int) = (j : Int) := by rw [hj]; simp
        have e2 : (b : Int).tmod (n : Int) = (j : Int) := by rw [Int.tmod_eq_emod_of_nonneg (by omega), e1]
        obtain ⟨r, hr⟩ : ∃ r, rs[j]? = some r := ⟨_, List.getElem?_eq_getElem (by rw [HN.out]; exact hjn)⟩
        have hmem := List.mem_of_getElem? hr
        have hnl : r.name.length ≤ 253 := (HR.out.can r hmem).good.few
        have HT := Lib.hid (fun W => ruleText_calls r W (by omega))
        obtain ⟨tx, htx⟩ : ∃ tx : ByteArray, tx = ⟨(Ru.text r).toArray⟩ := ⟨_, rfl⟩
        have htxl : (Ru.text r).length ≤ 255 := by
          unfold Ru.text
          split
          · simp; omega
          · split
            · simp; omega
            · omega
        have htxs : tx.size ≤ 255 := by rw [htx, list_size]; exact htxl
        have HTW := Lib.hid (fun W hW => fileR_is (X ++ tx) (l := Ru.texts rs ++ Ru.text r) (by rw [HXX.out, htx, twice_bytes]) (Ru.file_twice HR.out hmem (by rw [List.length_append]; omega)) (by rw [ByteArray.size_append]; omega) W hW)
        have hfz : (⟨52, ((rs.length + 1 : Nat) : Int), 1⟩ : Ru.Fault) = ⟨52, (n : Int) + 1, 1⟩ := by rw [HN.out]; rfl
        rw [hfz] at HTW
        have HB := Lib.hid (built_fault 52 ((n : Int) + 1) 1)
        have q3 := eql_fault ⟨52, (n : Int) + 1, 1⟩ ⟨52, (n : Int) + 1, 1⟩
        rw [decide_eq_true rfl] at q3
        have HG1 := Lib.hid (faultA_one ⟨52, (n : Int) + 1, 1⟩)
        have HG2 : Hid ((Tryd.prog.info? 25).map (·.size) = some (faultA ⟨52, (n : Int) + 1, 1⟩).size) := Lib.hid infoFault
        have HG3 : Hid ((faultA Ru.fine).size = (faultA ⟨52, (n : Int) + 1, 1⟩).size) := Lib.hid rfl
        generalize faultA ⟨52, (n : Int) + 1, 1⟩ = G at *
        unfold NewText at HT
        rw [← htx] at HT
        have hn1 : ¬ 9223372036854775807 < X.size + tx.size := by omega
        have HRJ := Lib.hid hr
        have HNR : Hid (n < 1000000) := Lib.hid (by omega)
        clear hfz htx htxl hnl hmem hr hj hz
        go_wp2_with (first
          | (refine wpList_store_row rfl 25 _ _ rfl v4.heap.size (faultA Ru.fine) rfl rfl 25 _ T6 infoFault rfl (faultA_one _) ?_)
          | (refine at_slot 62 rfl ?_; refine load_row rfl 25 _ rfl v4.heap.size rfl U6 Tryd.underlying25 rfl infoFault ?_))
        generalize (v4.alloc (.cells (faultA Ru.fine) 25)).setRow v4.heap.size (faultA Ru.fine) = x6 at *
        generalize v4.heap.size = g13 at *
        clear T6 U6
        refine (HSAME.out _ hr6 hr7).mono ?_
        rintro e v7 ⟨rfl, d7⟩
        have hr8 := hr6.drew d7
        have hbh := hbg.trans (d7.below _)
        obtain ⟨_, hh⟩ := hr8.cut
        obtain ⟨g, rfl, hg, hc, hcell⟩ := hh (by omega)
        obtain ⟨c0, c1⟩ := hcell j r HRJ.out
        clear hcell hh hr6 hr7 hr8 hbg d7
        go_wp2_with (first
          | (refine at_slot 95 rfl ?_; refine load_rule rfl _ rfl g (j * 2) rfl r c0 c1 ?_))
        refine (HT.out _).mono ?_
        rintro e v8 ⟨rfl, d8⟩
        have hbi := hbh.trans (d8.mono hbh.size)
        go_wp2_with fail
        refine (HTW.out _ (hw.below hbi)).mono ?_
        rintro e v9 ⟨vv, rfl, _, d9⟩
        have hbj := hbi.trans (d9.mono hbi.size)
        obtain ⟨T9, U9, C9, _⟩ := lay_row 25 (faultA Ru.fine) G hbj hbj.size
        clear c0 c1 d8 d9 hbh hbi hbj
        go_wp2_with (first
          | (refine wpList_store_row rfl 25 _ _ rfl v9.heap.size G rfl rfl 25 _ T9 HG2.out HG3.out HG1.out ?_)
          | (refine at_slot 101 rfl ?_; refine load_row rfl 25 _ rfl v9.heap.size rfl U9 Tryd.underlying25 rfl HG2.out ?_)
          | (refine at_slot 105 rfl ?_; refine build_three rfl 25 0 1 2 _ _ _ rfl _ _ _ rfl rfl rfl G HB.out ?_))
        go_ret
        exact ⟨rfl, C9⟩
end Go.Proofs.YtjfipedcjahbkaaDoor
