/- The walks of the reference's small functions on symbols: has, less, after, Byte, Same. -/
import Derived.Test.YtaaclhgnbdcaaaaInRow
import Derived.Test.YtaaclhgnbdcaaaaOctets
import Derived.Test.YtaaclhgnbdcaaaaSymbolWays
namespace Go.Proofs.Ytaaclhgnbdcaaaa
open Go.RowKit
theorem text_beq (t s : ByteArray) : (t.toList == s.toList) = decide (t.data.toList = s.data.toList) := by
  rw [Oct.bytes_data, Oct.bytes_data, Bool.eq_iff_iff, beq_iff_eq, decide_eq_true_eq]
theorem text_same {t s : ByteArray} (h : t.data.toList = s.data.toList) : t = s := ByteArray.ext (Array.toList_inj.1 h)
set_option maxHeartbeats 1000000 in
theorem has_calls (v : Value) (l : List (List UInt8)) (s : ByteArray) (w : World) (h : Texts w v l) (hn : l.length ≤ 1099511627776) :
    Calls Try.prog 28 #[v, .string s] w fun e w' => e = .returned (.bool (decide (s.data.toList ∈ l))) ∧ w' = w := by
  obtain ⟨A, c, rfl, HC⟩ := h.parts
  obtain ⟨n, hn'⟩ : ∃ n, l.length = n := ⟨_, rfl⟩
  rw [hn'] at HC hn ⊢
  have HN := Lib.hid hn'
  clear hn' h
  go_enter Try.func28, Try.ntmps28
  go_wp2
  go_loopw [9] (fun i wr => ∃ k : Nat, k ≤ n ∧ i = .int .i64 k ∧ s.data.toList ∉ l.take k ∧ wr = w) (fun i _ => n - (intOf i).toNat)
  case atStart => exact ⟨0, Nat.zero_le _, rfl, by simp, rfl⟩
  case round =>
    obtain ⟨k, hk, rfl, hno, rfl⟩ := hrel
    have HNO := Lib.hid hno
    clear hno
    by_cases hlt : k < n
    · obtain ⟨g, off, rfl, hcells⟩ := HC.out (by omega)
      obtain ⟨x, hx⟩ : ∃ x, l[k]? = some x := ⟨_, List.getElem?_eq_getElem (by rw [HN.out]; exact hlt)⟩
      obtain ⟨t, ht⟩ : ∃ t : ByteArray, t = ⟨x.toArray⟩ := ⟨_, rfl⟩
      have htx : t.data.toList = x := by rw [ht]
      have hcell : wr.cell? ⟨g, off + k, none⟩ = some (.string t) := by rw [hcells k x hx]; unfold strV; rw [ht]
      have HX := Lib.hid (show l.take (k + 1) = l.take k ++ [t.data.toList] by rw [List.take_add_one, hx, htx]; rfl)
      have HM := Lib.hid (show t.data.toList ∈ l by rw [htx]; exact List.mem_of_getElem? hx)
      clear hcells ht htx hx
      by_cases he : t.data.toList = s.data.toList
      · have heq : (t.toList == s.toList) = true := by rw [text_beq]; exact decide_eq_true he
        have HE := Lib.hid he
        clear he
        go_wp2
        go_ret
        exact ⟨ret_bool (decide_eq_true (by rw [← HE.out]; exact HM.out)).symm, rfl⟩
      · have heq : (t.toList == s.toList) = false := by rw [text_beq]; exact decide_eq_false he
        have HE := Lib.hid he
        clear he
        go_wp2
        go_roundw
        case rel => exact ⟨k + 1, by omega, by go_num, by rw [HX.out, List.mem_append, List.mem_singleton]; rintro (e | e); exact HNO.out e; exact HE.out e.symm, (by trivial)⟩
        case measure => simp [intOf]; omega
    · go_wp2
      go_ret
      exact ⟨ret_bool (decide_eq_false (by have := HNO.out; rw [List.take_of_length_le (by have := HN.out; omega)] at this; exact this)).symm, rfl⟩
set_option maxHeartbeats 1000000 in
theorem less_calls (a b : ByteArray) (w : World) (ha : a.size ≤ 1099511627776) :
    Calls Try.prog 29 #[.string a, .string b] w (BoolDrawn (Sy.less a.data.toList b.data.toList) w) := by
  go_enter Try.func29, Try.ntmps29
  go_wp2
  go_loopw [5] (fun i wr => ∃ k : Nat, k ≤ a.size ∧ k ≤ b.size ∧ i = .int .i64 k ∧ a.data.toList.take k = b.data.toList.take k ∧ Drawn w wr) (fun i _ => a.size - (intOf i).toNat)
  case atStart => exact ⟨0, Nat.zero_le _, Nat.zero_le _, rfl, rfl, Drawn.refl _⟩
  case round =>
    obtain ⟨k, hka, hkb, rfl, hm, hd⟩ := hrel
    have HM := Lib.hid hm
    clear hm
    by_cases hla : k < a.size
    · by_cases hlb : k < b.size
      · have h1 : a.data.toList[k]? = some a[k] := by rw [List.getElem?_eq_getElem (by rw [Oct.length_bytes]; exact hla), Oct.getElem_bytes a k hla]
        have h2 : b.data.toList[k]? = some b[k] := by rw [List.getElem?_eq_getElem (by rw [Oct.length_bytes]; exact hlb), Oct.getElem_bytes b k hlb]
        have H1 := Lib.hid h1
        have H2 := Lib.hid h2
        clear h1 h2
        by_cases hc : a[k] = b[k]
        · have hne : ((a[k].toNat : Int) != (b[k].toNat : Int)) = false := by rw [hc]; simp
          have HT := Lib.hid (Sy.take_more HM.out H1.out (by rw [hc]; exact H2.out))
          have HC := Lib.hid hc
          clear hc
          go_wp2
          go_quiet (fail)
          go_wp2
          go_roundw
          case rel => exact ⟨k + 1, by omega, by omega, by go_num, HT.out, hd.more _⟩
          case measure => simp [intOf]; omega
        · have hne : ((a[k].toNat : Int) != (b[k].toNat : Int)) = true := by
            rw [bne_iff_ne]; intro e; exact hc (Oct.eq_of_toNat (by omega))
          have HC := Lib.hid hc
          clear hc
          go_wp2
          go_quiet (fail)
          go_wp2
          go_quiet (fail)
          go_wp2
          go_ret
          exact ⟨ret_bool (by rw [Sy.less_at HM.out H1.out H2.out HC.out]), (hd.more _).more _⟩
      · go_wp2
        go_ret
        exact ⟨ret_bool (by rw [Sy.less_end HM.out (by rw [Oct.length_bytes]; omega) (by rw [Oct.length_bytes]; omega) (.inr (by rw [Oct.length_bytes]; omega)), Oct.length_bytes, Oct.length_bytes]), hd⟩
    · go_wp2
      go_ret
      exact ⟨ret_bool (by rw [Sy.less_end HM.out (by rw [Oct.length_bytes]; omega) (by rw [Oct.length_bytes]; omega) (.inl (by rw [Oct.length_bytes]; omega)), Oct.length_bytes, Oct.length_bytes]), hd⟩
set_option maxHeartbeats 1000000 in
theorem after_calls (c : UInt8) (w : World) : Calls Try.prog 36 #[.int .u8 (c.toNat : Int)] w fun e w' => e = .returned (.int .u8 ((Sy.after c).toNat : Int)) ∧ w' = w := by
  have hA := Sy.after_toNat c
  have hlt := c.toNat_lt
  generalize (Sy.after c).toNat = m at *
  generalize c.toNat = n at *
  by_cases h1 : n = 122
  · have hm : m = 48 := by rw [h1] at hA; exact hA
    have HM := Lib.hid hm
    have e0 : ((n : Int) == 122) = true := by rw [beq_iff_eq]; omega
    clear hA hm h1
    go_enter Try.func36, Try.ntmps36
    go_wp2
    go_ret
    exact ⟨by rw [HM.out]; rfl, rfl⟩
  by_cases h2 : n = 57
  · have hm : m = 45 := by rw [h2] at hA; exact hA
    have HM := Lib.hid hm
    have e0 : ((n : Int) == 57) = true := by rw [beq_iff_eq]; omega
    have e1 : ((n : Int) == 122) = false := by rw [beq_eq_false_iff_ne]; omega
    clear hA hm h1 h2
    go_enter Try.func36, Try.ntmps36
    go_wp2
    go_ret
    exact ⟨by rw [HM.out]; rfl, rfl⟩
  by_cases h3 : n = 45
  · have hm : m = 95 := by rw [h3] at hA; exact hA
    have HM := Lib.hid hm
    have e0 : ((n : Int) == 45) = true := by rw [beq_iff_eq]; omega
    have e1 : ((n : Int) == 122) = false := by rw [beq_eq_false_iff_ne]; omega
    have e2 : ((n : Int) == 57) = false := by rw [beq_eq_false_iff_ne]; omega
    clear hA hm h1 h2 h3
    go_enter Try.func36, Try.ntmps36
    go_wp2
    go_ret
    exact ⟨by rw [HM.out]; rfl, rfl⟩
  by_cases h4 : n = 95
  · have hm : m = 0 := by rw [h4] at hA; exact hA
    have HM := Lib.hid hm
    have e0 : ((n : Int) == 95) = true := by rw [beq_iff_eq]; omega
    have e1 : ((n : Int) == 122) = false := by rw [beq_eq_false_iff_ne]; omega
    have e2 : ((n : Int) == 57) = false := by rw [beq_eq_false_iff_ne]; omega
    have e3 : ((n : Int) == 45) = false := by rw [beq_eq_false_iff_ne]; omega
    clear hA hm h1 h2 h3 h4
    go_enter Try.func36, Try.ntmps36
    go_wp2
    go_ret
    exact ⟨by rw [HM.out]; rfl, rfl⟩
  rw [if_neg h1, if_neg h2, if_neg h3, if_neg h4] at hA
  have e1 : ((n : Int) == 122) = false := by rw [beq_eq_false_iff_ne]; omega
  have e2 : ((n : Int) == 57) = false := by rw [beq_eq_false_iff_ne]; omega
  have e3 : ((n : Int) == 45) = false := by rw [beq_eq_false_iff_ne]; omega
  have e4 : ((n : Int) == 95) = false := by rw [beq_eq_false_iff_ne]; omega
  have HA := Lib.hid hA
  clear hA h1 h2 h3 h4
  go_enter Try.func36, Try.ntmps36
  go_wp2
  go_ret
  exact ⟨by rw [HA.out]; simp, rfl⟩
set_option maxRecDepth 100000 in
set_option maxHeartbeats 1000000 in
theorem byte_calls (c : UInt8) (w : World) : Calls Try.prog 32 #[.int .u8 (c.toNat : Int)] w fun e w' => e = .returned (.int .i64 (Sy.sym c)) ∧ w' = w := by
  have hc := c.toNat_lt
  have HS : Hid (∀ k : Nat, Sy.pathB c = true → c.toNat = k → Sy.sym c = (Sy.symK k : Int)) := Lib.hid (fun k h e => by rw [Sy.symK_at h, e])
  have HO := Lib.hid (fun h => Sy.sym_other (c := c) h)
  have HP := Lib.hid (Sy.pathB_iff (c := c))
  generalize Sy.sym c = z at *
  generalize Sy.pathB c = p at *
  generalize c.toNat = m at *
  go_enter Try.func32, Try.ntmps32
  go_wp2
  go_loopw [3, 4] (fun n i wr => ∃ k : Nat, 33 ≤ k ∧ k ≤ 127 ∧ i = .int .u8 k ∧ n = .int .i64 (Sy.symK k : Int) ∧ (p = true → k ≤ m) ∧ wr = w) (fun _ i _ => 127 - (intOf i).toNat)
  case atStart => exact ⟨33, by omega, by omega, rfl, rfl, fun h => ((HP.out).1 h).1, rfl⟩
  case round =>
    obtain ⟨k, hk0, hk1, rfl, rfl, hno, rfl⟩ := hrel
    have hsm : Sy.symK k ≤ 94 := by unfold Sy.symK; omega
    by_cases hlt : k < 127
    · by_cases h1 : k = 63 ∨ k = 35
      · have hs := Sy.symK_skip h1
        have hno2 : p = true → k + 1 ≤ m := fun h => by have := hno h; have := HP.out.1 h; omega
        have HS2 := Lib.hid hs
        have HNO := Lib.hid hno2
        clear hs hno hno2
        rcases h1 with rfl | rfl
        all_goals
          go_wp2
          go_roundw
          case rel => exact ⟨_, by omega, by omega, by go_num, by rw [HS2.out], HNO.out, (by trivial)⟩
          case measure => simp [intOf]
      · have h2 : ((k : Int) == 63) = false := by rw [beq_eq_false_iff_ne]; omega
        have h3 : ((k : Int) == 35) = false := by rw [beq_eq_false_iff_ne]; omega
        have hs := Sy.symK_step hk0 (by omega) (by omega)
        have HS2 := Lib.hid hs
        by_cases he : k = m
        · have h4 : ((k : Int) == (m : Int)) = true := by rw [he]; simp
          have HZ : Hid (z = (Sy.symK k : Int)) := Lib.hid (HS.out k ((HP.out).2 (by omega)) he.symm)
          clear hs hno h1 he
          go_wp2
          go_ret
          exact ⟨by rw [HZ.out]; rfl, rfl⟩
        · have h4 : ((k : Int) == (m : Int)) = false := by rw [beq_eq_false_iff_ne]; omega
          have HNO : Hid (p = true → k + 1 ≤ m) := Lib.hid (fun h => by have := hno h; omega)
          clear hs hno h1
          go_wp2
          go_roundw
          case rel => exact ⟨k + 1, by omega, by omega, by go_num, by rw [HS2.out]; simp, HNO.out, (by trivial)⟩
          case measure => simp [intOf]; omega
    · have HZ : Hid (z = -1) := Lib.hid (HO.out (by
        cases hp : p with
        | false => rfl
        | true => have := hno hp; have := HP.out.1 hp; omega))
      clear hno
      go_wp2
      go_ret
      exact ⟨by rw [HZ.out]; rfl, rfl⟩
set_option maxHeartbeats 1000000 in
theorem refSameN_calls (u v : Value) (x y : List Int) (w : World) (hx : Nums w u x) (hy : Nums w v y) (hn : x.length ≤ 1099511627776) :
    Calls Try.prog 22 #[u, v] w (BoolDrawn (decide (x = y)) w) := by
  obtain ⟨A, c, rfl, HC⟩ := hx.parts
  obtain ⟨B, d, rfl, HD⟩ := hy.parts
  by_cases hl : x.length = y.length
  · have hz : ((x.length : Int) != (y.length : Int)) = false := by rw [hl]; simp
    obtain ⟨n, hn'⟩ : ∃ n, x.length = n := ⟨_, rfl⟩
    have hm' : y.length = n := by omega
    rw [hm'] at HD hz ⊢
    rw [hn'] at HC hz hn ⊢
    have HN := Lib.hid hn'
    have HM := Lib.hid hm'
    clear hn' hm' hx hy hl hz
    go_enter Try.func22, Try.ntmps22
    go_wp2
    go_loopw [13] (fun i wr => ∃ k : Nat, k ≤ n ∧ i = .int .i64 k ∧ x.take k = y.take k ∧ Drawn w wr) (fun i _ => n - (intOf i).toNat)
    case atStart => exact ⟨0, Nat.zero_le _, rfl, rfl, Drawn.refl _⟩
    case round =>
      obtain ⟨k, hk, rfl, ht, hd⟩ := hrel
      have HT := Lib.hid ht
      clear ht
      by_cases hlt : k < n
      · obtain ⟨g, off, rfl, hc⟩ := HC.out (by omega)
        obtain ⟨g', off', rfl, hc'⟩ := HD.out (by omega)
        obtain ⟨p, hp⟩ : ∃ p, x[k]? = some p := ⟨_, List.getElem?_eq_getElem (by rw [HN.out]; exact hlt)⟩
        obtain ⟨q, hq⟩ : ∃ q, y[k]? = some q := ⟨_, List.getElem?_eq_getElem (by rw [HM.out]; exact hlt)⟩
        have c1 := (hd.cell _).trans (hc k p hp)
        have c2 := (hd.cell _).trans (hc' k q hq)
        have HP := Lib.hid hp
        have HQ := Lib.hid hq
        clear hc hc' hp hq
        by_cases he : p = q
        · subst he
          have hne : (p != p) = false := by simp
          go_wp2
          go_quiet (fail)
          go_wp2
          go_roundw
          case rel => exact ⟨k + 1, by omega, by go_num, by rw [List.take_add_one, List.take_add_one, HT.out, HP.out, HQ.out], hd.more _⟩
          case measure => simp [intOf]; omega
        · have hne : (p != q) = true := by rw [bne_iff_ne]; exact he
          have HE := Lib.hid he
          clear he
          go_wp2
          go_quiet (fail)
          go_wp2
          go_ret
          exact ⟨ret_bool (decide_eq_false (fun e => HE.out (by have := HP.out; rw [e, HQ.out] at this; exact (Option.some.inj this).symm))).symm, hd.more _⟩
      · go_wp2
        go_ret
        exact ⟨ret_bool (decide_eq_true (by have := HT.out; rw [List.take_of_length_le (by have := HN.out; omega), List.take_of_length_le (by have := HM.out; omega)] at this; exact this)).symm, hd⟩
  · have hz : ((x.length : Int) != (y.length : Int)) = true := by rw [bne_iff_ne]; omega
    have HL := Lib.hid hl
    clear hl hx hy
    go_enter Try.func22, Try.ntmps22
    go_wp2
    go_ret
    exact ⟨ret_bool (decide_eq_false (fun e => HL.out (by rw [e]))).symm, Drawn.refl _⟩
end Go.Proofs.Ytaaclhgnbdcaaaa
