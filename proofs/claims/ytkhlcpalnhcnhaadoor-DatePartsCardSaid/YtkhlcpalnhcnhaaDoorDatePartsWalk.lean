/- The walk of the law DateParts. -/
import Derived.Test.YtkhlcpalnhcnhaaDoorDateNextWalk
import Derived.Test.YtkhlcpalnhcnhaaDoorOctets
import Derived.Lib.IndexBytes
namespace Go.Proofs.YtkhlcpalnhcnhaaDoor
open Go.RowKit
theorem Bytes.stays {w w' : World} {g : Nat} {l : List UInt8} (h : Bytes w g l) (hb : Below w.heap.size w w') (hg : g < w.heap.size) : Bytes w' g l :=
  ⟨fun j c hj => (hb.cell hg).trans (h.cell j c hj), fun j hj => (hb.frozen hg).trans (h.free j hj)⟩
namespace Dt
def parts12 : ByteArray := ⟨#[9, 32, 44, 47, 59, 64, 91, 95, 96, 123, 126, 45]⟩
theorem parts_at (k : Nat) (h : k < 12) : ∃ c : UInt8, sepB c = true ∧ ∀ h2 : k < (⟨#[9, 32, 44, 47, 59, 64, 91, 95, 96, 123, 126, 45]⟩ : ByteArray).size, (⟨#[9, 32, 44, 47, 59, 64, 91, 95, 96, 123, 126, 45]⟩ : ByteArray)[k] = c := by
  have : k = 0 ∨ k = 1 ∨ k = 2 ∨ k = 3 ∨ k = 4 ∨ k = 5 ∨ k = 6 ∨ k = 7 ∨ k = 8 ∨ k = 9 ∨ k = 10 ∨ k = 11 := by omega
  rcases this with rfl | rfl | rfl | rfl | rfl | rfl | rfl | rfl | rfl | rfl | rfl | rfl <;> exact ⟨_, by decide, fun _ => rfl⟩
/-- The first k bytes with each blank made another byte. -/
def half (c : UInt8) (l : List UInt8) (k : Nat) : List UInt8 := blanks c (l.take k) ++ l.drop k
theorem half_zero (c : UInt8) (l : List UInt8) : half c l 0 = l := by simp [half, blanks]
theorem half_length (c : UInt8) (l : List UInt8) (k : Nat) : (half c l k).length = l.length := by simp [half, blanks]; omega
theorem half_end {c : UInt8} {l : List UInt8} {k : Nat} (h : l.length ≤ k) : half c l k = blanks c l := by
  unfold half; rw [List.take_of_length_le h, List.drop_eq_nil_of_le h, List.append_nil]
theorem half_at {c : UInt8} {l : List UInt8} {k : Nat} (h : k < l.length) : (half c l k)[k]? = some l[k] := by
  unfold half
  rw [List.getElem?_append_right (by simp [blanks]; omega)]
  simp only [blanks, List.length_map, List.length_take]
  rw [List.getElem?_drop, List.getElem?_eq_getElem (by omega)]
  congr 1
  have : k + (k - min k l.length) = k := by omega
  simp only [this]
theorem half_set {c : UInt8} {l : List UInt8} {k : Nat} (h : k < l.length) : (half c l k).set k (if l[k] = 32 then c else l[k]) = half c l (k + 1) := by
  unfold half
  rw [List.set_append_right _ _ (by simp [blanks]; omega), List.take_succ_eq_append_getElem h, blanks_app, List.append_assoc, List.drop_eq_getElem_cons h]
  have : k - (blanks c (l.take k)).length = 0 := by simp [blanks]; omega
  rw [this]; rfl
theorem half_same {c : UInt8} {l : List UInt8} {k : Nat} (h : k < l.length) (hk : l[k] ≠ 32) : half c l k = half c l (k + 1) := by
  rw [← half_set h, if_neg hk]
  refine (List.ext_getElem? fun i => ?_).symm
  by_cases e : i = k
  · subst e; rw [List.getElem?_set_self (by rw [half_length]; exact h), half_at h]
  · rw [List.getElem?_set_ne (by omega)]
end Dt
set_option maxRecDepth 100000 in
set_option maxHeartbeats 8000000 in
theorem dparts_walk (n a : Int) (w : World) (hn : (Lit.int .i64 n).wf = true) (ha : (Lit.int .u8 a).wf = true) (hw : Cal w) :
    Calls Tryd.prog 8 #[.int .i64 n, .int .u8 a] w fun e w' => e = .returned (.bool true) ∧ Below w.heap.size w w' := by
  obtain ⟨n1, n2⟩ := bounds_i64 hn
  have HA := Lib.hid (fun W hW => date_alive W hW)
  unfold BoolPost at HA
  have H1 := Lib.hid (fun W hW => text_calls n W hW n1 n2)
  unfold TextPost at H1
  cases hc : Dt.civil (n / 86400) with
  | none =>
    rw [Dt.text_none hc] at H1
    have HX : Hid (∀ W, Cal W → Calls Tryd.prog 16 #[.int .i64 n] W fun e w' => e = .returned (.string ⟨#[]⟩) ∧ Below W.heap.size W w') := H1
    clear H1 hc hn
    go_enter Tryd.func8, Tryd.ntmps8
    go_wp2_with fail
    refine (HA.out _ hw).mono ?_
    rintro e w1 ⟨rfl, b1⟩
    go_wp2_with fail
    refine (HX.out _ (hw.below b1)).mono ?_
    rintro e w2 ⟨rfl, b2⟩
    go_wp2
    go_ret
    exact ⟨rfl, b1.trans (b2.mono b1.size)⟩
  | some t =>
    obtain ⟨y, m, d⟩ := t
    obtain ⟨hI, _⟩ := Dt.civil_some.1 hc
    have htx := Dt.text_some hc
    have hlen : (Dt.text n).length = 29 := by rw [htx]; exact Dt.date_length hI _ _
    have hdrop : (Dt.text n).drop 5 = Dt.tailT y m d (n % 86400).toNat 32 [] := by rw [htx]; exact Dt.date_drop _ _ _ _ _
    obtain ⟨J, hJ⟩ : ∃ J : Nat, a % 12 = (J : Int) := ⟨(a % 12).toNat, by have := bounds_u8 ha; omega⟩
    have hJ2 : J < 12 := by omega
    obtain ⟨c, hcs, hcx⟩ := Dt.parts_at J hJ2
    have hcx := hcx hJ2
    have hab := bounds_u8 ha
    have q1 : a.tmod 12 = (J : Int) := by rw [Int.tmod_eq_emod_of_nonneg (by omega)]; exact hJ
    have hbl : Dt.blanks c ((Dt.text n).drop 5) = Dt.tailT y m d (n % 86400).toNat c [] := by rw [hdrop]; exact Dt.tail_blanks hI _ c
    have hck := Dt.cookie_tail hc hcs
    have hca := Dt.cookie_around hc hcs
    rw [← hbl] at hck hca
    clear hbl hdrop htx
    obtain ⟨s, hs⟩ : ∃ s : ByteArray, (⟨(Dt.text n).toArray⟩ : ByteArray) = s := ⟨_, rfl⟩
    have hsd : s.data.toList = Dt.text n := by rw [← hs]
    have hsz : s.size = 29 := by rw [← Oct.length_bytes, hsd, hlen]
    rw [hs] at H1
    rw [← hsd] at hck hca
    have hext : (s.extract 5 s.size).data.toList = s.data.toList.drop 5 := Lib.extract_to_end s 5
    obtain ⟨u, hu⟩ : ∃ u : ByteArray, s.extract 5 s.size = u := ⟨_, rfl⟩
    have hu29 : s.extract 5 29 = u := by rw [← hsz]; exact hu
    rw [hu] at hext
    have husz : u.size = 24 := by rw [← Oct.length_bytes, hext, List.length_drop, Oct.length_bytes, hsz]
    rw [← hext] at hck hca
    have hse : s.toList.isEmpty = false := by
      rw [Oct.bytes_data, Bool.eq_false_iff]
      intro e
      have := (Oct.nil_size s).1 (List.isEmpty_iff.1 e)
      omega
    obtain ⟨v, hv⟩ : ∃ v : ByteArray, (⟨(Dt.blanks c u.data.toList).toArray⟩ : ByteArray) = v := ⟨_, rfl⟩
    have hvd : v.data.toList = Dt.blanks c u.data.toList := by rw [← hv]
    have hvs : v.size = 24 := by rw [← Oct.length_bytes, hvd]; unfold Dt.blanks; rw [List.length_map, Oct.length_bytes, husz]
    rw [← hvd] at hck hca
    have HK1 : Hid (∀ W, Cal W → Calls Tryd.prog 14 #[.string v] W fun e w' => e = .returned (.tuple #[.int .i64 n, .bool true]) ∧ Below W.heap.size W w') := Lib.hid (fun W hW => by
      have := cookie_calls v W hW (by unfold maxLen; omega)
      rw [hck] at this
      exact this)
    have hz2 : (⟨#[120]⟩ ++ ⟨#[c, c]⟩ ++ v ++ ⟨#[c]⟩ ++ ⟨#[121]⟩ : ByteArray).data.toList = 120 :: c :: c :: (v.data.toList ++ [c, 121]) := by
      simp [ByteArray.data_append]
    have HK2 : Hid (∀ W, Cal W → Calls Tryd.prog 14 #[.string (⟨#[120]⟩ ++ ⟨#[c, c]⟩ ++ v ++ ⟨#[c]⟩ ++ ⟨#[121]⟩)] W fun e w' => e = .returned (.tuple #[.int .i64 n, .bool true]) ∧ Below W.heap.size W w') := Lib.hid (fun W hW => by
      have := cookie_calls (⟨#[120]⟩ ++ ⟨#[c, c]⟩ ++ v ++ ⟨#[c]⟩ ++ ⟨#[121]⟩) W hW (by rw [← Oct.length_bytes, hz2]; simp only [List.length_cons, List.length_append, List.length_nil, Oct.length_bytes, hvs]; unfold maxLen; omega)
      rw [hz2, hca] at this
      exact this)
    have HV := Lib.hid hv
    have HVD := Lib.hid hvd
    clear hck hca hz2 hext hv hvd hs hsd hlen hn ha hc hI
    have hcv := fun W => run_bytes_of_string (P := Tryd.prog) W 9 33 5 u Tryd.underlying9 Tryd.underlying33 Tryd.underlying5
    go_enter Tryd.func8, Tryd.ntmps8
    go_wp2_with fail
    refine (HA.out _ hw).mono ?_
    rintro e w1 ⟨rfl, b1⟩
    go_wp2_with fail
    refine (H1.out _ (hw.below b1)).mono ?_
    rintro e w2 ⟨rfl, b2⟩
    have B2 := b1.trans (b2.mono b1.size)
    clear b1 b2 HA H1
    go_wp2
    have Y0 := Bytes.new w2 u (grownCap w2 24 0 5) 5
    have B3 : Below w.heap.size w (w2.alloc (.cells (bytesRow u (grownCap w2 24 0 5)) 5 ((bytesRow u (grownCap w2 24 0 5)).size, (bytesRow u (grownCap w2 24 0 5)).size + 1))).drew := (B2.alloc B2.size _).drew
    change Bytes (w2.alloc (.cells (bytesRow u (grownCap w2 24 0 5)) 5 ((bytesRow u (grownCap w2 24 0 5)).size, (bytesRow u (grownCap w2 24 0 5)).size + 1))).drew w2.heap.size u.data.toList at Y0
    have hg3 : w2.heap.size < (w2.alloc (.cells (bytesRow u (grownCap w2 24 0 5)) 5 ((bytesRow u (grownCap w2 24 0 5)).size, (bytesRow u (grownCap w2 24 0 5)).size + 1))).drew.heap.size := by
      show w2.heap.size < (w2.alloc _).heap.size
      simp
    have hwg := B2.size
    generalize (w2.alloc (.cells (bytesRow u (grownCap w2 24 0 5)) 5 ((bytesRow u (grownCap w2 24 0 5)).size, (bytesRow u (grownCap w2 24 0 5)).size + 1))).drew = w3 at *
    generalize grownCap w2 24 0 5 = cap at *
    generalize w2.heap.size = g at *
    clear B2 hcv
    have hul : u.data.toList.length = 24 := by rw [Oct.length_bytes, husz]
    go_loopw [28] (fun i wr => ∃ k : Nat, k ≤ 24 ∧ i = .int .i64 k ∧ Bytes wr g (Dt.half c u.data.toList k) ∧ g < wr.heap.size ∧ Below w.heap.size w wr) (fun i _ => 24 - (intOf i).toNat)
    case atStart => exact ⟨0, Nat.zero_le _, rfl, by rw [Dt.half_zero]; exact Y0, hg3, B3⟩
    case round =>
      clear Y0 B3 hg3
      obtain ⟨k, hk, rfl, hY, hgl, hb⟩ := hrel
      by_cases hlt : k < 24
      · have hkl : k < u.data.toList.length := by omega
        have hcell := hY.cell k _ (Dt.half_at hkl)
        have hfr := hY.free k (by rw [Dt.half_length]; exact hkl)
        by_cases h32 : u.data.toList[k] = 32
        · have hset := hY.set k c
          have e1 : (Dt.half c u.data.toList k).set k c = Dt.half c u.data.toList (k + 1) := by
            have := Dt.half_set (c := c) hkl
            rw [if_pos h32] at this
            exact this
          rw [e1] at hset
          rw [h32] at hcell
          have hb2 := hb.setCell (p := ⟨g, k, none⟩) hwg (byteV c)
          have hcell2 : wr.cell? ⟨g, k, none⟩ = some (.int .u8 32) := hcell
          clear hcell
          unfold byteV at hset hb2
          clear hY h32
          go_wp2
          go_roundw
          case rel => exact ⟨k + 1, by omega, by go_num, hset, by simp [World.setCell]; exact hgl, hb2⟩
          case measure => simp [intOf]; omega
        · have hY2 := hY
          rw [Dt.half_same hkl h32] at hY2
          have hku : k < u.size := by omega
          have hne : ((u[k].toNat : Int) == 32) = false := by
            rw [beq_eq_false_iff_ne]
            intro e
            exact h32 (by rw [Oct.getElem_bytes u k hku]; exact Oct.eq_of_toNat (by show _ = 32; omega))
          unfold byteV at hcell
          rw [Oct.getElem_bytes u k hku] at hcell
          clear hY h32 hfr
          go_wp2
          go_roundw
          case rel => exact ⟨k + 1, by omega, by go_num, hY2, hgl, hb⟩
          case measure => simp [intOf]; omega
      · have hk24 : k = 24 := by omega
        subst hk24
        rw [Dt.half_end (by omega)] at hY
        have hs1 := hY.string (cap := cap)
        have hbl : (Dt.blanks c u.data.toList).length = 24 := by unfold Dt.blanks; rw [List.length_map, hul]
        rw [hbl, HV.out] at hs1
        have HY2 := Lib.hid hY
        clear hY
        go_wp2_with fail
        refine (HK1.out _ (hw.below hb)).mono ?_
        rintro e w4 ⟨rfl, b4⟩
        have hY4 := HY2.out.stays b4 hgl
        have hg4 : g < w4.heap.size := Nat.lt_of_lt_of_le hgl b4.size
        have B4 := hb.trans (b4.mono hb.size)
        have t1 := two_string w4 c c
        have hY5 := hY4.stays ((Below.refl w4.heap.size w4).alloc (Nat.le_refl _) (.cells #[.int .u8 (c.toNat : Int), .int .u8 (c.toNat : Int)] 5)) hg4
        have B5 := B4.alloc B4.size (.cells #[.int .u8 (c.toNat : Int), .int .u8 (c.toNat : Int)] 5)
        have hs5 := hY5.string (cap := cap)
        rw [hbl, HV.out] at hs5
        have t2 := one_string (w4.alloc (.cells #[.int .u8 (c.toNat : Int), .int .u8 (c.toNat : Int)] 5)) c
        have hn5 : (w4.alloc (.cells #[.int .u8 (c.toNat : Int), .int .u8 (c.toNat : Int)] 5)).heap.size = w4.heap.size + 1 := by simp
        rw [hn5] at t2
        have B6 := B5.alloc B5.size (.cells #[.int .u8 (c.toNat : Int)] 5)
        have s2 : (⟨#[c, c]⟩ : ByteArray).size = 2 := rfl
        have s1 : (⟨#[c]⟩ : ByteArray).size = 1 := rfl
        have p0 : ¬ 9223372036854775807 < 1 + 2 + v.size := by omega
        have p1 : ¬ 9223372036854775807 < 1 + 2 + v.size + 1 := by omega
        have p2 : ¬ 9223372036854775807 < 1 + 2 + v.size + 1 + 1 := by omega
        clear hs1 hY4 hY5 HY2 b4
        go_wp2_with fail
        refine (HK2.out _ (hw.below B6)).mono ?_
        rintro e w5 ⟨rfl, b5⟩
        go_wp2
        go_ret
        exact ⟨rfl, B6.trans (b5.mono B6.size)⟩
end Go.Proofs.YtkhlcpalnhcnhaaDoor
