/- The walk of strings.IndexAny for texts of whatever bytes and bytes below 128 that are looked for. -/
import Derived.Test.YtjfipedcjahbkaaGreatDoorOctets
import Derived.Test.YtjfipedcjahbkaaGreatDoorShelf
import Derived.Test.YtjfipedcjahbkaaGreatDoorPlains
import Derived.Laws.Runes
import Derived.WalkMore
import Derived.Lib.OthersKept
import Derived.Shelf.Strings.IndexAnyAll
namespace Go.Proofs.YtjfipedcjahbkaaGreatDoor
open Go.RowKit
theorem validRune_calls (r : Int) (w : World) :
    Calls Tryz.prog 71 #[.int .i32 r] w fun e w' => e = .returned (.bool (validRune r)) ∧ w = w' := by
  go_enter Tryz.func71, Tryz.ntmps71
  go_wp2
  all_goals
    go_ret
    exact ⟨ret_bool (by unfold validRune; rw [Bool.eq_iff_iff]; simp; try omega), rfl⟩
theorem quietL2 {P : Program} {f : FuncId} {args : Array Value} {w : World} {k n : Nat} {v : Value} (h : Calls P f args (w.drewN (k + n)) fun e w' => e = .returned v ∧ w.drewN (k + n) = w') :
    Calls P f args (w.drewN (k + n)) fun e w'' => e = .returned v ∧ ∃ m, w'' = w.drewN (k + m) := h.mono fun _ _ hh => ⟨hh.1, n, hh.2.symm⟩
theorem below_draws (B : Nat) (w : World) (n : Nat) : Below B w (w.drewN n) := (show Drawn w (w.drewN n) from ⟨n, rfl⟩).below B
theorem high_calls (s : ByteArray) (c : UInt8) (k : Nat) (hc : 128 ≤ c.toNat) (hs : ∀ b ∈ s.data.toList, b.toNat < 128) (W : World) :
    Calls Tryz.prog 70 #[.string (s.extract k s.size), .int .u8 (c.toNat : Int)] W fun e w' => e = .returned (.int .i64 (-1)) ∧ W = w' := by
  refine (Tryz.strings_IndexByte (s.extract k s.size) (c.toNat : Int) W).mono fun e w' ⟨he, hw⟩ => ⟨?_, hw.symm⟩
  rw [he]
  have e1 : ((c.toNat : Int)).toNat.toUInt8 = c := by simp
  rw [e1, Rune.no_byte hc (fun b hb => hs b (mem_extract hb))]
set_option maxRecDepth 100000 in
set_option maxHeartbeats 4000000 in
/-- A rune beyond 127 stands in no text of bytes below 128. -/
theorem runeHigh_calls (s : ByteArray) (r : Int) (w : World) (h0 : 128 ≤ r) (hs : ∀ b ∈ s.data.toList, b.toNat < 128) (hz : s.size ≤ 1000) :
    Calls Tryz.prog 50 #[.string s, .int .i32 r] w fun e w' => e = .returned (.int .i64 (-1)) ∧ Below w.heap.size w w' := by
  have h1 : (0 : Int) ≤ r := by omega
  have h2 : ¬ r < 128 := by omega
  by_cases he : r = 65533
  · have he1 : (r == 65533) = true := by rw [he]; rfl
    have HS := Lib.hid hs
    clear hs he
    go_enter Tryz.func50, Tryz.ntmps50
    go_wp2
    go_loopg [5, 6] s.size (fun g _ _ wx => ∃ i : Nat, i + g = s.size ∧ wx = w.iter s i)
    case atStart => exact ⟨0, by omega, rfl⟩
    case round =>
      obtain ⟨i, hig, rfl⟩ := hrel
      cases gk with
      | zero =>
        obtain rfl : i = s.size := by omega
        have hnx := run_next_end (P := Tryz.prog) w s s.size
        go_wp2
        go_ret
        exact ⟨rfl, (Below.refl w.heap.size w).alloc (Nat.le_refl _) _⟩
      | succ g =>
        have hi : i < s.size := by omega
        obtain ⟨x, hx⟩ : ∃ x : UInt8, s[i]'hi = x := ⟨_, rfl⟩
        have hx128 : x.toNat < 128 := HS.out x (by rw [← hx]; exact Array.getElem_mem_toList (xs := s.data) hi)
        have hnx := fun ty => run_next_ascii (P := Tryz.prog) w s i ty hi (by rw [hx]; exact hx128)
        rw [hx] at hnx
        have hne : ((x.toNat : Int) == 65533) = false := beq_eq_false_iff_ne.2 (by omega)
        go_wp2
        go_roundg g
        case measure => omega
        case rel => exact ⟨i + 1, by omega, rfl⟩
  have he1 : (r == 65533) = false := beq_eq_false_iff_ne.2 he
  cases hv : validRune r with
  | false =>
    have H := Lib.hid (fun W => validRune_calls r W)
    rw [hv] at H
    clear hv hs
    go_enter Tryz.func50, Tryz.ntmps50
    go_wp2_with (go_at_call 71; refine (H.out _).mono ?_; rintro e w' ⟨rfl, rfl⟩)
    go_ret
    exact ⟨rfl, Below.refl _ _⟩
  | true =>
    obtain ⟨f1, f2, f3⟩ := encode_facts r (by rw [validRune_eq]; exact hv) h0
    have H := Lib.hid (fun W => validRune_calls r W)
    rw [hv] at H
    have hi32 := Tryz.underlying21
    have hstr := Tryz.underlying9
    obtain ⟨E, hE⟩ : ∃ E, Utf8.encode r = E := ⟨_, rfl⟩
    have HE := fun W => run_convert_int_string (P := Tryz.prog) (w := W) (src := 21) (dst := 9) (k := .i32) (n := r) (hs := by rw [hi32]; rfl) (hd := hstr)
    rw [hE] at f1 f2 f3
    have hlast : E.size - 1 < E.size := by omega
    obtain ⟨c, hc⟩ : ∃ c, E[E.size - 1]'hlast = c := ⟨_, rfl⟩
    have hc128 := f3 hlast
    rw [hc] at hc128
    have hw1 : IntKind.i64.wrap ((E.size : Int) - 1) = ((E.size - 1 : Nat) : Int) := by rw [IntKind.wrap_i64]; omega
    have HS := Lib.hid hs
    have HC := Lib.hid hc
    clear hv hs f3 hc
    generalize hl : E.size - 1 = l at *
    go_enter Tryz.func50, Tryz.ntmps50
    go_wp2_with (go_at_call 71; refine (H.out _).mono ?_; rintro e w' ⟨rfl, rfl⟩)
    go_step3
    go_wp2
    go_loopw [9, 10, 11, 12] (fun i _ _ _ wr => i = .int .i64 (l : Int) ∧ wr = w) (fun _ _ _ _ _ => 0)
    case atStart => exact ⟨rfl, rfl⟩
    case round =>
      obtain ⟨rfl, rfl⟩ := hrel
      by_cases hlt : l < s.size
      · have hsl : (s[l]'hlt).toNat < 128 := HS.out _ (Array.getElem_mem_toList (xs := s.data) hlt)
        have hcl : (E[l]'hlast).toNat = c.toNat := by rw [HC.out]
        have hne : (((s[l]'hlt).toNat : Int) != ((E[l]'hlast).toNat : Int)) = true := by rw [bne_iff_ne]; omega
        have HI := Lib.hid (high_calls s (E[l]'hlast) (l + 1) (by omega) HS.out)
        have hw2 : IntKind.i64.wrap ((l : Int) + 1) = (l : Int) + 1 := by rw [IntKind.wrap_i64]; omega
        have hle0 : (0 : Int) ≤ (l : Int) + 1 := by omega
        have hle1 : (l : Int) + 1 ≤ (s.size : Int) := by omega
        have hto : ((l : Int) + 1).toNat = l + 1 := by omega
        clear hsl hcl HS HC
        go_wp2
        go_step3
        go_wp2
        go_quiet (fail)
        go_wp2
        go_quiet ((go_at_call 70; exact quietL2 (HI.out _)))
        go_wp2
        rw [Exit.noGoto_ret]
        go_wp2
        rw [Exit.noGoto_ret]
        go_ret
        exact ⟨rfl, below_draws _ _ _⟩
      · go_wp2
        rw [Exit.noGoto_ret]
        go_ret
        exact ⟨rfl, Below.refl _ _⟩
set_option maxRecDepth 100000 in
set_option maxHeartbeats 4000000 in
/-- A text of at most eight bytes, rune by rune. -/
theorem anyShort_calls (s chars : ByteArray) (w : World) (h2 : 2 ≤ chars.size) (h8 : s.size ≤ 8) (hz : chars.size ≤ 1000) (hch : ∀ b ∈ chars.data.toList, b.toNat < 128) :
    Calls Tryz.prog 31 #[.string s, .string chars] w fun e w' => e = .returned (.int .i64 (Lib.indexAny s.data.toList chars.data.toList)) ∧ Below w.heap.size w w' := by
  have hemp : chars.toList.isEmpty = false := by
    rw [Lib.toList_data]
    cases h : chars.data.toList with
    | nil => have := Lib.size_eq chars; rw [h, List.length_nil] at this; omega
    | cons _ _ => rfl
  have hn1 : ((chars.size : Int) == 1) = false := beq_eq_false_iff_ne.2 (by omega)
  have h8z : decide ((8 : Int) < (s.size : Int)) = false := decide_eq_false (by omega)
  have HS := Lib.hid (fun W => Tryz.strings_shouldUseASCIISet (s.size : Int) W)
  rw [h8z] at HS
  have HR := Lib.hid (fun r W h => runeHigh_calls chars r W h hch hz)
  have HA := Lib.hid (fun r W h0 h1 => Tryz.strings_IndexRune_ascii chars r W h0 h1)
  have HC := Lib.hid hch
  clear h8z hch
  go_enter Tryz.func31, Tryz.ntmps31
  go_wp2_with (go_at_call 51; refine (HS.out _).mono ?_; rintro e w' ⟨rfl, hw⟩; rw [hw])
  go_loopg [9, 10] s.size (fun g _ _ wx => ∃ i : Nat, i + g = s.size ∧ wx.heap[w.heap.size]? = some (.stringIter s i) ∧ Below w.heap.size w wx ∧ Lib.NoAny s.data.toList chars.data.toList i)
  case atStart => exact ⟨0, by omega, World.iter_heap w s 0, (Below.refl w.heap.size w).alloc (Nat.le_refl _) _, Lib.NoAny.zero _ _⟩
  case round =>
    obtain ⟨i, hig, hk, hb, hno⟩ := hrel
    have HN := Lib.hid hno
    clear hno
    cases gk with
    | zero =>
      obtain rfl : i = s.size := by omega
      have hnx := fun ty => Go.Lib.run_next_end_at (P := Tryz.prog) wr w.heap.size s s.size ty hk (by omega)
      have HB := Lib.hid hb
      clear hb hk
      go_wp2
      go_ret
      exact ⟨ret_int (by rw [Lib.indexAny_none (by rw [← Lib.size_eq]; exact HN.out)]), HB.out⟩
    | succ g =>
      have hi : i < s.size := by omega
      obtain ⟨x, hx⟩ : ∃ x : UInt8, s[i]'hi = x := ⟨_, rfl⟩
      have hxl : s.data.toList[i]? = some x := by rw [← hx]; exact Lib.data_getElem? s i hi
      have hk2 := fun p => Go.Lib.iterAt_heap wr w.heap.size s i p hk
      have hb2 := fun p => Go.Lib.below_iterAt hb (Nat.le_refl w.heap.size) s p
      by_cases hx128 : x.toNat < 128
      · have hnx := fun ty => Go.Lib.run_next_ascii_at (P := Tryz.prog) wr w.heap.size s i ty hk hi (by rw [hx]; exact hx128)
        rw [hx] at hnx
        have hk3 := Lib.hid (hk2 (i + 1))
        have hb3 := Lib.hid (hb2 (i + 1))
        have Hx := Lib.hid hxl
        clear hk2 hb2 hk hb hxl hx
        generalize wr.iterAt w.heap.size s (i + 1) = wy at *
        have hcon := Lib.contains_iff_indexByte chars.data.toList x
        have hback : ((x.toNat : Int)).toNat.toUInt8 = x := by simp
        have HX := Lib.hid (HA.out (x.toNat : Int) wy (by omega) (by omega))
        rw [hback] at HX
        clear hback
        cases hin : chars.data.toList.contains x with
        | false =>
          rw [hin] at hcon
          have hlt : ¬ ((0 : Int) ≤ Lib.indexByte chars.data.toList x) := of_decide_eq_false hcon.symm
          have HI := Lib.hid hin
          clear hcon hin
          go_wp2_with (go_at_call 50; refine HX.out.mono ?_; rintro e w' ⟨rfl, hw⟩; rw [hw])
          go_roundg g
          case measure => omega
          case rel => exact ⟨i + 1, by omega, hk3.out, hb3.out, HN.out.succ Hx.out HI.out⟩
        | true =>
          rw [hin] at hcon
          have hge : (0 : Int) ≤ Lib.indexByte chars.data.toList x := of_decide_eq_true hcon.symm
          have HI := Lib.hid hin
          clear hcon hin
          go_wp2_with (go_at_call 50; refine HX.out.mono ?_; rintro e w' ⟨rfl, hw⟩; rw [hw])
          go_ret
          exact ⟨ret_int (Lib.indexAny_hit HN.out Hx.out HI.out).symm, hb3.out⟩
      · have hx2 : 128 ≤ (s[i]'hi).toNat := by rw [hx]; omega
        obtain ⟨d1, d2⟩ := decode_high s i hi hx2
        have d3 := Rune.decode_skip s i hi hx2
        have hnx := fun ty => Go.Lib.run_next_any_at (P := Tryz.prog) wr w.heap.size s i ty hk hi
        generalize (Utf8.decode s i).2 = wd at *
        generalize (Utf8.decode s i).1 = r at *
        have hle : i + wd ≤ s.size := by
          obtain ⟨hh, _⟩ := d3 (i + wd - 1) (by omega) (by omega)
          omega
        have hskip := Lib.hid (Rune.any_skip (j := i + wd) HN.out (fun k b h1 h2 h3 => by
          obtain ⟨hh, h4⟩ := d3 k h1 h2
          have e := Lib.data_getElem? s k hh
          rw [h3] at e
          refine Rune.low_free HC.out ?_
          rw [Option.some.inj e]; exact h4))
        have hk3 := Lib.hid (hk2 (i + wd))
        have hb3 := Lib.hid (hb2 (i + wd))
        clear hk2 hb2 hk hb hxl hx d3 HN
        generalize wr.iterAt w.heap.size s (i + wd) = wy at *
        have hlt : w.heap.size < wy.heap.size := (Array.getElem?_eq_some_iff.1 hk3.out).1
        have HX := Lib.hid (HR.out (r : Int) wy (by omega))
        go_wp2_with fail
        refine HX.out.mono ?_
        rintro e w4 ⟨rfl, hb4⟩
        have hk5 := Lib.hid ((hb4.block _ hlt).trans hk3.out)
        have hb5 := Lib.hid (hb3.out.trans (hb4.mono (by omega)))
        clear hb4 hk3 hb3
        go_wp2
        go_roundg (s.size - (i + wd))
        case measure => omega
        case rel => exact ⟨i + wd, by omega, hk5.out, hb5.out, hskip.out⟩
/-- Where one of two or more bytes below 128 stands first, in a text of whatever bytes. -/
theorem any_calls (s chars : ByteArray) (w : World) (h2 : 2 ≤ chars.size) (hz : chars.size ≤ 1000) (hch : ∀ b ∈ chars.data.toList, b.toNat < 128) (hs : s.size ≤ 4294967280) :
    Calls Tryz.prog 31 #[.string s, .string chars] w fun e w' => e = .returned (.int .i64 (Lib.indexAny s.data.toList chars.data.toList)) ∧ Below w.heap.size w w' := by
  by_cases h8 : s.size ≤ 8
  · exact anyShort_calls s chars w h2 h8 hz hch
  · refine (Tryz.strings_IndexAny_long (zero_of_info (n := 256) (by kernel_rfl)).1 s chars w h2 (by omega) (by omega) (by omega) (fun j b hj => hch b (List.mem_of_getElem? hj))).mono fun e w' ⟨he, hw⟩ => ⟨he, ?_⟩
    rw [hw]
    exact ((Below.refl w.heap.size w).alloc (Nat.le_refl _) _).alloc (by show w.heap.size ≤ (w.heap.push _).size; simp) _
theorem anyOne_calls (s chars : ByteArray) (w : World) (h1 : chars.size = 1) (hch : ∀ b ∈ chars.data.toList, b.toNat < 128) :
    Calls Tryz.prog 31 #[.string s, .string chars] w fun e w' => e = .returned (.int .i64 (Lib.indexAny s.data.toList chars.data.toList)) ∧ Below w.heap.size w w' :=
  (Tryz.strings_IndexAny_one s chars w h1 (fun j b hj => hch b (List.mem_of_getElem? hj))).mono fun e w' ⟨he, hw⟩ => ⟨he, by rw [hw]; exact Below.refl _ _⟩
end Go.Proofs.YtjfipedcjahbkaaGreatDoor
