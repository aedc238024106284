/- The walks of what all laws of automata ask first: the chapter's example; whether an automaton is more than is looked at; whether it is a zero one. -/
import Derived.Test.YtdidogcgoghdmaaDfaTells
import Derived.Test.YtdidogcgoghdmaaDfaWord
import Derived.Test.YtdidogcgoghdmaaRefDfaTells
import Derived.Test.YtdidogcgoghdmaaOctets
namespace Go.Proofs.Ytdidogcgoghdmaa
open Go.RowKit
theorem nums_new (w : World) (l : List Int) : Nums (w.alloc (.cells (intVs l).toArray 3)) (.slice (some ⟨w.heap.size, 0, none⟩) l.length l.length) l :=
  ⟨inRow_row (Row.new w _ _) (intVs_length l) (Nat.le_refl _) (fun k u h => by simpa using h)⟩
theorem nums_next {w : World} {g : Nat} (l : List Int) (h : w.heap.size = g) : Nums (w.alloc (.cells (intVs l).toArray 3)) (.slice (some ⟨g, 0, none⟩) l.length l.length) l := by
  rw [← h]; exact nums_new w l
/-- A row of four cells, each one value. -/
def dfaC (d : Au.Dv) (nv av : Value) : Array Value := #[.int .i64 d.k, .int .i64 d.start, nv, av]
theorem slices_one (k s : Int) (A A' : Option Addr) (n c n' c' : Nat) : (#[.int .i64 k, .int .i64 s, .slice A n c, .slice A' n' c'] : Array Value).all (·.oneCell') = true := by simp [Value.oneCell']
/-- Four cells are laid in a block of their own. -/
theorem lay15 (w : World) (cs : Array Value) : ∃ w2 : World, Hid ((w.alloc (.cells #[.int .i64 0, .int .i64 0, .slice none 0 0, .slice none 0 0] 25)).setRow w.heap.size cs = w2) ∧ Row w2 w.heap.size 25 cs ∧ Below w.heap.size w w2 ∧ Hid (w2.heap.size = w.heap.size + 1) :=
  ⟨_, Lib.hid rfl, (Row.new w _ _).whole cs, below_setRow ((Below.refl _ _).alloc (Nat.le_refl _) _) (Nat.le_refl _) _, Lib.hid (by simp)⟩
/-- What is answered, laid in a block of its own. -/
theorem NewAuto.laid {w w' : World} {d : Au.Dv} {code : Int} {e : Ending} (h : NewAuto w d code e w') : ∃ (k s : Int) (A : Option Addr) (n c : Nat) (A' : Option Addr) (n' c' : Nat) (w2 : World),
    e = .returned (.tuple #[.agg #[.int .i64 k, .int .i64 s, .slice A n c, .slice A' n' c'], .int .i64 code]) ∧ Row (w'.alloc (.cells zeroD 25)) w'.heap.size 25 zeroD ∧
    Hid ((w'.alloc (.cells #[.int .i64 0, .int .i64 0, .slice none 0 0, .slice none 0 0] 25)).setRow w'.heap.size #[.int .i64 k, .int .i64 s, .slice A n c, .slice A' n' c'] = w2) ∧
    Row w2 w'.heap.size 25 #[.int .i64 k, .int .i64 s, .slice A n c, .slice A' n' c'] ∧ Hid (Auto w2 (.agg #[.int .i64 k, .int .i64 s, .slice A n c, .slice A' n' c']) d) ∧ Below w.heap.size w w2 ∧ Hid (k = d.k ∧ n' = d.acc.length) ∧ Hid (w2.heap.size = w'.heap.size + 1) := by
  obtain ⟨v, rfl, ha, hb⟩ := h
  obtain ⟨A, c, A', c', rfl, _, _⟩ := ha.parts
  obtain ⟨w2, h2, r2, d2, z2⟩ := lay15 w' #[.int .i64 d.k, .int .i64 d.start, .slice A d.next.length c, .slice A' d.acc.length c']
  exact ⟨_, _, A, _, c, A', _, c', w2, rfl, Row.new _ _ _, h2, r2, Lib.hid (ha.stays d2), hb.trans (d2.mono hb.size), Lib.hid ⟨rfl, rfl⟩, z2⟩
set_option maxRecDepth 100000 in
set_option maxHeartbeats 4000000 in
theorem alive_calls15 (w : World) : Calls Try.prog 13 #[] w fun e w' => e = .returned (.bool true) ∧ Below w.heap.size w w' := by
  have C0 := (Below.refl w.heap.size w).alloc (Nat.le_refl _) (.cells #[.int .i64 0, .int .i64 1] 3)
  have HW := Lib.hid (word_calls 2 _ [0, 1] _ (nums_new w [0, 1]) (by decide))
  go_enter Try.func13, Try.ntmps13
  go_wp2_with fail
  refine HW.out.mono ?_
  rintro e w1 (⟨_, c, hc, ho⟩ | ⟨hne, _⟩)
  · have ht1 := hc.tells [0, 1]
    have ht2 := hc.tells [0]
    have ht3 := hc.tells [0, 1, 1]
    obtain ⟨v, rfl, ha, hb⟩ := ho.new hc.toSound
    generalize Au.Dv.of c = D at *
    have ht1 : D.tells [0, 1] = true := ht1.trans (by decide)
    have ht2 : D.tells [0] = false := ht2.trans (by decide)
    have ht3 : D.tells [0, 1, 1] = false := ht3.trans (by decide)
    have HA := Lib.hid ha
    obtain ⟨A, c1, A', c1', rfl, _, _⟩ := ha.parts
    have HB := Lib.hid (C0.trans (hb.mono C0.size))
    obtain ⟨w2, HW2, R2, D2, HZ2⟩ := lay15 w1 #[.int .i64 D.k, .int .i64 D.start, .slice A D.next.length c1, .slice A' D.acc.length c1']
    have RN := Row.new w1 25 zeroD
    have HT1 := Lib.hid (fun V u W h hx => dtells_calls V u D [0, 1] W h hx (by decide))
    have HT2 := Lib.hid (fun V u W h hx => dtells_calls V u D [0] W h hx (by decide))
    have HT3 := Lib.hid (fun V u W h hx => dtells_calls V u D [0, 1, 1] W h hx (by decide))
    rw [ht1] at HT1
    rw [ht2] at HT2
    rw [ht3] at HT3
    clear ha hb ht1 ht2 ht3 C0 HW hc
    generalize D.next.length = n1 at *
    generalize D.acc.length = n2 at *
    generalize D.k = dk at *
    generalize D.start = ds at *
    have HR := HW2.out.symm ▸ R2
    have E2 := D2.alloc D2.size (.cells #[.int .i64 0, .int .i64 1] 3)
    have HR2 := R2.alloc (.cells #[.int .i64 0, .int .i64 1] 3)
    have HX2 := Lib.hid (nums_next (w := w2) [0, 1] HZ2.out)
    go_wp2_with (first
      | (refine wpList_store_row rfl 25 _ _ rfl w1.heap.size #[.int .i64 dk, .int .i64 ds, .slice A n1 c1, .slice A' n2 c1'] rfl rfl 25 _ RN infoDfa rfl (slices_one _ _ _ _ _ _ _ _) ?_)
      | (refine at_slot 11 rfl ?_; refine load_row rfl 25 _ rfl w1.heap.size rfl HR Try.underlying25 rfl infoDfa ?_))
    rw [HW2.out]
    refine (HT1.out _ _ _ (HA.out.stays E2) HX2.out).mono ?_
    rintro e w3 ⟨rfl, hb3⟩
    have R3 := HR2.stays hb3
    have E3 := E2.trans (hb3.mono E2.size)
    have R4 := R3.alloc (.cells #[.int .i64 0] 3)
    have E4 := E3.alloc E3.size (.cells #[.int .i64 0] 3)
    clear HR HR2 R2 E2 D2 HX2 hb3
    go_wp2_with (refine at_slot 16 rfl ?_; refine load_row rfl 25 _ rfl w1.heap.size rfl R3 Try.underlying25 rfl infoDfa ?_)
    refine (HT2.out _ _ _ (HA.out.stays E4) (nums_new w3 [0])).mono ?_
    rintro e w5 ⟨rfl, hb5⟩
    have R5 := R4.stays hb5
    have E5 := E4.trans (hb5.mono E4.size)
    have E6 := E5.alloc E5.size (.cells #[.int .i64 0, .int .i64 1, .int .i64 1] 3)
    clear R3 R4 E3 E4 hb5
    go_wp2_with (refine at_slot 22 rfl ?_; refine load_row rfl 25 _ rfl w1.heap.size rfl R5 Try.underlying25 rfl infoDfa ?_)
    refine (HT3.out _ _ _ (HA.out.stays E6) (nums_new w5 [0, 1, 1])).mono ?_
    rintro e w7 ⟨rfl, hb7⟩
    go_wp2
    go_ret
    exact ⟨rfl, HB.out.trans ((E6.trans (hb7.mono E6.size)).mono HB.out.size)⟩
  · exact absurd (show wordCode 2 [0, 1] = 0 by decide) hne
end Go.Proofs.Ytdidogcgoghdmaa
