/- The walk of the law ShelfRuns. -/
import Derived.Test.YtnepgibjijdheaaShelfAlive
import Derived.Test.YtnepgibjijdheaaShelfDo
import Derived.Test.YtnepgibjijdheaaShelfSame
namespace Go.Proofs.Ytnepgibjijdheaa
open Go.RowKit
def Sh.zeroAct : Sh.Act := ⟨0, Ma.zeroC, [], 0⟩
theorem zeroAct : #[Value.int .i64 0, .string ⟨#[]⟩, .string ⟨#[]⟩, .int .i64 0, .string ⟨#[]⟩, .int .u8 0, .int .u8 0, .int .u8 0, .int .u8 0, .int .u8 0, .int .u8 0, .int .u8 0, .int .u8 0, .int .u8 0, .int .u8 0, .int .u8 0, .int .u8 0, .int .u8 0, .int .u8 0, .int .u8 0, .int .u8 0, .bool false, .string ⟨#[]⟩, .bool false, .bool false, .int .i64 0, .int .i64 0, .int .i64 0, .int .i64 0, .int .i64 0, .string ⟨#[]⟩, .int .i64 0] = actA Sh.zeroAct := by rfl
theorem infoAct : (Try.prog.info? 36).map (·.size) = some 32 := by kernel_rfl
set_option maxRecDepth 100000 in
set_option maxHeartbeats 8000000 in
theorem sruns_walk (acts : List Sh.Act) (w : World) {v : Value} (hv : Lies actA w v acts ∧ acts.length ≤ maxLen ∧ ∀ x ∈ acts, ActOk x) :
    Calls Try.prog 3 #[v] w fun e w' => e = .returned (.bool true) ∧ Below w.heap.size w w' := by
  obtain ⟨hl, hml, hok⟩ := hv
  have z0 := zeroAct
  have HV := Lib.hid hl
  have HOK := Lib.hid hok
  have HA := Lib.hid shelf_alive
  have HN := Lib.hid (fun W => newShelf_calls W)
  have HDO := Lib.hid (fun x hx sb mb s W k v hv hn => @do_calls x hx sb mb s W k v hv hn)
  have HSM := Lib.hid (fun site sb mb s W k v hv => @tells_alike site sb mb s W k v hv)
  unfold DoPost at HDO
  have HZA := Lib.hid (actA_size Sh.zeroAct rfl)
  obtain ⟨A, cp, rfl, hcp, _⟩ := hl
  obtain ⟨n, hnn⟩ : ∃ n, acts.length = n := ⟨_, rfl⟩
  have HNN := Lib.hid hnn
  rw [hnn] at hcp HV hml ⊢
  have hmx : n ≤ 9223372036854775807 := hml
  have C0 := Below.refl w.heap.size w
  have HB0 := Lib.hid built_refShelf0
  clear hnn hml hok
  go_enter Try.func3, Try.ntmps3
  go_wp2_with fail
  refine (HA.out _).mono ?_
  rintro e x1 ⟨rfl, d1⟩
  have C1 := C0.trans (d1.mono C0.size)
  clear C0 d1 HA
  by_cases hbig : 40 < n
  · have hbig' : (40 : Int) < (n : Int) := by omega
    go_wp2
    go_ret
    exact ⟨rfl, C1⟩
  have hbig' : ¬ ((40 : Int) < (n : Int)) := by omega
  go_wp2_with fail
  refine (HN.out _).mono ?_
  rintro e x2 ⟨sb, mb, rfl, K2, hsb, hmb, d2⟩
  have C2 := C1.trans (d2.mono C1.size)
  have ws : w.heap.size ≤ sb := by have := C1.size; omega
  have wm : w.heap.size ≤ mb := by have := C1.size; omega
  have ls := K2.row.lt
  have lm := K2.map.lt
  clear C1 d2 HN hsb hmb
  obtain ⟨Z3, E3, D3, L3⟩ := lay_row 28 #[.slice none 0 0, .int .i64 0] #[.slice none 0 0, .int .i64 0] (Below.refl x2.heap.size x2) (Nat.le_refl _)
  have K3 := K2.stays D3
  have C3 := C2.trans (D3.mono C2.size)
  have wg : w.heap.size ≤ x2.heap.size := C2.size
  clear L3 D3 C2 K2
  go_wp2_with (first
    | (refine at_slot 15 rfl ?_; refine build_list rfl 28 _ rfl _ (by rfl) _ HB0.out ?_)
    | (refine at_store 28 (.tmp 4) (.tmp 15) rfl ?_; refine wpList_store_row rfl 28 _ _ rfl x2.heap.size #[.slice none 0 0, .int .i64 0] rfl rfl 28 _ Z3 zeroRefShelf rfl (by simp [Value.oneCell']) ?_))
  clear Z3
  generalize (x2.alloc (.cells #[.slice none 0 0, .int .i64 0] 28)).setRow x2.heap.size #[.slice none 0 0, .int .i64 0] = x3 at *
  generalize x2.heap.size = g4 at *
  go_loopw [18] (fun i wr => ∃ (k : Nat) (s : Sh.Shelf) (B : Option Addr) (m c : Nat), k ≤ n ∧ i = .int .i64 (k : Int) ∧ ShelfAt wr sb mb s ∧ Lies keptA wr (.slice B m c) s.l ∧ Row wr g4 28 #[.slice B m c, .int .i64 s.last] ∧ s.last ≤ (k : Int) ∧ Below w.heap.size w wr) (fun i _ => n - (intOf i).toNat)
  case atStart => exact ⟨0, Sh.empty, none, 0, 0, Nat.zero_le _, rfl, K3, lies_nil, E3, Int.le_refl _, C3⟩
  case round =>
    obtain ⟨k, s, B, m, c, hk, rfl, K, hL, E, hla, hb⟩ := hrel
    have HL := Lib.hid hL
    clear C3 K3 E3 hL
    by_cases hlt : k < n
    · obtain ⟨x, hx⟩ : ∃ x, acts[k]? = some x := ⟨_, List.getElem?_eq_getElem (by rw [HNN.out]; exact hlt)⟩
      have ko := HOK.out x (List.mem_of_getElem? hx)
      have hv2 := HV.out.stays hb
      have hcc := hv2.block.2.1
      obtain ⟨g, off, rfl, hg⟩ := hv2.block.2.2 (by rw [HNN.out]; omega)
      rw [← HNN.out] at hv2
      have HCE := Lib.hid (hv2.one (fun y hy => actA_size y (HOK.out y hy).cookie.host.addr) hx)
      have HDX := Lib.hid (fun W (q : ShelfAt W sb mb s) v hv => HDO.out x ko sb mb s W q v hv (by omega))
      have HDL := Lib.hid (done_last s x)
      have hk30 := actA_site x ko.cookie.host.addr
      unfold strV at hk30
      obtain ⟨site, hsite⟩ : ∃ b : ByteArray, b = ⟨x.site.toArray⟩ := ⟨_, rfl⟩
      rw [← hsite] at hk30
      obtain ⟨X, hX⟩ : ∃ X, actA x = X := ⟨_, rfl⟩
      rw [hX] at HCE HDX hk30
      have HXN := Lib.hid (show (Try.prog.info? 36).map (·.size) = some X.size by rw [← hX, actA_size _ ko.cookie.host.addr]; exact infoAct)
      have HXZ := Lib.hid (show (actA Sh.zeroAct).size = X.size by rw [← hX, actA_size _ ko.cookie.host.addr]; exact HZA.out)
      have HX1 := Lib.hid (show X.all (·.oneCell') = true by rw [← hX]; exact actA_one _)
      obtain ⟨Z, U, D, L⟩ := lay_row 36 (actA Sh.zeroAct) X (Below.refl wr.heap.size wr) (Nat.le_refl _)
      have K4 := K.stays D
      have E4 := L _ _ _ E
      have HL4 := Lib.hid (HL.out.stays D)
      have C4 := hb.trans (D.mono hb.size)
      have hg4 := E.lt
      have hu1 : wr.heap.size ≠ sb ∧ wr.heap.size ≠ mb ∧ g4 ≠ sb ∧ g4 ≠ mb ∧ wr.heap.size ≠ g4 := by have := K.row.lt; have := K.map.lt; omega
      obtain ⟨us, um, es, em, ue⟩ := hu1
      clear L D hx hv2 hX hb K E HL hsite hg ko
      go_wp2_with (first
        | (refine at_slot 21 rfl ?_; refine load_span rfl 36 _ rfl g (off + k * 32) rfl X HCE.out Try.underlying36 rfl HXN.out ?_)
        | (refine at_store 36 (.tmp 6) (.tmp 21) rfl ?_; refine wpList_store_row rfl 36 _ _ rfl wr.heap.size X rfl rfl 36 _ Z HXN.out HXZ.out HX1.out ?_)
        | (refine at_slot 24 rfl ?_; refine load_row rfl 28 _ rfl g4 rfl E4 Try.underlying28 rfl zeroRefShelf ?_)
        | (refine at_slot 25 rfl ?_; refine load_row rfl 36 _ rfl wr.heap.size rfl U Try.underlying36 rfl HXN.out ?_))
      clear Z HCE
      generalize (wr.alloc (.cells (actA Sh.zeroAct) 36)).setRow wr.heap.size X = x4 at *
      generalize wr.heap.size = g6 at *
      refine (HDX.out x4 K4 _ HL4.out).mono ?_
      rintro e x5 ⟨v5, rfl, K5, hL5, t5⟩
      have C5 := C4.trans (t5.below ws wm C4.size)
      have E5 := t5.rows E4 es em
      have U5 := t5.rows U us um
      clear K4 E4 U HL4 C4 t5 HDX
      obtain ⟨s5, hs5⟩ : ∃ z, z = Sh.done s x := ⟨_, rfl⟩
      rw [← hs5] at K5 hL5 HDL ⊢
      have hla5 : s5.last ≤ ((k + 1 : Nat) : Int) := by have := HDL.out.2; omega
      clear hs5 HDL
      have HL5 := Lib.hid hL5
      have HK5 := Lib.hid (keptA_sizes K5.okay)
      obtain ⟨A5, c5, rfl, _, _⟩ := hL5
      generalize s5.l.length = m5 at HL5 ⊢
      obtain ⟨Z6, E6, D6, L6⟩ := lay_row 28 #[.slice none 0 0, .int .i64 0] #[.slice A5 m5 c5, .int .i64 s5.last] (Below.refl x5.heap.size x5) (Nat.le_refl _)
      have O6 := L6 _ _ _ E5
      have U6 := L6 _ _ _ U5
      have K6 := K5.stays D6
      have HL6 := Lib.hid (HL5.out.stays D6)
      have C6 := C5.trans (D6.mono C5.size)
      have O7 := O6.whole #[.slice A5 m5 c5, .int .i64 s5.last]
      have U7 := U6.aside (k := g4) ue #[.slice A5 m5 c5, .int .i64 s5.last]
      have K7 := K6.rowed (Ne.symm es) (Ne.symm em) #[.slice A5 m5 c5, .int .i64 s5.last]
      have HL7 := Lib.hid (HL6.out.rowed HK5.out (by decide) O6 rfl #[.slice A5 m5 c5, .int .i64 s5.last])
      have C7 := below_setRow (g := g4) C6 wg #[.slice A5 m5 c5, .int .i64 s5.last]
      have HSX := Lib.hid (fun W (q : ShelfAt W sb mb s5) hv => HSM.out site sb mb s5 W q (.slice A5 m5 c5) hv)
      have q30 := (U7.cell 30).trans hk30
      clear L6 D6 E5 U5 K5 C5 HL5 C6 U6 K6 HL6 U7
      go_wp2_with (first
        | (refine at_slot 29 rfl ?_; refine load_row rfl 28 _ rfl x5.heap.size rfl E6 Try.underlying28 rfl zeroRefShelf ?_)
        | (refine at_slot 34 rfl ?_; refine load_row rfl 28 _ rfl g4 rfl O7 Try.underlying28 rfl zeroRefShelf ?_)
        | (refine at_store 28 (.tmp 7) (.tmp 27) rfl ?_; refine wpList_store_row rfl 28 _ _ rfl x5.heap.size #[.slice A5 m5 c5, .int .i64 s5.last] rfl rfl 28 _ Z6 zeroRefShelf rfl (by simp [Value.oneCell']) ?_)
        | (refine at_store 28 (.tmp 4) (.tmp 29) rfl ?_; refine wpList_store_row rfl 28 _ _ rfl g4 #[.slice A5 m5 c5, .int .i64 s5.last] rfl rfl 28 _ O6 zeroRefShelf rfl (by simp [Value.oneCell']) ?_))
      clear Z6 q30 O6 E6
      generalize World.setRow _ g4 #[.slice A5 m5 c5, .int .i64 s5.last] = x7 at *
      refine (HSX.out x7 K7 HL7.out).mono ?_
      rintro e x8 ⟨rfl, d8⟩
      have K8 := K7.stays d8
      have O8 := O7.stays d8
      have HL8 := Lib.hid (HL7.out.stays d8)
      have C8 := C7.trans (d8.mono C7.size)
      clear K7 O7 HL7 C7 d8 HSX
      go_wp2
      go_roundw
      case rel => exact ⟨k + 1, s5, A5, m5, c5, by omega, by go_num, K8, HL8.out, O8, hla5, C8⟩
      case measure => simp [intOf]; omega
    · obtain rfl : k = n := by omega
      have HSX := Lib.hid (fun W (q : ShelfAt W sb mb s) hv => HSM.out ⟨#[]⟩ sb mb s W q (.slice B m c) hv)
      go_wp2_with (refine at_slot 42 rfl ?_; refine load_row rfl 28 _ rfl g4 rfl E Try.underlying28 rfl zeroRefShelf ?_)
      refine (HSX.out wr K HL.out).mono ?_
      rintro e x8 ⟨rfl, d8⟩
      have C8 := hb.trans (d8.mono hb.size)
      go_wp2
      go_ret
      exact ⟨rfl, C8⟩
end Go.Proofs.Ytnepgibjijdheaa
