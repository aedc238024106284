/- The walks of readTime and readMonth. -/
import Derived.Test.YtpimaobejjpffaaGreatDoorCutToken
import Derived.Test.YtpimaobejjpffaaGreatDoorCells
namespace Go.Proofs.YtpimaobejjpffaaGreatDoor
open Go.RowKit
/-- Three numbers in a row. -/
def ints3 (ns : List Nat) : Array Value := #[.int .i64 ((ns.getD 0 0 : Nat) : Int), .int .i64 ((ns.getD 1 0 : Nat) : Int), .int .i64 ((ns.getD 2 0 : Nat) : Int)]
theorem ints3_nil : #[Value.int .i64 0, .int .i64 0, .int .i64 0] = ints3 [] := by rfl
theorem ints3_size (ns : List Nat) : (ints3 ns).size = 3 := rfl
theorem ints3_one (ns : List Nat) : (ints3 ns).all (·.oneCell') = true := by simp [ints3, Value.oneCell']
theorem ints3_set {ns : List Nat} {k : Nat} (h : ns.length = k) (hk : k < 3) (n : Nat) : (ints3 ns).setIfInBounds k (.int .i64 (n : Int)) = ints3 (ns ++ [n]) := by
  match k, ns, h, hk with
  | 0, [], _, _ => rfl
  | 1, [a], _, _ => rfl
  | 2, [a, b], _, _ => rfl
def clockL (o : Option (Nat × Nat × Nat)) : List Nat := match o with | some t => [t.1, t.2.1, t.2.2] | none => []
theorem infoClock : (Tryz.prog.info? 63).map (·.size) = some 3 := by kernel_rfl
theorem builtClock : Tryz.prog.built 63 [] = some (ints3 []) := by kernel_rfl
def ClockPost (o : Option (Nat × Nat × Nat)) (w : World) (e : Ending) (w' : World) : Prop := e = .returned (.tuple #[.agg (ints3 (clockL o)), .bool o.isSome]) ∧ Below w.heap.size w w'
theorem clock_none {o : Option (Nat × Nat × Nat)} (h : o = none) {w w' : World} (hb : Below w.heap.size w w') : ClockPost o w (.returned (.tuple #[.agg (ints3 []), .bool false])) w' := by subst h; exact ⟨rfl, hb⟩
theorem clock_some {o : Option (Nat × Nat × Nat)} {a b c : Nat} (h : o = some (a, b, c)) {w w' : World} (hb : Below w.heap.size w w') : ClockPost o w (.returned (.tuple #[.agg (ints3 [a, b, c]), .bool true])) w' := by subst h; exact ⟨rfl, hb⟩
set_option maxRecDepth 100000 in
set_option maxHeartbeats 4000000 in
theorem readTime_calls (s : ByteArray) (w : World) (hs : s.size ≤ maxLen) :
    Calls Tryz.prog 74 #[.string s] w (ClockPost (Dt.time3 s.data.toList) w) := by
  have HP0 := Lib.hid (fun (h : Dt.time3 s.data.toList = none) w' (hb : Below w.heap.size w w') => clock_none h hb)
  have HP1 := Lib.hid (fun a b c (h : Dt.time3 s.data.toList = some (a, b, c)) w' (hb : Below w.heap.size w w') => clock_some h hb)
  generalize hpost : ClockPost (Dt.time3 s.data.toList) w = post at *
  clear hpost
  have HSt := Lib.hid (Dt.Clock.start s.data.toList)
  have hsl := Oct.length_bytes s
  have z3 := ints3_nil
  have HS := Lib.hid hs
  clear hs
  go_enter Tryz.func74, Tryz.ntmps74
  go_wp2_with fail
  have R0 := (Row.new w 63 (ints3 [])).alloc (.cells (ints3 []) 63)
  have hN : (w.alloc (.cells (ints3 []) 63)).heap.size = w.heap.size + 1 := by simp
  have F0 := Row.new (w.alloc (.cells (ints3 []) 63)) 63 (ints3 [])
  have B0 := ((Below.refl w.heap.size w).alloc (Nat.le_refl _) (.cells (ints3 []) 63)).alloc (by simp) (.cells (ints3 []) 63)
  rw [hN] at F0
  clear hN
  generalize (w.alloc (.cells (ints3 []) 63)).alloc (.cells (ints3 []) 63) = w0 at *
  go_loopw [5, 11] (fun v i wr => ∃ (k : Nat) (ns : List Nat) (r : ByteArray), k ≤ 3 ∧ v = .string r ∧ i = .int .i64 k ∧ Dt.Clock s.data.toList k ns r.data.toList ∧ Row wr w.heap.size 63 (ints3 []) ∧ Row wr (w.heap.size + 1) 63 (ints3 ns) ∧ Below w.heap.size w wr) (fun _ i _ => 3 - (intOf i).toNat)
  case atStart => exact ⟨0, [], s, Nat.zero_le _, rfl, rfl, HSt.out, R0, F0, B0⟩
  case round =>
    clear R0 F0 B0
    obtain ⟨k, ns, r, hk, rfl, rfl, hcl, R, F, hb⟩ := hrel
    have hrl := hcl.shorter
    have hfew := hcl.few
    rw [Oct.length_bytes, hsl] at hrl
    have HCl := Lib.hid hcl
    clear hcl
    by_cases hlt : k < 3
    · have hrm : r.size ≤ maxLen := Nat.le_trans hrl HS.out
      have HC0 := Lib.hid (fun W => cutNumber_calls r 1 2 W hrm (by omega) (by omega))
      clear hrm
      cases hn : Dt.tnum r.data.toList with
      | none =>
        have HNo := Lib.hid (HP0.out (HCl.out.no hlt hn))
        have HC : Hid (∀ W, Calls Tryz.prog 75 #[.string r, .int .i64 1, .int .i64 2] W fun e w' => e = .returned (.tuple #[.int .i64 0, .string ⟨#[]⟩, .bool false]) ∧ Below W.heap.size W w') := Lib.hid (fun W => by have := HC0.out W; rw [Dt.cutN_two, hn] at this; exact this)
        clear HC0 hn
        go_wp2_with fail
        refine (HC.out _).mono ?_
        rintro e w2 ⟨rfl, b2⟩
        have R2 := R.stays b2
        have B2 := hb.trans (b2.mono hb.size)
        go_wp2_with (first
          | (refine at_slot 22 rfl ?_; refine wpList_build rfl 63 #[] rfl ?_ ?_; (· rfl); (· rfl))
          | (refine wpList_store_row rfl 63 _ _ rfl w.heap.size (ints3 []) rfl rfl 63 _ R2 infoClock rfl (ints3_one _) ?_))
        exact bodyPost_ret (v := .tuple #[.agg (ints3 []), .bool false]) (results_cell_two rfl _ _ w.heap.size _ _ _ rfl _ rfl (R2.whole _) Tryz.underlying63 rfl infoClock) rfl (HNo.out _ (below_setRow B2 (Nat.le_refl _) _))
      | some t =>
        obtain ⟨n, q⟩ := t
        have HC : Hid (∀ W, Calls Tryz.prog 75 #[.string r, .int .i64 1, .int .i64 2] W fun e w' => e = .returned (.tuple #[.int .i64 (n : Int), .string ⟨q.toArray⟩, .bool true]) ∧ Below W.heap.size W w') := Lib.hid (fun W => by have := HC0.out W; rw [Dt.cutN_two, hn] at this; exact this)
        have HSk : Hid (∀ W, Calls Tryz.prog 29 #[.string ⟨q.toArray⟩, .string ⟨#[58]⟩] W fun e w' => e = .returned (.string ⟨(Dt.skip q).toArray⟩) ∧ W = w') := Lib.hid (fun W => skipColon_calls ⟨q.toArray⟩ W)
        have HMo := Lib.hid (HCl.out.more hlt hn)
        have HF := Lib.hid (ints3_set hfew hlt n)
        clear HC0 hn
        generalize (⟨q.toArray⟩ : ByteArray) = Q at *
        go_wp2_with fail
        refine (HC.out _).mono ?_
        rintro e w2 ⟨rfl, b2⟩
        have R2 := R.stays b2
        have B2 := hb.trans (b2.mono hb.size)
        have F2 := F.stays b2
        clear R F hb b2
        obtain ⟨u1, c1⟩ : ∃ u, w2.cell? ⟨w.heap.size + 1, k, none⟩ = some u := ⟨_, by rw [F2.cell]; exact Array.getElem?_eq_getElem (by rw [ints3_size]; exact hlt)⟩
        have f1 := F2.free k
        have F3 := F2.set k (.int .i64 (n : Int))
        rw [HF.out] at F3
        have B3 := B2.setCell (p := ⟨w.heap.size + 1, k, none⟩) (Nat.le_succ _) (.int .i64 (n : Int))
        have R3 := R2.other (p := ⟨w.heap.size + 1, k, none⟩) (by simp) (.int .i64 (n : Int))
        have hk3 : (k : Int) < 3 := by omega
        clear F2 R2 B2
        go_wp2_with (go_at_call 29; refine (HSk.out _).mono ?_; rintro e w' ⟨rfl, rfl⟩)
        go_roundw
        case rel => exact ⟨k + 1, ns ++ [n], ⟨(Dt.skip q).toArray⟩, by omega, rfl, by go_num, HMo.out, R3, F3, B3⟩
        case measure => simp [intOf]; omega
    · have hk3 : k = 3 := by omega
      subst hk3
      obtain ⟨a, b, c, rfl, ht, _, _, _⟩ := HCl.out.done
      have HY := Lib.hid (HP1.out a b c ht)
      clear ht HCl
      go_wp2_with (first
        | (refine at_slot 29 rfl ?_; refine load_row rfl 63 _ rfl (w.heap.size + 1) rfl F Tryz.underlying63 rfl infoClock ?_)
        | (refine wpList_store_row rfl 63 _ _ rfl w.heap.size (ints3 [a, b, c]) rfl rfl 63 _ R infoClock rfl (ints3_one _) ?_))
      exact bodyPost_ret (v := .tuple #[.agg (ints3 [a, b, c]), .bool true]) (results_cell_two rfl _ _ w.heap.size _ _ _ rfl _ rfl (R.whole _) Tryz.underlying63 rfl infoClock) rfl (HY.out _ (below_setRow hb (Nat.le_refl _) _))
end Go.Proofs.YtpimaobejjpffaaGreatDoor
