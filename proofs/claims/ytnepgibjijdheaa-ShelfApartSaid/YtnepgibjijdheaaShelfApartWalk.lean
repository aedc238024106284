/- The walk of the law ShelfApart. -/
import Derived.Test.YtnepgibjijdheaaShelfAlive
import Derived.Test.YtnepgibjijdheaaShelfGet
import Derived.Test.YtnepgibjijdheaaShelfUse
import Derived.Test.YtnepgibjijdheaaShelfDrop
import Derived.Test.YtnepgibjijdheaaShelfCount
import Derived.Test.YtnepgibjijdheaaMatchAhead
namespace Go.Proofs.Ytnepgibjijdheaa
open Go.RowKit
theorem Turn2.rows {sb mb : Nat} {w w' : World} (t : Turn2 sb mb w w') {g : Nat} {T : TypeId} {cs : Array Value} (h : Row w g T cs) (h1 : g ≠ sb) (h2 : g ≠ mb) : Row w' g T cs := (t.same g h.lt h1 h2).trans h
namespace Sh
def kA (a : Ma.Cookie) : Kept := ⟨{ a with seq := 1 }, [120]⟩
def kB (b : Ma.Cookie) : Kept := ⟨{ b with seq := 2 }, [120]⟩
section
variable {a b : Ma.Cookie} (h : Ma.key a b = false)
include h
theorem miss_a : Ma.key (kA a).c b = false := h
theorem apart_put : put ⟨[kA a], 1⟩ b [120] = (⟨[kA a, kB b], 2⟩, false) := by
  have h1 := miss_a h
  simp [put, place, hit, List.findIdx?_cons, h1]
  rfl
theorem apart_at {k : Kept} (hk : Ma.key k.c b = true) (n : Int) : place ⟨[kA a, k], n⟩ b = some 1 := by
  have h1 := miss_a h
  simp [place, hit, List.findIdx?_cons, h1, hk]
theorem apart_use (now : Int) : use ⟨[kA a, kB b], 2⟩ b now = (⟨[kA a, used now (kB b)], 2⟩, true) := by
  unfold use
  rw [apart_at h (Ma.key_self b)]
  rfl
theorem apart_over (now : Int) (v : List UInt8) : put ⟨[kA a, used now (kB b)], 2⟩ { b with value := v } [121] = (⟨[kA a, old { b with value := v } [121] (used now (kB b))], 2⟩, true) := by
  unfold put
  rw [show place ⟨[kA a, used now (kB b)], 2⟩ { b with value := v } = some 1 from apart_at h (k := used now (kB b)) (Ma.key_self b) 2]
  rfl
theorem apart_drop (now : Int) (v : List UInt8) : drop ⟨[kA a, old { b with value := v } [121] (used now (kB b))], 2⟩ b = (⟨[kA a], 2⟩, true) := by
  unfold drop
  rw [apart_at h (k := old { b with value := v } [121] (used now (kB b))) (Ma.key_self b) 2]
  rfl
theorem seek_b : seek ⟨[kA a], 2⟩ b = none := by
  have h1 := miss_a h
  simp [seek, hit, h1]
end
theorem apart_first (a : Ma.Cookie) : put empty a [120] = (⟨[kA a], 1⟩, false) := rfl
theorem seek_a (a : Ma.Cookie) (l : List Kept) (n : Int) : seek ⟨kA a :: l, n⟩ a = some (kA a) := by
  have h1 : Ma.key (kA a).c a = true := Ma.key_self a
  simp [seek, hit, h1]
end Sh
theorem cookieA_setValue (c : Ma.Cookie) (v : List UInt8) : (cookieA c).setIfInBounds 1 (.string ⟨v.toArray⟩) = cookieA { c with value := v } := by
  unfold cookieA
  rw [List.setIfInBounds_toArray]; rfl
/-- How much a cookie weighs bounds its value. -/
theorem value_small {H : Type} {ts : List TypeId} {ds : List (DataW H)} (h : (DataW.weightsEach Try.prog ts ds).all (· ≤ reachBytes) = true) {j : Nat} {c : Ma.Cookie} (ht : ts[j]? = some 34) (hd : ds[j]? = some (cookieD c)) : c.value.length ≤ reachBytes := by
  have h2 := List.all_eq_true.1 h _ (DataW.weights_mem_each ht hd c.value.length (by simp [cookieD, DataW.weights, DataW.weightsEach, Try.underlying34]))
  simpa using h2
set_option maxRecDepth 100000 in
set_option maxHeartbeats 8000000 in
theorem sapart_walk (a b : Ma.Cookie) (now : Int) (w : World) (ha : CookieOk a) (hb : CookieOk b) (_ : (Lit.int .i64 now).wf = true) (hbv : b.value.length ≤ reachBytes) :
    Calls Try.prog 6 #[.agg (cookieA a), .agg (cookieA b), .int .i64 now] w fun e w' => e = .returned (.bool true) ∧ Below w.heap.size w w' := by
  have z1 := zeroCookie
  have HA := Lib.hid shelf_alive
  have HKY := Lib.hid (fun W => refKey_calls a b ha.host.addr hb.host.addr W)
  have HN := Lib.hid (fun W => newShelf_calls W)
  have HPA := Lib.hid (fun W sb mb (h : ShelfAt W sb mb Sh.empty) => putShelf_calls a ha.place ⟨#[120]⟩ (by decide) W h (by decide))
  rw [show Sh.put Sh.empty a (⟨#[120]⟩ : ByteArray).data.toList = (⟨[Sh.kA a], 1⟩, false) from Sh.apart_first a] at HPA
  obtain ⟨c, hcv⟩ : ∃ c : Ma.Cookie, c = { b with value := b.value ++ [33] } := ⟨_, rfl⟩
  have hco : PlaceOk c := by rw [hcv]; exact ⟨hb.host, hb.name, hb.path⟩
  have hca := hco.host.addr
  have HPB : Hid (Ma.key a b = false → ∀ W sb mb, ShelfAt W sb mb ⟨[Sh.kA a], 1⟩ → Calls Try.prog 12 #[.pointer (some ⟨sb, 0, none⟩), .agg (cookieA b), .string ⟨#[120]⟩] W fun e w' => e = .returned (.bool false) ∧ ShelfAt w' sb mb ⟨[Sh.kA a, Sh.kB b], 2⟩ ∧ Turn2 sb mb W w') := Lib.hid (fun hk W sb mb h => by
    have k := putShelf_calls b hb.place ⟨#[120]⟩ (by decide) W h (show (1 : Int) < 1000000 by decide)
    rw [show Sh.put ⟨[Sh.kA a], 1⟩ b (⟨#[120]⟩ : ByteArray).data.toList = (⟨[Sh.kA a, Sh.kB b], 2⟩, false) from Sh.apart_put hk] at k
    exact k)
  have HGA : Hid (∀ l W sb mb, ShelfAt W sb mb ⟨Sh.kA a :: l, 2⟩ → Calls Try.prog 13 #[.pointer (some ⟨sb, 0, none⟩), .agg (cookieA a)] W fun e w' => e = .returned (.tuple #[.agg (cookieA (Sh.kA a).c), .bool true]) ∧ Below W.heap.size W w') := Lib.hid (fun l W sb mb h => by
    have k := getShelf_calls a ha.place W h
    rw [Sh.seek_a] at k
    exact k)
  have HUB : Hid (Ma.key a b = false → ∀ W sb mb, ShelfAt W sb mb ⟨[Sh.kA a, Sh.kB b], 2⟩ → Calls Try.prog 19 #[.pointer (some ⟨sb, 0, none⟩), .agg (cookieA b), .int .i64 now] W fun e w' => e = .returned (.bool true) ∧ ShelfAt w' sb mb ⟨[Sh.kA a, Sh.used now (Sh.kB b)], 2⟩ ∧ Turn2 sb mb W w') := Lib.hid (fun hk W sb mb h => by
    have k := useShelf_calls b hb.place now W h
    rw [Sh.apart_use hk] at k
    exact k)
  have HPC : Hid (Ma.key a b = false → ∀ W sb mb, ShelfAt W sb mb ⟨[Sh.kA a, Sh.used now (Sh.kB b)], 2⟩ → Calls Try.prog 12 #[.pointer (some ⟨sb, 0, none⟩), .agg (cookieA c), .string ⟨#[121]⟩] W fun e w' => e = .returned (.bool true) ∧ ShelfAt w' sb mb ⟨[Sh.kA a, Sh.old c [121] (Sh.used now (Sh.kB b))], 2⟩ ∧ Turn2 sb mb W w') := Lib.hid (fun hk W sb mb h => by
    have k := putShelf_calls c hco ⟨#[121]⟩ (by decide) W h (show (2 : Int) < 1000000 by decide)
    rw [hcv, show Sh.put ⟨[Sh.kA a, Sh.used now (Sh.kB b)], 2⟩ { b with value := b.value ++ [33] } (⟨#[121]⟩ : ByteArray).data.toList = _ from Sh.apart_over hk now _, ← hcv] at k
    exact k)
  have HDB : Hid (Ma.key a b = false → ∀ W sb mb, ShelfAt W sb mb ⟨[Sh.kA a, Sh.old c [121] (Sh.used now (Sh.kB b))], 2⟩ → Calls Try.prog 11 #[.pointer (some ⟨sb, 0, none⟩), .agg (cookieA b)] W fun e w' => e = .returned (.bool true) ∧ ShelfAt w' sb mb ⟨[Sh.kA a], 2⟩ ∧ Turn2 sb mb W w') := Lib.hid (fun hk W sb mb h => by
    have k := dropShelf_calls b hb.place W h
    rw [hcv, Sh.apart_drop hk now _] at k
    exact k)
  have HGB : Hid (Ma.key a b = false → ∀ W sb mb, ShelfAt W sb mb ⟨[Sh.kA a], 2⟩ → Calls Try.prog 13 #[.pointer (some ⟨sb, 0, none⟩), .agg (cookieA b)] W fun e w' => e = .returned (.tuple #[.agg (cookieA Ma.zeroC), .bool false]) ∧ Below W.heap.size W w') := Lib.hid (fun hk W sb mb h => by
    have k := getShelf_calls b hb.place W h
    rw [Sh.seek_b hk] at k
    exact k)
  have HC1 : Hid (∀ W sb mb, ShelfAt W sb mb ⟨[Sh.kA a], 2⟩ → Calls Try.prog 17 #[.pointer (some ⟨sb, 0, none⟩), .string ⟨#[120]⟩] W fun e w' => e = .returned (.int .i64 1) ∧ Below W.heap.size W w') := Lib.hid (fun W sb mb h => countShelf_calls ⟨#[120]⟩ W h)
  have HC2 : Hid (∀ W sb mb, ShelfAt W sb mb ⟨[Sh.kA a], 2⟩ → Calls Try.prog 17 #[.pointer (some ⟨sb, 0, none⟩), .string ⟨#[121]⟩] W fun e w' => e = .returned (.int .i64 0) ∧ Below W.heap.size W w') := Lib.hid (fun W sb mb h => countShelf_calls ⟨#[121]⟩ W h)
  have HLN : Hid (∀ W sb mb, ShelfAt W sb mb ⟨[Sh.kA a], 2⟩ → Calls Try.prog 16 #[.pointer (some ⟨sb, 0, none⟩)] W fun e w' => e = .returned (.int .i64 1) ∧ Below W.heap.size W w') := Lib.hid (fun W sb mb h => lenShelf_calls W h)
  have HEQ : ∀ W, (binOp .eql 34 (.agg (cookieA (Sh.kA a).c)) (.agg (cookieA (Sh.kA a).c))).run Try.prog W = .ok (.bool true) W := fun W => eql_cookie (Sh.kA a).c ha.host.addr W
  have NA := Lib.hid (show (Try.prog.info? 34).map (·.size) = some (cookieA a).size by rw [cookieA_size a ha.host.addr]; exact infoCookie)
  have NB := Lib.hid (show (Try.prog.info? 34).map (·.size) = some (cookieA b).size by rw [cookieA_size b hb.host.addr]; exact infoCookie)
  have NC := Lib.hid (show (Try.prog.info? 34).map (·.size) = some (cookieA c).size by rw [cookieA_size c hca]; exact infoCookie)
  have NX := Lib.hid (show (Try.prog.info? 34).map (·.size) = some (cookieA (Sh.kA a).c).size by rw [cookieA_size (Sh.kA a).c ha.host.addr]; exact infoCookie)
  have NZ := Lib.hid (show (Try.prog.info? 34).map (·.size) = some (cookieA Ma.zeroC).size from infoCookie)
  have ZB := Lib.hid (show (cookieA Ma.zeroC).size = (cookieA b).size by rw [cookieA_size b hb.host.addr]; exact cookieA_size Ma.zeroC rfl)
  have ZX := Lib.hid (show (cookieA Ma.zeroC).size = (cookieA (Sh.kA a).c).size by rw [cookieA_size (Sh.kA a).c ha.host.addr]; exact cookieA_size Ma.zeroC rfl)
  have OB := Lib.hid (cookieA_one b)
  have OX := Lib.hid (cookieA_one (Sh.kA a).c)
  have OZ := Lib.hid (cookieA_one Ma.zeroC)
  have hb1 := cookieA_value b
  have HSET : Hid ((cookieA b).setIfInBounds 1 (.string (⟨b.value.toArray⟩ ++ ⟨#[33]⟩)) = cookieA c) := Lib.hid (by
    rw [show (⟨b.value.toArray⟩ ++ ⟨#[33]⟩ : ByteArray) = ⟨(b.value ++ [33]).toArray⟩ by apply ByteArray.ext; simp [ByteArray.data_append], cookieA_setValue, hcv])
  unfold strV at hb1
  have hvn : ¬ 9223372036854775807 < (⟨b.value.toArray⟩ : ByteArray).size + 1 := by
    have h1 := reachBytes_lt
    have h2 : (⟨b.value.toArray⟩ : ByteArray).size = b.value.length := by simp [ByteArray.size]
    omega
  generalize (⟨b.value.toArray⟩ : ByteArray) = vb at *
  have R0 := Row.new w 34 (cookieA a)
  have B0 := (Below.refl w.heap.size w).alloc (Nat.le_refl _) (.cells (cookieA a) 34)
  have hN : (w.alloc (.cells (cookieA a) 34)).heap.size = w.heap.size + 1 := by simp
  have S1 := Row.new (w.alloc (.cells (cookieA a) 34)) 34 (cookieA b)
  rw [hN] at S1
  have R1 := R0.alloc (.cells (cookieA b) 34)
  have C1 := B0.alloc B0.size (.cells (cookieA b) 34)
  clear R0 B0 hN ha hb hbv hcv hco hca
  generalize Ma.key a b = ky at *
  generalize cookieA (Sh.kA a).c = XA at *
  generalize cookieA Ma.zeroC = ZC at *
  generalize cookieA a = U at *
  generalize cookieA b = V at *
  generalize cookieA c = Y at *
  go_enter Try.func6, Try.ntmps6
  go_wp2_with fail
  generalize (w.alloc (.cells U 34)).alloc (.cells V 34) = x1 at *
  refine (HA.out _).mono ?_
  rintro e x2 ⟨rfl, d2⟩
  have C2 := C1.trans (d2.mono C1.size)
  have R2 := R1.stays d2
  have S2 := S1.stays d2
  clear d2 R1 S1 C1 HA
  go_wp2_with (first
    | (refine at_slot 17 rfl ?_; refine load_row rfl 34 _ rfl w.heap.size rfl R2 Try.underlying34 rfl NA.out ?_)
    | (refine at_slot 18 rfl ?_; refine load_row rfl 34 _ rfl (w.heap.size + 1) rfl S2 Try.underlying34 rfl NB.out ?_))
  refine (HKY.out _).mono ?_
  rintro e x3 ⟨rfl, d3⟩
  have C3 := C2.trans (d3.mono C2.size)
  have R3 := R2.stays d3
  have S3 := S2.stays d3
  clear d3 R2 S2 C2 HKY
  cases ky
  case true =>
    go_wp2
    go_ret
    exact ⟨rfl, C3⟩
  case false =>
    have JPB := Lib.hid (HPB.out rfl)
    have JUB := Lib.hid (HUB.out rfl)
    have JPC := Lib.hid (HPC.out rfl)
    have JDB := Lib.hid (HDB.out rfl)
    have JGB := Lib.hid (HGB.out rfl)
    clear HPB HUB HPC HDB HGB
    go_wp2_with fail
    refine (HN.out _).mono ?_
    rintro e x4 ⟨sb, mb, rfl, K4, hsb, hmb, d4⟩
    have C4 := C3.trans (d4.mono C3.size)
    have R4 := R3.stays d4
    have S4 := S3.stays d4
    have ha1 : w.heap.size ≠ sb ∧ w.heap.size ≠ mb ∧ w.heap.size + 1 ≠ sb ∧ w.heap.size + 1 ≠ mb ∧ w.heap.size ≤ sb ∧ w.heap.size ≤ mb := by have := R3.lt; have := S3.lt; omega
    obtain ⟨rs, rm, ss, sm, ws, wm⟩ := ha1
    clear d4 R3 S3 C3 HN hsb hmb
    go_wp2_with (refine at_slot 22 rfl ?_; refine load_row rfl 34 _ rfl w.heap.size rfl R4 Try.underlying34 rfl NA.out ?_)
    refine (HPA.out _ sb mb K4).mono ?_
    rintro e x5 ⟨rfl, K5, t5⟩
    have C5 := C4.trans (t5.below ws wm C4.size)
    have R5 := t5.rows R4 rs rm
    have S5 := t5.rows S4 ss sm
    clear t5 R4 S4 C4 K4 HPA
    go_wp2_with (refine at_slot 25 rfl ?_; refine load_row rfl 34 _ rfl (w.heap.size + 1) rfl S5 Try.underlying34 rfl NB.out ?_)
    refine (JPB.out _ sb mb K5).mono ?_
    rintro e x6 ⟨rfl, K6, t6⟩
    have C6 := C5.trans (t6.below ws wm C5.size)
    have R6 := t6.rows R5 rs rm
    have S6 := t6.rows S5 ss sm
    clear t6 R5 S5 C5 K5 JPB
    go_wp2_with (refine at_slot 29 rfl ?_; refine load_row rfl 34 _ rfl w.heap.size rfl R6 Try.underlying34 rfl NA.out ?_)
    refine (HGA.out _ _ sb mb K6).mono ?_
    rintro e x7 ⟨rfl, d7⟩
    have C7 := C6.trans (d7.mono C6.size)
    have R7 := R6.stays d7
    have S7 := S6.stays d7
    have K7 := K6.stays d7
    clear d7 R6 S6 C6 K6
    obtain ⟨Z8, U8, D8, L8⟩ := lay_row 34 ZC XA (Below.refl x7.heap.size x7) (Nat.le_refl _)
    have R8 := L8 _ _ _ R7
    have S8 := L8 _ _ _ S7
    have K8 := K7.stays D8
    have C8 := C7.trans (D8.mono C7.size)
    have l7 : x7.heap.size ≠ sb ∧ x7.heap.size ≠ mb := by have := K7.row.lt; have := K7.map.lt; omega
    obtain ⟨us, um⟩ := l7
    obtain ⟨x8, hW8⟩ : ∃ W, (x7.alloc (.cells ZC 34)).setRow x7.heap.size XA = W := ⟨_, rfl⟩
    rw [hW8] at U8 D8 R8 S8 K8 C8
    have HW8 := Lib.hid hW8
    clear hW8
    clear L8 D8 R7 S7 C7 K7
    obtain ⟨Z9, U9, D9, L9⟩ := lay_row 34 ZC V (Below.refl x8.heap.size x8) (Nat.le_refl _)
    have R9 := L9 _ _ _ R8
    have S9 := L9 _ _ _ S8
    have T9 := L9 _ _ _ U8
    have K9 := K8.stays D9
    have C9 := C8.trans (D9.mono C8.size)
    have l8 : x8.heap.size ≠ sb ∧ x8.heap.size ≠ mb ∧ w.heap.size ≠ x8.heap.size ∧ w.heap.size + 1 ≠ x8.heap.size ∧ x7.heap.size ≠ x8.heap.size := by have := K8.row.lt; have := K8.map.lt; have := R8.lt; have := S8.lt; have := U8.lt; omega
    obtain ⟨vs, vm, n1, n2, n3⟩ := l8
    have u1 := (U9.cell 1).trans hb1
    have f1 := U9.free 1
    have V11 := U9.set 1 (.string (vb ++ ⟨#[33]⟩))
    rw [HSET.out] at V11
    have R11 := R9.other (p := ⟨x8.heap.size, 1, none⟩) n1 (.string (vb ++ ⟨#[33]⟩))
    have S11 := S9.other (p := ⟨x8.heap.size, 1, none⟩) n2 (.string (vb ++ ⟨#[33]⟩))
    have T11 := T9.other (p := ⟨x8.heap.size, 1, none⟩) n3 (.string (vb ++ ⟨#[33]⟩))
    have K11 := K8.stays (D9.setCell (p := ⟨x8.heap.size, 1, none⟩) (Nat.le_refl _) (.string (vb ++ ⟨#[33]⟩)))
    have C11 := C9.setCell (p := ⟨x8.heap.size, 1, none⟩) C8.size (.string (vb ++ ⟨#[33]⟩))
    obtain ⟨x11, hW11⟩ : ∃ W, World.setCell ((x8.alloc (.cells ZC 34)).setRow x8.heap.size V) ⟨x8.heap.size, 1, none⟩ (.string (vb ++ ⟨#[33]⟩)) = W := ⟨_, rfl⟩
    rw [hW11] at V11 R11 S11 T11 K11 C11
    have HW11 := Lib.hid hW11
    clear hW11
    clear L9 D9 R8 C8 K8 U8 R9 S9 T9 K9 C9 U9
    go_wp2_with (first
      | (refine at_slot 33 rfl ?_; rw [HW8.out]; refine load_row rfl 34 _ rfl (w.heap.size + 1) rfl S8 Try.underlying34 rfl NB.out ?_)
      | (refine at_slot 39 rfl ?_; rw [HW11.out]; refine load_row rfl 34 _ rfl (w.heap.size + 1) rfl S11 Try.underlying34 rfl NB.out ?_)
      | (refine at_store 34 (.tmp 8) (.tmp 31) rfl ?_; refine wpList_store_row rfl 34 _ _ rfl x7.heap.size XA rfl rfl 34 _ Z8 NX.out ZX.out OX.out ?_)
      | (refine at_store 34 (.tmp 10) (.tmp 33) rfl ?_; refine wpList_store_row rfl 34 _ _ rfl x8.heap.size V rfl rfl 34 _ Z9 NB.out ZB.out OB.out ?_))
    clear u1 f1 Z8 Z9 S8 HW8 HW11 hb1
    generalize x7.heap.size = g7 at *
    generalize x8.heap.size = g8 at *
    refine (JUB.out _ sb mb K11).mono ?_
    rintro e x12 ⟨rfl, K12, t12⟩
    have C12 := C11.trans (t12.below ws wm C11.size)
    have R12 := t12.rows R11 rs rm
    have S12 := t12.rows S11 ss sm
    have T12 := t12.rows T11 us um
    have V12 := t12.rows V11 vs vm
    clear t12 R11 S11 C11 K11 T11 V11 JUB
    go_wp2_with (refine at_slot 43 rfl ?_; refine load_row rfl 34 _ rfl g8 rfl V12 Try.underlying34 rfl NC.out ?_)
    refine (JPC.out _ sb mb K12).mono ?_
    rintro e x13 ⟨rfl, K13, t13⟩
    have C13 := C12.trans (t13.below ws wm C12.size)
    have R13 := t13.rows R12 rs rm
    have S13 := t13.rows S12 ss sm
    have T13 := t13.rows T12 us um
    clear t13 R12 S12 C12 K12 T12 V12 JPC
    go_wp2_with (refine at_slot 46 rfl ?_; refine load_row rfl 34 _ rfl (w.heap.size + 1) rfl S13 Try.underlying34 rfl NB.out ?_)
    refine (JDB.out _ sb mb K13).mono ?_
    rintro e x14 ⟨rfl, K14, t14⟩
    have C14 := C13.trans (t14.below ws wm C13.size)
    have R14 := t14.rows R13 rs rm
    have S14 := t14.rows S13 ss sm
    have T14 := t14.rows T13 us um
    clear t14 R13 S13 C13 K13 T13 JDB
    go_wp2_with (refine at_slot 50 rfl ?_; refine load_row rfl 34 _ rfl w.heap.size rfl R14 Try.underlying34 rfl NA.out ?_)
    refine (HGA.out _ _ sb mb K14).mono ?_
    rintro e x15 ⟨rfl, d15⟩
    have C15 := C14.trans (d15.mono C14.size)
    have S15 := S14.stays d15
    have T15 := T14.stays d15
    have K15 := K14.stays d15
    clear d15 R14 S14 C14 K14 T14 HGA
    obtain ⟨Z16, U16, D16, L16⟩ := lay_row 34 ZC XA (Below.refl x15.heap.size x15) (Nat.le_refl _)
    have S16 := L16 _ _ _ S15
    have T16 := L16 _ _ _ T15
    have K16 := K15.stays D16
    have C16 := C15.trans (D16.mono C15.size)
    obtain ⟨x16, hW16⟩ : ∃ W, (x15.alloc (.cells ZC 34)).setRow x15.heap.size XA = W := ⟨_, rfl⟩
    rw [hW16] at U16 D16 S16 T16 K16 C16
    have HW16 := Lib.hid hW16
    clear hW16
    clear L16 D16 S15 T15 C15 K15
    go_wp2_with (first
      | (refine at_slot 56 rfl ?_; rw [HW16.out]; refine load_row rfl 34 _ rfl (w.heap.size + 1) rfl S16 Try.underlying34 rfl NB.out ?_)
      | (refine at_store 34 (.tmp 11) (.tmp 52) rfl ?_; refine wpList_store_row rfl 34 _ _ rfl x15.heap.size XA rfl rfl 34 _ Z16 NX.out ZX.out OX.out ?_))
    clear Z16 S16 HW16
    generalize x15.heap.size = g15 at *
    refine (JGB.out _ sb mb K16).mono ?_
    rintro e x17 ⟨rfl, d17⟩
    have C17 := C16.trans (d17.mono C16.size)
    have U17 := U16.stays d17
    have T17 := T16.stays d17
    have K17 := K16.stays d17
    clear d17 U16 T16 C16 K16 JGB
    obtain ⟨Z18, U18, D18, L18⟩ := lay_row 34 ZC ZC (Below.refl x17.heap.size x17) (Nat.le_refl _)
    have P18 := L18 _ _ _ U17
    have T18 := L18 _ _ _ T17
    have K18 := K17.stays D18
    have C18 := C17.trans (D18.mono C17.size)
    obtain ⟨x18, hW18⟩ : ∃ W, (x17.alloc (.cells ZC 34)).setRow x17.heap.size ZC = W := ⟨_, rfl⟩
    rw [hW18] at P18 D18 T18 K18 C18
    have HW18 := Lib.hid hW18
    clear hW18
    clear L18 D18 U17 T17 C17 K17 U18
    go_wp2_with (first
      | (refine at_slot 62 rfl ?_; rw [HW18.out]; refine load_row rfl 34 _ rfl g15 rfl P18 Try.underlying34 rfl NX.out ?_)
      | (refine at_slot 63 rfl ?_; refine load_row rfl 34 _ rfl g7 rfl T18 Try.underlying34 rfl NX.out ?_)
      | (refine at_store 34 (.tmp 13) (.tmp 58) rfl ?_; refine wpList_store_row rfl 34 _ _ rfl x17.heap.size ZC rfl rfl 34 _ Z18 NZ.out rfl OZ.out ?_))
    refine (HC1.out _ sb mb K18).mono ?_
    rintro e x19 ⟨rfl, d19⟩
    have C19 := C18.trans (d19.mono C18.size)
    have K19 := K18.stays d19
    go_wp2_with fail
    refine (HC2.out _ sb mb K19).mono ?_
    rintro e x20 ⟨rfl, d20⟩
    have C20 := C19.trans (d20.mono C19.size)
    have K20 := K19.stays d20
    go_wp2_with fail
    refine (HLN.out _ sb mb K20).mono ?_
    rintro e x21 ⟨rfl, d21⟩
    have C21 := C20.trans (d21.mono C20.size)
    go_wp2
    go_ret
    exact ⟨rfl, C21⟩
end Go.Proofs.Ytnepgibjijdheaa
