/- Which requests a cookie goes with: the walks of package match, and of the reference. -/
import Derived.Test.YtkajddopjflniaaGreatDoorMatchHost
import Derived.Test.YtkajddopjflniaaGreatDoorMatchPath
import Derived.Test.YtkajddopjflniaaGreatDoorRefMatchPath
namespace Go.Proofs.YtkajddopjflniaaGreatDoor
open Go.RowKit
theorem cookieA_hname (c : Ma.Cookie) : (cookieA c)[3]? = some (strV c.host.name) := rfl
theorem requestA_hname (r : Ma.Request) : (requestA r)[2]? = some (strV r.host.name) := rfl
theorem list_size (l : List UInt8) : (⟨l.toArray⟩ : ByteArray).size = l.length := List.size_toArray ..
def Ma.great (c : Ma.Cookie) (r : Ma.Request) : Bool := decide (600 < c.host.name.length) || (decide (600 < r.host.name.length) || (decide (3000 < c.path.length) || decide (3000 < r.path.length)))
set_option maxRecDepth 100000 in
set_option maxHeartbeats 2000000 in
theorem mgreat_calls (c : Ma.Cookie) (r : Ma.Request) (ha : c.host.addr.length = 16) (hra : r.host.addr.length = 16) (w : World) :
    Calls Tryz.prog 9 #[.agg (cookieA c), .agg (requestA r)] w fun e w' => e = .returned (.bool (Ma.great c r)) ∧ Below w.heap.size w w' := by
  have k0 := cookieA_hname c
  have k1 := cookieA_path c ha
  have l0 := requestA_hname r
  have l1 := requestA_path r hra
  unfold strV at k0 k1 l0 l1
  have R0 := Row.new w 29 (cookieA c)
  have B0 := (Below.refl w.heap.size w).alloc (Nat.le_refl _) (.cells (cookieA c) 29)
  have hN : (w.alloc (.cells (cookieA c) 29)).heap.size = w.heap.size + 1 := by simp
  have S0 := Row.new (w.alloc (.cells (cookieA c) 29)) 31 (requestA r)
  rw [hN] at S0
  have R1 := R0.alloc (.cells (requestA r) 31)
  have C1 := B0.alloc B0.size (.cells (requestA r) 31)
  have c0 := (R1.cell 3).trans k0
  have c1 := (R1.cell 21).trans k1
  have d0 := (S0.cell 2).trans l0
  have d1 := (S0.cell 19).trans l1
  have HG : Hid (Ma.great c r = (decide ((600 : Int) < ((⟨c.host.name.toArray⟩ : ByteArray).size : Int)) || (decide ((600 : Int) < ((⟨r.host.name.toArray⟩ : ByteArray).size : Int)) || (decide ((3000 : Int) < ((⟨c.path.toArray⟩ : ByteArray).size : Int)) || decide ((3000 : Int) < ((⟨r.path.toArray⟩ : ByteArray).size : Int)))))) := Lib.hid (by
    unfold Ma.great
    rw [list_size, list_size, list_size, list_size, Bool.eq_iff_iff]
    simp only [Bool.or_eq_true, decide_eq_true_eq]
    omega)
  generalize Ma.great c r = g at *
  generalize (⟨c.host.name.toArray⟩ : ByteArray) = s1 at *
  generalize (⟨r.host.name.toArray⟩ : ByteArray) = s2 at *
  generalize (⟨c.path.toArray⟩ : ByteArray) = s3 at *
  generalize (⟨r.path.toArray⟩ : ByteArray) = s4 at *
  clear R0 B0 hN ha hra k0 k1 l0 l1 R1 S0
  generalize cookieA c = U at *
  generalize requestA r = V at *
  by_cases h1 : (600 : Int) < (s1.size : Int)
  · have HG2 : Hid (g = true) := Lib.hid (by rw [HG.out, decide_eq_true h1, Bool.true_or])
    clear HG
    go_enter Tryz.func9, Tryz.ntmps9
    go_wp2
    go_ret
    exact ⟨ret_bool HG2.out.symm, C1⟩
  by_cases h2 : (600 : Int) < (s2.size : Int)
  · have HG2 : Hid (g = true) := Lib.hid (by rw [HG.out, decide_eq_true h2, Bool.true_or, Bool.or_true])
    clear HG
    go_enter Tryz.func9, Tryz.ntmps9
    go_wp2
    go_ret
    exact ⟨ret_bool HG2.out.symm, C1⟩
  by_cases h3 : (3000 : Int) < (s3.size : Int)
  · have HG2 : Hid (g = true) := Lib.hid (by rw [HG.out, decide_eq_true h3, Bool.true_or, Bool.or_true, Bool.or_true])
    clear HG
    go_enter Tryz.func9, Tryz.ntmps9
    go_wp2
    go_ret
    exact ⟨ret_bool HG2.out.symm, C1⟩
  by_cases h4 : (3000 : Int) < (s4.size : Int)
  · have HG2 : Hid (g = true) := Lib.hid (by rw [HG.out, decide_eq_true h4, Bool.or_true, Bool.or_true, Bool.or_true])
    clear HG
    go_enter Tryz.func9, Tryz.ntmps9
    go_wp2
    go_ret
    exact ⟨ret_bool HG2.out.symm, C1⟩
  have HG2 : Hid (g = false) := Lib.hid (by rw [HG.out, decide_eq_false h1, decide_eq_false h2, decide_eq_false h3, decide_eq_false h4]; rfl)
  clear HG
  go_enter Tryz.func9, Tryz.ntmps9
  go_wp2
  go_ret
  exact ⟨ret_bool HG2.out.symm, C1⟩
set_option maxRecDepth 100000 in
set_option maxHeartbeats 4000000 in
theorem sends_calls (c : Ma.Cookie) (r : Ma.Request) (now : Int) (ha : c.host.addr.length = 16) (hra : r.host.addr.length = 16) (hcs : c.host.name.length ≤ 1048000) (hrs : r.host.name.length ≤ 1048000) (hp : c.path.length ≤ 9223372036854775807) (w : World) (hw : Std w) :
    Calls Tryz.prog 10 #[.agg (cookieA c), .agg (requestA r), .int .i64 now] w fun e w' => e = .returned (.bool (Ma.sends c r now)) ∧ Below w.heap.size w w' := by
  have HC := Lib.hid (show (Tryz.prog.info? 29).map (·.size) = some (cookieA c).size by rw [cookieA_size c ha]; exact infoCookie)
  have HQ := Lib.hid (requestA_size r hra)
  have HX := Lib.hid (requestA_host r hra)
  have H1 := Lib.hid (fun W hW => goesTo_calls c r.host ha hra hcs hrs W hW)
  have H2 := Lib.hid (fun W => mpath_calls ⟨r.path.toArray⟩ ⟨c.path.toArray⟩ W (by rw [list_size]; exact hp))
  have H3 := Lib.hid (fun W => crosses_calls c.same r.cross W)
  have HR := Lib.hid (Ma.sends_code c r now)
  have k1 := cookieA_path c ha
  have k2 := cookieA_secure c ha
  have k3 := cookieA_same c ha
  have k4 := cookieA_expires c ha
  have l0 := requestA_secure r
  have l1 := requestA_path r hra
  have l2 := requestA_cross r hra
  unfold strV at k1 l1
  generalize Ma.sends c r now = g at *
  generalize Ma.goesTo c r.host = b1 at *
  change Hid (∀ W, Calls Tryz.prog 13 #[.string ⟨r.path.toArray⟩, .string ⟨c.path.toArray⟩] W fun e w' => e = .returned (.bool (Ma.path r.path c.path)) ∧ W = w') at H2
  generalize Ma.path r.path c.path = b2 at *
  generalize Ma.crossed c.same r.cross = b3 at *
  generalize (⟨c.path.toArray⟩ : ByteArray) = cp at *
  generalize (⟨r.path.toArray⟩ : ByteArray) = rp at *
  generalize c.secure = cs at *
  generalize r.secure = rs at *
  generalize c.same = sm at *
  generalize r.cross = cr at *
  generalize c.expires = ex at *
  generalize hostA r.host = X at *
  have R0 := Row.new w 29 (cookieA c)
  have B0 := (Below.refl w.heap.size w).alloc (Nat.le_refl _) (.cells (cookieA c) 29)
  have hN : (w.alloc (.cells (cookieA c) 29)).heap.size = w.heap.size + 1 := by simp
  have S0 := Row.new (w.alloc (.cells (cookieA c) 29)) 31 (requestA r)
  rw [hN] at S0
  have R1 := R0.alloc (.cells (requestA r) 31)
  have C1 := B0.alloc B0.size (.cells (requestA r) 31)
  clear R0 B0 hN ha hra hcs hrs hp
  generalize cookieA c = U at *
  generalize requestA r = V at *
  go_enter Tryz.func10, Tryz.ntmps10
  go_wp2_with (first
    | (refine at_slot 7 rfl ?_; refine load_row rfl 29 _ rfl w.heap.size rfl R1 Tryz.underlying29 rfl HC.out ?_)
    | (refine at_slot 9 rfl ?_; refine load_part rfl 25 _ rfl (w.heap.size + 1) 1 18 rfl S0 Tryz.underlying25 rfl infoHost (by rw [HQ.out]; decide) X HX.out ?_))
  generalize (w.alloc (.cells U 29)).alloc (.cells V 31) = x0 at *
  refine (H1.out _ (hw.below C1)).mono ?_
  rintro e v1 ⟨rfl, d1⟩
  have C2 := C1.trans (d1.mono C1.size)
  have R2 := R1.stays d1
  have S2 := S0.stays d1
  have c1 := (R2.cell 21).trans k1
  have c2 := (R2.cell 22).trans k2
  have c3 := (R2.cell 24).trans k3
  have c4 := (R2.cell 25).trans k4
  have e0 := (S2.cell 0).trans l0
  have e1 := (S2.cell 19).trans l1
  have e2 := (S2.cell 20).trans l2
  clear R1 S0 C1 d1 k1 k2 k3 k4 l0 l1 l2 R2 S2 H1
  cases b1
  · have HG2 : Hid (g = false) := Lib.hid (by rw [HR.out]; rfl)
    clear HR
    go_wp2
    go_ret
    exact ⟨ret_bool HG2.out.symm, C2⟩
  cases b2
  · have HG2 : Hid (g = false) := Lib.hid (by rw [HR.out]; rfl)
    clear HR
    go_wp2_with (go_at_call 13; refine (H2.out _).mono ?_; rintro e w' ⟨rfl, rfl⟩)
    go_ret
    exact ⟨ret_bool HG2.out.symm, C2⟩
  cases rs
  · cases cs
    · cases b3
      · have HG2 : Hid (g = false) := Lib.hid (by rw [HR.out]; rfl)
        clear HR
        go_wp2_with (first
          | (go_at_call 13; refine (H2.out _).mono ?_; rintro e w' ⟨rfl, rfl⟩)
          | (go_at_call 19; refine (H3.out _).mono ?_; rintro e w' ⟨rfl, rfl⟩))
        go_ret
        exact ⟨ret_bool HG2.out.symm, C2⟩
      · have HG2 : Hid (g = decide (now < ex)) := Lib.hid (by rw [HR.out]; rfl)
        clear HR
        go_wp2_with (first
          | (go_at_call 13; refine (H2.out _).mono ?_; rintro e w' ⟨rfl, rfl⟩)
          | (go_at_call 19; refine (H3.out _).mono ?_; rintro e w' ⟨rfl, rfl⟩))
        go_ret
        exact ⟨ret_bool HG2.out.symm, C2⟩
    · have HG2 : Hid (g = false) := Lib.hid (by rw [HR.out]; rfl)
      clear HR
      go_wp2_with (first
        | (go_at_call 13; refine (H2.out _).mono ?_; rintro e w' ⟨rfl, rfl⟩)
        | (go_at_call 19; refine (H3.out _).mono ?_; rintro e w' ⟨rfl, rfl⟩))
      go_ret
      exact ⟨ret_bool HG2.out.symm, C2⟩
  · cases b3
    · have HG2 : Hid (g = false) := Lib.hid (by rw [HR.out]; rfl)
      clear HR
      go_wp2_with (first
        | (go_at_call 13; refine (H2.out _).mono ?_; rintro e w' ⟨rfl, rfl⟩)
        | (go_at_call 19; refine (H3.out _).mono ?_; rintro e w' ⟨rfl, rfl⟩))
      go_ret
      exact ⟨ret_bool HG2.out.symm, C2⟩
    · have HG2 : Hid (g = decide (now < ex)) := Lib.hid (by rw [HR.out]; rfl)
      clear HR
      go_wp2_with (first
        | (go_at_call 13; refine (H2.out _).mono ?_; rintro e w' ⟨rfl, rfl⟩)
        | (go_at_call 19; refine (H3.out _).mono ?_; rintro e w' ⟨rfl, rfl⟩))
      go_ret
      exact ⟨ret_bool HG2.out.symm, C2⟩
end Go.Proofs.YtkajddopjflniaaGreatDoor
