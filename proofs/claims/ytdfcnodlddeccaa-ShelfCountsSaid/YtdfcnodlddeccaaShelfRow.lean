/- Cookies that are kept, places, and things done, as values. -/
import Derived.Test.YtdfcnodlddeccaaCookieRow
import Derived.Test.YtdfcnodlddeccaaMatchData
import Derived.Test.YtdfcnodlddeccaaShelfPlain
import Derived.Test.YtdfcnodlddeccaaSpan
namespace Go.Proofs.Ytdfcnodlddeccaa
open Go.RowKit
/-- A cookie that is kept, and its site, as a value. -/
def keptA (k : Sh.Kept) : Array Value := ((cookieA k.c).toList ++ [strV k.site]).toArray
def Sh.zeroK : Sh.Kept := ⟨Ma.zeroC, []⟩
theorem cookieA_len (c : Ma.Cookie) (ha : c.host.addr.length = 16) : (cookieA c).toList.length = 29 := by rw [Array.length_toList, cookieA_size c ha]
theorem keptA_size (k : Sh.Kept) (ha : k.c.host.addr.length = 16) : (keptA k).size = 30 := by
  unfold keptA
  rw [List.size_toArray, List.length_append, cookieA_len _ ha]; rfl
theorem keptA_one (k : Sh.Kept) : (keptA k).all (·.oneCell') = true := by
  rw [Array.all_eq_true']
  intro v hv
  unfold keptA at hv
  rw [List.mem_toArray, List.mem_append] at hv
  rcases hv with hv | hv
  · exact Array.all_eq_true'.1 (cookieA_one k.c) v (Array.mem_toList_iff.1 hv)
  · rw [List.mem_singleton.1 hv]; rfl
theorem keptA_cell {k : Sh.Kept} {i : Nat} {u : Value} (h : (cookieA k.c)[i]? = some u) : (keptA k)[i]? = some u := by
  unfold keptA
  rw [List.getElem?_toArray, List.getElem?_append_left (by rw [Array.length_toList]; exact (Array.getElem?_eq_some_iff.1 h).1), Array.getElem?_toList]
  exact h
theorem keptA_site (k : Sh.Kept) (ha : k.c.host.addr.length = 16) : (keptA k)[29]? = some (strV k.site) := by
  unfold keptA
  rw [List.getElem?_toArray, List.getElem?_append_right (by rw [cookieA_len _ ha]; exact Nat.le_refl _), cookieA_len _ ha]; rfl
theorem keptA_cookie (k : Sh.Kept) (ha : k.c.host.addr.length = 16) : (keptA k).extract 0 29 = cookieA k.c := by
  apply Array.ext'
  rw [Array.toList_extract]
  unfold keptA
  show List.take 29 (List.drop 0 _) = _
  rw [List.drop_zero, ← cookieA_len k.c ha, List.take_left]
theorem keptA_setUsed (k : Sh.Kept) (ha : k.c.host.addr.length = 16) (n : Int) : (keptA k).setIfInBounds 27 (.int .i64 n) = keptA (Sh.used n k) := by
  have h := cookieA_put k.c ha 7 (.int .i64 n)
  have h2 : (cookieA k.c).setIfInBounds 27 (.int .i64 n) = cookieA { k.c with used := n } := h
  have h3 := congrArg Array.toList h2
  rw [Array.toList_setIfInBounds] at h3
  unfold keptA Sh.used
  rw [List.setIfInBounds_toArray, List.set_append_left _ _ (by rw [cookieA_len _ ha]; omega), h3]
theorem cookieA_setBorn (c : Ma.Cookie) (ha : c.host.addr.length = 16) (n : Int) : (cookieA c).setIfInBounds 26 (.int .i64 n) = cookieA { c with born := n } := cookieA_put c ha 6 (.int .i64 n)
theorem cookieA_setSeq (c : Ma.Cookie) (ha : c.host.addr.length = 16) (n : Int) : (cookieA c).setIfInBounds 28 (.int .i64 n) = cookieA { c with seq := n } := cookieA_put c ha 8 (.int .i64 n)
theorem zeroKept : #[Value.string ⟨#[]⟩, .string ⟨#[]⟩, .int .i64 0, .string ⟨#[]⟩, .int .u8 0, .int .u8 0, .int .u8 0, .int .u8 0, .int .u8 0, .int .u8 0, .int .u8 0, .int .u8 0, .int .u8 0, .int .u8 0, .int .u8 0, .int .u8 0, .int .u8 0, .int .u8 0, .int .u8 0, .int .u8 0, .bool false, .string ⟨#[]⟩, .bool false, .bool false, .int .i64 0, .int .i64 0, .int .i64 0, .int .i64 0, .int .i64 0, .string ⟨#[]⟩] = keptA Sh.zeroK := by rfl
theorem infoKept : (Try.prog.info? 75).map (·.size) = some 30 := by kernel_rfl
theorem infoKeptR : (Try.prog.info? 59).map (·.size) = some 30 := by kernel_rfl
theorem infoKeptZ : (Try.prog.info? 59).map (fun i => (i.zero, i.size, i.bytes)) = some (some (.agg (keptA Sh.zeroK)), 30, 160) := by kernel_rfl
theorem infoCookieZ : (Try.prog.info? 34).map (fun i => (i.zero, i.size, i.bytes)) = some (some (.agg (cookieA Ma.zeroC)), 29, 144) := by kernel_rfl
theorem built_kept (c : Ma.Cookie) (ha : c.host.addr.length = 16) (s : ByteArray) : Try.prog.built 75 [(0, .agg (cookieA c)), (1, .string s)] = some (keptA ⟨c, s.data.toList⟩) := by
  obtain ⟨n, v, ⟨k, m, a⟩, o, p, q, h, sm, ex, bo, us, sq⟩ := c
  obtain ⟨x0, x1, x2, x3, x4, x5, x6, x7, x8, x9, x10, x11, x12, x13, x14, x15, rfl⟩ := sixteen ha
  kernel_rfl
theorem built_keptR (c : Ma.Cookie) (ha : c.host.addr.length = 16) (s : ByteArray) : Try.prog.built 59 [(0, .agg (cookieA c)), (1, .string s)] = some (keptA ⟨c, s.data.toList⟩) := by
  obtain ⟨n, v, ⟨k, m, a⟩, o, p, q, h, sm, ex, bo, us, sq⟩ := c
  obtain ⟨x0, x1, x2, x3, x4, x5, x6, x7, x8, x9, x10, x11, x12, x13, x14, x15, rfl⟩ := sixteen ha
  kernel_rfl
theorem built_refShelf (A : Option Addr) (m c : Nat) (n : Int) : Try.prog.built 28 [(0, .slice A m c), (1, .int .i64 n)] = some #[.slice A m c, .int .i64 n] := by kernel_rfl
theorem built_refShelf0 : Try.prog.built 28 [] = some #[.slice none 0 0, .int .i64 0] := by kernel_rfl
/-- What a place must be for a map to hold it. -/
structure PlaceOk (c : Ma.Cookie) : Prop where
  host : HostOk c.host
  name : c.name.length ≤ maxLen
  path : c.path.length ≤ maxLen
theorem CookieOk.place {c : Ma.Cookie} (h : CookieOk c) : PlaceOk c := ⟨h.host, h.name, h.path⟩
/-- What a thing that is kept must be for memory to hold it. -/
structure KeptOk (k : Sh.Kept) : Prop where
  cookie : PlaceOk k.c
  site : k.site.length ≤ maxLen
theorem KeptOk.addr {k : Sh.Kept} (h : KeptOk k) : k.c.host.addr.length = 16 := h.cookie.host.addr
/-! ### Places -/
theorem infoPlaceS : (Try.prog.info? 72).map (·.size) = some 21 := by kernel_rfl
theorem built_placeS (c : Ma.Cookie) (ha : c.host.addr.length = 16) : Try.prog.built 72 [(0, strV c.name), (1, .agg (hostA c.host)), (2, .bool c.only), (3, strV c.path)] = some (placeA c) := by
  obtain ⟨n, v, ⟨k, m, a⟩, o, p, s, h, sm, ex, bo, us, sq⟩ := c
  obtain ⟨x0, x1, x2, x3, x4, x5, x6, x7, x8, x9, x10, x11, x12, x13, x14, x15, rfl⟩ := sixteen ha
  kernel_rfl
set_option maxRecDepth 100000 in
set_option maxHeartbeats 2000000 in
theorem placeOfS_calls (c : Ma.Cookie) (ha : c.host.addr.length = 16) (w : World) :
    Calls Try.prog 31 #[.agg (cookieA c)] w fun e w' => e = .returned (.agg (placeA c)) ∧ Below w.heap.size w w' := by
  have z0 := zeroPlace
  have HC := Lib.hid (cookieA_size c ha)
  have HP := Lib.hid (placeA_size c ha)
  have HP1 := Lib.hid (placeA_one c)
  have HZ := Lib.hid (placeA_size Ma.zero rfl)
  have HB := Lib.hid (built_placeS c ha)
  have HH := Lib.hid (cookieA_host c ha)
  have k0 := cookieA_name c
  have k20 := cookieA_only c ha
  have k21 := cookieA_path c ha
  unfold strV at HB k0 k21
  have R0 := Row.new w 34 (cookieA c)
  have B0 := (Below.refl w.heap.size w).alloc (Nat.le_refl _) (.cells (cookieA c) 34)
  generalize (⟨c.name.toArray⟩ : ByteArray) = n at *
  generalize (⟨c.path.toArray⟩ : ByteArray) = p at *
  generalize c.only = b at *
  generalize hostA c.host = H at *
  generalize placeA Ma.zero = Z at *
  have R1 := R0.alloc (.cells Z 72)
  have hN : (w.alloc (.cells (cookieA c) 34)).heap.size = w.heap.size + 1 := by simp
  have T1 := Row.new (w.alloc (.cells (cookieA c) 34)) 72 Z
  rw [hN] at T1
  have C1 := B0.alloc B0.size (.cells Z 72)
  have c0 := (R1.cell 0).trans k0
  have c20 := (R1.cell 20).trans k20
  have c21 := (R1.cell 21).trans k21
  have s0 : w.heap.size ≤ w.heap.size + 1 := by omega
  clear k0 k20 k21 hN R0 B0
  generalize cookieA c = X at *
  go_enter Try.func31, Try.ntmps31
  go_wp2_with (first
    | (refine at_slot 6 rfl ?_; refine load_part rfl 32 _ rfl w.heap.size 2 18 rfl R1 Try.underlying32 rfl infoHost (by rw [HC.out]; decide) H HH.out ?_)
    | (refine at_slot 11 rfl ?_; refine build_four_g rfl 72 0 1 2 3 _ _ _ _ rfl _ _ _ _ rfl rfl rfl rfl (placeA c) HB.out ?_)
    | (refine wpList_store_row rfl 72 _ _ rfl (w.heap.size + 1) (placeA c) rfl rfl 72 _ T1 (by rw [HP.out]; exact infoPlaceS) (by rw [HP.out, HZ.out]) HP1.out ?_))
  exact bodyPost_ret (v := .agg (placeA c)) (results_cell_row rfl _ _ _ _ _ _ _ rfl (T1.whole _) Try.underlying72 rfl (by rw [HP.out]; exact infoPlaceS)) rfl ⟨rfl, below_setRow C1 s0 _⟩
end Go.Proofs.Ytdfcnodlddeccaa
