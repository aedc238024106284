/- The walks of Bytes and FromBytes. -/
import Derived.Test.YtaaclhgnbdcaaaaInRow
import Derived.Test.YtaaclhgnbdcaaaaOctets
import Derived.Test.YtaaclhgnbdcaaaaSymbolWays
import Derived.Test.YtaaclhgnbdcaaaaRefSymBytes
import Derived.Test.YtaaclhgnbdcaaaaShelf
import Derived.Laws.OwnMore
namespace Go.Proofs.Ytaaclhgnbdcaaaa
open Go.RowKit
/-- The bytes of paths, in order, as the program writes them. -/
def pathS : ByteArray := ⟨([33, 34, 36, 37, 38, 39, 40, 41, 42, 43, 44, 45, 46, 47, 48, 49, 50, 51, 52, 53, 54, 55, 56, 57, 58, 59, 60, 61, 62, 64, 65, 66, 67, 68, 69, 70, 71, 72, 73, 74, 75, 76, 77, 78, 79, 80].append [81, 82, 83, 84, 85, 86, 87, 88, 89, 90, 91, 92, 93, 94, 95, 96, 97, 98, 99, 100, 101, 102, 103, 104, 105, 106, 107, 108, 109, 110, 111, 112, 113, 114, 115, 116, 117, 118, 119, 120, 121, 122, 123, 124, 125, 126]).toArray⟩
theorem index_all : ∀ c : UInt8, Lib.indexByte pathS.data.toList c = Sy.sym c := Sy.byte_all (by decide +kernel)
theorem pathS_at : ∀ n : Nat, (h : n < 92) → (pathS[n]'h).toNat = (Sy.byteN n).toNat := by decide +kernel
theorem index_calls (c : UInt8) (w : World) :
    Calls Try.prog 31 #[.string ⟨([33, 34, 36, 37, 38, 39, 40, 41, 42, 43, 44, 45, 46, 47, 48, 49, 50, 51, 52, 53, 54, 55, 56, 57, 58, 59, 60, 61, 62, 64, 65, 66, 67, 68, 69, 70, 71, 72, 73, 74, 75, 76, 77, 78, 79, 80].append [81, 82, 83, 84, 85, 86, 87, 88, 89, 90, 91, 92, 93, 94, 95, 96, 97, 98, 99, 100, 101, 102, 103, 104, 105, 106, 107, 108, 109, 110, 111, 112, 113, 114, 115, 116, 117, 118, 119, 120, 121, 122, 123, 124, 125, 126]).toArray⟩, .int .u8 (c.toNat : Int)] w fun e w' => e = .returned (.int .i64 (Sy.sym c)) ∧ w' = w := by
  refine (Try.strings_IndexByte pathS (c.toNat : Int) w).mono ?_
  rintro e w' ⟨rfl, rfl⟩
  refine ⟨?_, rfl⟩
  rw [← index_all c]
  congr 3
  simp
theorem own_made {w : World} {t : TypeId} {n : Nat} {xs : List Value} (hx : xs.length = n) (hn : n ≤ 1099511627776) : (w.alloc (.cells xs.toArray t)).ownsRow w.heap.size t 1 (.slice (some ⟨w.heap.size, 0, none⟩) n n) n xs :=
  ⟨by rw [Nat.mul_one]; exact hx, .inr ⟨w.heap.size, n, xs.toArray, rfl, Nat.le_refl _, heap_alloc_new w _, Nat.le_refl _, by unfold maxLen; omega, by simp [hx], by rw [List.take_of_length_le (by simp [hx])]⟩⟩
/-- So many are written. -/
def numsAt (l : List Int) (n k : Nat) : List Int := l.take k ++ List.replicate (n - k) 0
theorem numsAt_zero (l : List Int) (n : Nat) : numsAt l n 0 = List.replicate n 0 := by simp [numsAt]
theorem numsAt_all {l : List Int} {n k : Nat} (h : l.length = n) (hk : n ≤ k) : numsAt l n k = l := by unfold numsAt; rw [List.take_of_length_le (by omega), Nat.sub_eq_zero_of_le hk]; simp
theorem numsAt_set {l : List Int} {n k : Nat} {x : Int} (h : l.length = n) (hk : l[k]? = some x) : (intVs (numsAt l n k)).set k (.int .i64 x) = intVs (numsAt l n (k + 1)) := by
  have hl := (List.getElem?_eq_some_iff.1 hk).1
  unfold intVs numsAt
  rw [show Value.int .i64 x = intV x from rfl, ← List.map_set, List.set_append_right _ _ (by rw [List.length_take]; omega), List.length_take, Nat.min_eq_left (by omega), Nat.sub_self, List.take_add_one, hk, show n - k = (n - (k + 1)) + 1 by omega, List.replicate_succ]
  simp
set_option maxRecDepth 100000 in
set_option maxHeartbeats 2000000 in
theorem symBytes_calls (s : ByteArray) (w : World) (hs : s.size ≤ 1048576) :
    Calls Try.prog 18 #[.string s] w (NumsIf (Sy.bytes s.data.toList) w) := by
  have HPost : Hid (∀ v x ok w', Sy.bytes s.data.toList = (x, ok) → Nums w' v x → Below w.heap.size w w' → NumsIf (Sy.bytes s.data.toList) w (.returned (.tuple #[v, .bool ok])) w') := Lib.hid (fun v x ok w' h h1 h2 => ⟨v, by rw [h], by rw [h]; exact h1, h2⟩)
  generalize NumsIf (Sy.bytes s.data.toList) w = post at *
  obtain ⟨L, hL⟩ : ∃ L, L = s.data.toList.map Sy.sym := ⟨_, rfl⟩
  have hLl : L.length = s.size := by rw [hL, List.length_map, Oct.length_bytes]
  have hmk := fun W => make_one (P := Try.prog) Try.underlying36 infoNum rfl s.size (by omega) (by omega) W
  have HO : Hid ((w.alloc (.cells (List.replicate s.size (Value.int .i64 0)).toArray 3)).ownsRow w.heap.size 3 1 (.slice (some ⟨w.heap.size, 0, none⟩) s.size s.size) s.size (intVs (numsAt L s.size 0))) := Lib.hid (by
    have h := own_made (w := w) (t := 3) (n := s.size) (xs := List.replicate s.size (Value.int .i64 0)) (by simp) (by omega)
    rw [numsAt_zero]
    unfold intVs
    rw [List.map_replicate]
    exact h)
  have HL := Lib.hid hL
  have HLL := Lib.hid hLl
  clear hL hLl
  go_enter Try.func18, Try.ntmps18
  go_wp2
  go_loopw [11] (fun i wr => ∃ k : Nat, k ≤ s.size ∧ i = .int .i64 k ∧ Hid (∀ x ∈ s.data.toList.take k, Sy.pathB x = true) ∧ Hid (wr.ownsRow w.heap.size 3 1 (.slice (some ⟨w.heap.size, 0, none⟩) s.size s.size) s.size (intVs (numsAt L s.size k))) ∧ Below w.heap.size w wr) (fun i _ => s.size - (intOf i).toNat)
  case atStart => exact ⟨0, Nat.zero_le _, rfl, Lib.hid (by simp), HO, (Below.refl _ w).alloc (Nat.le_refl _) _⟩
  case round =>
    obtain ⟨k, hk, rfl, HG, HW, hb⟩ := hrel
    by_cases hlt : k < s.size
    · have hc : s.data.toList[k]? = some s[k] := by rw [List.getElem?_eq_getElem (by rw [Oct.length_bytes]; exact hlt), Oct.getElem_bytes s k hlt]
      have HI := Lib.hid (fun W => index_calls s[k] W)
      have hLk : L[k]? = some (Sy.sym s[k]) := by rw [HL.out, List.getElem?_map, hc]; rfl
      have HS := Lib.hid (HW.out.stored k (.int .i64 (Sy.sym s[k])))
      rw [numsAt_set HLL.out hLk] at HS
      have hfr := HW.out.frozenAt k
      have hold := HW.out.cellAt k (by omega)
      obtain ⟨o, ho⟩ : ∃ o, (intVs (numsAt L s.size k))[k]? = some o := ⟨_, List.getElem?_eq_getElem (by rw [intVs_length]; unfold numsAt; rw [List.length_append, List.length_take, List.length_replicate, HLL.out]; omega)⟩
      rw [ho] at hold
      have hnew : (wr.setCell ⟨w.heap.size, k, none⟩ (.int .i64 (Sy.sym s[k]))).cell? ⟨w.heap.size, k, none⟩ = some (.int .i64 (Sy.sym s[k])) := World.cell?_setCell_same wr _ _ hold
      have hb2 := hb.setCell (p := ⟨w.heap.size, k, none⟩) (Nat.le_refl _) (.int .i64 (Sy.sym s[k]))
      cases hp : Sy.pathB s[k] with
      | true =>
        have h0 : ¬ Sy.sym s[k] < 0 := by rw [Sy.symK_at hp]; omega
        have HG2 := Lib.hid (Sy.good_more HG.out hc hp)
        clear hc hp hLk ho
        generalize Sy.sym s[k] = z at *
        go_wp2_with (go_at_call 31; refine (HI.out _).mono ?_; rintro e w' ⟨rfl, rfl⟩)
        go_roundw
        case rel => exact ⟨k + 1, by omega, by go_num, HG2, Lib.hid HS.out.1, hb2⟩
        case measure => simp [intOf]; omega
      | false =>
        have h0 : Sy.sym s[k] < 0 := by rw [Sy.sym_other hp]; omega
        have HN := Lib.hid (Sy.bytes_no hc hp)
        clear hc hp hLk ho
        generalize Sy.sym s[k] = z at *
        go_wp2_with (go_at_call 31; refine (HI.out _).mono ?_; rintro e w' ⟨rfl, rfl⟩)
        exact HPost.out _ _ _ _ HN.out (nums_nil _) hb2
    · have HN : Hid (Sy.bytes s.data.toList = (L, true)) := Lib.hid (by
        have := HG.out
        rw [Oct.take_all s k (by omega)] at this
        rw [HL.out]
        exact Sy.bytes_yes this)
      have HE : Hid (numsAt L s.size k = L) := Lib.hid (numsAt_all HLL.out (by omega))
      go_wp2
      exact HPost.out _ _ _ _ HN.out (nums_own (by rw [← HE.out]; exact HW.out)) hb
/-- So many bytes are written. -/
def bytesAt (l : List UInt8) (n k : Nat) : List UInt8 := l.take k ++ List.replicate (n - k) 0
theorem bytesAt_zero (l : List UInt8) (n : Nat) : bytesAt l n 0 = List.replicate n 0 := by simp [bytesAt]
theorem bytesAt_all {l : List UInt8} {n k : Nat} (h : l.length = n) (hk : n ≤ k) : bytesAt l n k = l := by unfold bytesAt; rw [List.take_of_length_le (by omega), Nat.sub_eq_zero_of_le hk]; simp
theorem bytesAt_set {l : List UInt8} {n k : Nat} {c : UInt8} (h : l.length = n) (hk : l[k]? = some c) : ((bytesAt l n k).map byteV).set k (.int .u8 (c.toNat : Int)) = (bytesAt l n (k + 1)).map byteV := by
  have hl := (List.getElem?_eq_some_iff.1 hk).1
  unfold bytesAt
  rw [show Value.int .u8 (c.toNat : Int) = byteV c from rfl, ← List.map_set, List.set_append_right _ _ (by rw [List.length_take]; omega), List.length_take, Nat.min_eq_left (by omega), Nat.sub_self, List.take_add_one, hk, show n - k = (n - (k + 1)) + 1 by omega, List.replicate_succ]
  simp
theorem good_all {l : List Int} {k : Nat} {x : Int} (h : ∀ n ∈ l.take k, Sy.inB n = true) (hc : l[k]? = some x) (hp : Sy.inB x = true) : ∀ n ∈ l.take (k + 1), Sy.inB n = true := by
  intro n hn
  rw [List.take_add_one, hc, List.mem_append] at hn
  rcases hn with hn | hn
  · exact h n hn
  · have hn : n = x := by simpa using hn
    rw [hn]; exact hp
set_option maxRecDepth 100000 in
set_option maxHeartbeats 2000000 in
theorem symFrom_calls (v : Value) (l : List Int) (w : World) (h : Nums w v l) (hn : l.length ≤ 1048576) :
    Calls Try.prog 20 #[v] w (NewTextIf w.heap.size (Sy.from' l).1 (Sy.from' l).2 w) := by
  obtain ⟨A, c, rfl⟩ := h.slice
  have HPost : Hid (∀ (x : List UInt8) (t : ByteArray) ok w', Sy.from' l = (x, ok) → t = ⟨x.toArray⟩ → Below w.heap.size w w' → NewTextIf w.heap.size (Sy.from' l).1 (Sy.from' l).2 w (.returned (.tuple #[.string t, .bool ok])) w') := Lib.hid (fun x t ok w' h h1 h2 => by rw [h, h1]; exact ⟨rfl, h2⟩)
  generalize NewTextIf w.heap.size (Sy.from' l).1 (Sy.from' l).2 w = post at *
  obtain ⟨n, hn'⟩ : ∃ n, l.length = n := ⟨_, rfl⟩
  rw [hn'] at h hn ⊢
  obtain ⟨L, hL⟩ : ∃ L, L = l.map (fun x => Sy.byteN x.toNat) := ⟨_, rfl⟩
  have hLl : L.length = n := by rw [hL, List.length_map, hn']
  have hmk := fun W => make_one (P := Try.prog) Try.underlying55 infoU8 rfl n (by omega) (by omega) W
  have HO : Hid ((w.alloc (.cells (List.replicate n (Value.int .u8 0)).toArray 5)).ownsRow w.heap.size 5 1 (.slice (some ⟨w.heap.size, 0, none⟩) n n) n ((bytesAt L n 0).map byteV)) := Lib.hid (by
    have h := own_made (w := w) (t := 5) (n := n) (xs := List.replicate n (Value.int .u8 0)) (by simp) (by omega)
    rw [bytesAt_zero, List.map_replicate]
    exact h)
  have HL := Lib.hid hL
  have HLL := Lib.hid hLl
  have HN := Lib.hid hn'
  have HT := Lib.hid h
  clear hL hLl hn' h
  go_enter Try.func20, Try.ntmps20
  go_wp2
  go_loopw [12] (fun i wr => ∃ k : Nat, k ≤ n ∧ i = .int .i64 k ∧ Hid (∀ x ∈ l.take k, Sy.inB x = true) ∧ Hid (wr.ownsRow w.heap.size 5 1 (.slice (some ⟨w.heap.size, 0, none⟩) n n) n ((bytesAt L n k).map byteV)) ∧ Below w.heap.size w wr) (fun i _ => n - (intOf i).toNat)
  case atStart => exact ⟨0, Nat.zero_le _, rfl, Lib.hid (by simp), HO, (Below.refl _ w).alloc (Nat.le_refl _) _⟩
  case round =>
    obtain ⟨k, hk, rfl, HG, HW, hb⟩ := hrel
    by_cases hlt : k < n
    · obtain ⟨x, hx⟩ : ∃ x, l[k]? = some x := ⟨_, List.getElem?_eq_getElem (by rw [HN.out]; exact hlt)⟩
      obtain ⟨g, off, rfl, hcell⟩ := (HT.out.later hb (Nat.le_refl _)).at hx
      by_cases h0 : x < 0
      · have HZ := Lib.hid (Sy.from_no' (List.mem_of_getElem? hx) (n := x) (by unfold Sy.inB; exact decide_eq_false (by omega)))
        clear hx
        go_wp2
        exact HPost.out _ _ _ _ HZ.out rfl hb
      by_cases h1 : 92 ≤ x
      · have HZ := Lib.hid (Sy.from_no' (List.mem_of_getElem? hx) (n := x) (by unfold Sy.inB; exact decide_eq_false (by omega)))
        have e1 : decide (92 ≤ x) = true := decide_eq_true h1
        clear hx
        go_wp2
        exact HPost.out _ _ _ _ HZ.out rfl hb
      · obtain ⟨m, rfl⟩ : ∃ m : Nat, x = (m : Int) := ⟨x.toNat, by omega⟩
        have hm : m < 92 := by omega
        have e1 : decide ((92 : Int) ≤ (m : Int)) = false := decide_eq_false h1
        have HG2 := Lib.hid (good_all HG.out hx (by unfold Sy.inB; exact decide_eq_true (by omega)))
        have hLk : L[k]? = some (Sy.byteN m) := by rw [HL.out, List.getElem?_map, hx]; rfl
        have HS := Lib.hid (HW.out.stored k (.int .u8 ((Sy.byteN m).toNat : Int)))
        rw [bytesAt_set HLL.out hLk] at HS
        have HP := Lib.hid (pathS_at m hm)
        have hq1 : (0 : Int) ≤ (m : Int) := by omega
        have hq2 : (m : Int) < 92 := by omega
        have hfr := HW.out.frozenAt k
        have hold := HW.out.cellAt k (by omega)
        obtain ⟨o, ho⟩ : ∃ o, ((bytesAt L n k).map byteV)[k]? = some o := ⟨_, List.getElem?_eq_getElem (by rw [List.length_map]; unfold bytesAt; rw [List.length_append, List.length_take, List.length_replicate, HLL.out]; omega)⟩
        rw [ho] at hold
        have hb2 := hb.setCell (p := ⟨w.heap.size, k, none⟩) (Nat.le_refl _) (.int .u8 ((Sy.byteN m).toNat : Int))
        rw [← HP.out] at HS hb2
        clear hx hLk ho h0 h1
        go_wp2
        go_roundw
        case rel => exact ⟨k + 1, by omega, by go_num, HG2, Lib.hid HS.out.1, hb2⟩
        case measure => simp [intOf]; omega
    · have HZ : Hid (Sy.from' l = (L, true)) := Lib.hid (by
        have := HG.out
        rw [List.take_of_length_le (by have := HN.out; omega)] at this
        rw [HL.out]
        exact Sy.from_yes this)
      have HE : Hid (bytesAt L n k = L) := Lib.hid (bytesAt_all HLL.out (by omega))
      have hown := HW.out
      rw [HE.out] at hown
      obtain ⟨A3, c3, hv, hconv⟩ := own_string_any hown
      obtain ⟨rfl, _, rfl⟩ := Value.slice.inj hv
      clear hown hv
      go_wp2
      exact HPost.out _ _ _ _ HZ.out rfl hb
end Go.Proofs.Ytaaclhgnbdcaaaa
