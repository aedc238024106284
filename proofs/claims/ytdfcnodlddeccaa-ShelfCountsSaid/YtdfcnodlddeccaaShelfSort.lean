/- Cookies sorted by their numbers: the library's sort at our closure. -/
import Derived.Test.YtdfcnodlddeccaaShelfAt
import Derived.Test.YtdfcnodlddeccaaShelf
import Derived.Shelf.SlSortCmp.NoneTotal
import Derived.Shelf.Abstract
namespace Go.Proofs.Ytdfcnodlddeccaa
open Go.RowKit Go.Shelf Go.Sort Go.Lib
/-- A cookie whose host has an address of sixteen bytes. -/
structure Ck where
  c : Ma.Cookie
  ok : c.host.addr.length = 16
def ckZero : Ck := ⟨Ma.zeroC, rfl⟩
instance : Inhabited Ck := ⟨ckZero⟩
def toCk (c : Ma.Cookie) : Ck := if h : c.host.addr.length = 16 then ⟨c, h⟩ else ckZero
theorem toCk_val {c : Ma.Cookie} (h : c.host.addr.length = 16) : (toCk c).1 = c := by unfold toCk; rw [dif_pos h]
def encCk (c : Ck) : List Value := (cookieA c.1).toList
theorem encCk_length (c : Ck) : (encCk c).length = 29 := cookieA_len c.1 c.2
theorem encCk_one (c : Ck) : ∀ v ∈ encCk c, v.oneCell' = true := fun v hv => Array.all_eq_true'.1 (cookieA_one c.1) v (Array.mem_toList_iff.1 hv)
def cmpCk (x y : Ck) : Int := Lib.compareInt x.1.seq y.1.seq
theorem ltCk (x y : Ck) : ltOf cmpCk x y = decide (x.1.seq < y.1.seq) := by
  unfold ltOf cmpCk Lib.compareInt
  by_cases h1 : x.1.seq < y.1.seq
  · simp [h1]
  · by_cases h2 : y.1.seq < x.1.seq <;> simp [h1, h2]
theorem swoCk : SWO (ltOf cmpCk) where
  irrefl x := by rw [ltCk]; simp
  trans x y z h1 h2 := by rw [ltCk] at *; simp at *; omega
  ntrans x y z h1 h2 := by rw [ltCk] at *; simp at *; omega
set_option maxRecDepth 100000 in
set_option maxHeartbeats 2000000 in
theorem bySeq_calls (x y : Ck) (w : World) : Calls Try.prog 33 #[.agg (encCk x).toArray, .agg (encCk y).toArray] w fun e w' => e = .returned (.int .i64 (cmpCk x y)) ∧ ∃ q os', w' = grow (w.drewN q) os' := by
  have hcon := fun W => Try.cmp_Compare_int x.1.seq y.1.seq W
  have k1 : (encCk x).toArray[28]? = some (.int .i64 x.1.seq) := by unfold encCk; rw [Array.toArray_toList]; exact cookieA_seq x.1 x.2
  have l1 : (encCk y).toArray[28]? = some (.int .i64 y.1.seq) := by unfold encCk; rw [Array.toArray_toList]; exact cookieA_seq y.1 y.2
  have HQ : Hid (cmpCk x y = Lib.compareInt x.1.seq y.1.seq) := Lib.hid rfl
  rw [HQ.out]
  have R0 := Row.new w 34 (encCk x).toArray
  have hN : (w.alloc (.cells (encCk x).toArray 34)).heap.size = w.heap.size + 1 := by simp
  have S0 := Row.new (w.alloc (.cells (encCk x).toArray 34)) 34 (encCk y).toArray
  rw [hN] at S0
  have R1 := R0.alloc (.cells (encCk y).toArray 34)
  have c1 := (R1.cell 28).trans k1
  have d1 := (S0.cell 28).trans l1
  generalize Lib.compareInt x.1.seq y.1.seq = r at *
  generalize x.1.seq = sx at *
  generalize y.1.seq = sy at *
  generalize (encCk x).toArray = U at *
  generalize (encCk y).toArray = V at *
  have HCC := Lib.hid hcon
  clear hcon R0 hN R1 S0 k1 l1
  go_enter Try.func33, Try.ntmps33
  go_wp2_with fail
  refine (HCC.out _).mono ?_
  rintro e w' ⟨rfl, rfl⟩
  go_wp2
  go_ret
  exact ⟨rfl, 0, _, by rw [alloc_eq_grow, alloc_eq_grow, grow_grow]; rfl⟩
/-! ### Worlds of the sort -/
theorem sortWorld_below {B : Nat} {w0 w : World} (h : Below B w0 w) {g off m : Nat} (hg : B ≤ g) (hB : B ≤ w.heap.size) (d : Array Ck) (os : Array Obj) : Below B w0 (sortWorldK encCk 29 w g off m d os) := by
  have e : sortWorldK encCk 29 w g off m d os = grow (mapBlock (Sort.ahead w m) g (putCells id off (flatK encCk 29 d))) os := rfl
  rw [e]
  refine ⟨h.os, h.tape, h.output, ?_, fun i hi => ?_⟩
  · refine Nat.le_trans h.size ?_
    simp [grow, mapBlock, Sort.ahead]
  · rw [← h.block i hi]
    simp only [grow, mapBlock, Sort.ahead]
    rw [Array.getElem?_append_left (by rw [Array.size_modify]; omega), Array.getElem?_modify]
    rw [if_neg (by omega)]
theorem flat_flatK {d : Array Ck} {j : Nat} {u : Value} (h : (flat cookieA (d.toList.map (·.1)))[j]? = some u) : j < d.size * 29 ∧ (flatK encCk 29 d)[j]! = u := by
  have hs : ∀ c ∈ d.toList.map (·.1), (cookieA c).size = 29 := by
    intro c hc
    obtain ⟨x, _, rfl⟩ := List.mem_map.1 hc
    exact cookieA_size x.1 x.2
  have hl := flat_length hs
  have hj : j < d.size * 29 := by
    have h2 := (List.getElem?_eq_some_iff.1 h).1
    rw [hl] at h2
    simpa using h2
  refine ⟨hj, ?_⟩
  rw [get_flatK encCk 29 d j hj]
  have hq : j / 29 < d.size := Nat.div_lt_of_lt_mul (by omega)
  have hx : (d.toList.map (·.1))[j / 29]? = some d[j / 29].1 := by
    rw [List.getElem?_map, Array.getElem?_toList, Array.getElem?_eq_getElem hq]; rfl
  have hm : j % 29 < 29 := Nat.mod_lt _ (by decide)
  have hsz : j % 29 < (cookieA d[j / 29].1).size := by rw [cookieA_size _ d[j / 29].2]; exact hm
  have ha := flat_at hs hx (j % 29) _ (Array.getElem?_eq_getElem hsz)
  have he : j / 29 * 29 + j % 29 = j := by omega
  rw [he, h] at ha
  have ha := Option.some.inj ha
  rw [ha, getElem!_pos d (j / 29) hq]
  unfold encCk
  rw [getElem!_pos _ _ (by rw [Array.length_toList]; exact hsz), Array.getElem_toList]
theorem lies_sorted {w : World} {g cap m : Nat} {d d' : Array Ck} {os : Array Obj} (hH : HoldsK encCk 29 w g 0 d) (hg : g < w.heap.size) (hs : d'.size = d.size) (hc : d.size ≤ cap) :
    Lies cookieA (sortWorldK encCk 29 w g 0 m d' os) (.slice (some ⟨g, 0, none⟩) d.size cap) (d'.toList.map (·.1)) := by
  have hh := holdsK_sortWorldK_c encCk 29 w g 0 d d' m os hH hg hs
  have hl : (d'.toList.map (·.1)).length = d.size := by rw [List.length_map, Array.length_toList, hs]
  refine ⟨some ⟨g, 0, none⟩, cap, by rw [hl], by omega, fun _ => ⟨g, 0, rfl, Nat.lt_of_lt_of_le hg (size_sortWorldK_c encCk 29 w g 0 m d' os), fun j u hu => ?_⟩⟩
  obtain ⟨h1, h2⟩ := flat_flatK hu
  have := (hh j (by rw [size_flatK]; exact h1)).1
  rw [h2] at this
  exact this
theorem holds_row {w : World} {B g n cap : Nat} {cs : List Ma.Cookie} (hs : ∀ c ∈ cs, c.host.addr.length = 16) (h : w.ownsRow B 34 29 (.slice (some ⟨g, 0, none⟩) n cap) n (flat cookieA cs)) : HoldsK encCk 29 w g 0 (cs.map toCk).toArray := by
  have hd : (cs.map toCk).toArray.toList.map (·.1) = cs := by
    rw [List.map_map]
    have : cs.map ((fun x : Ck => x.1) ∘ toCk) = cs.map id := List.map_congr_left (fun c hc => toCk_val (hs c hc))
    rw [this, List.map_id]
  rcases h.2 with ⟨h0, _⟩ | ⟨g', cap', cur, he, hB, hg, hc, hm, hcs, ht⟩
  · cases h0
  · obtain ⟨e1, _, e3⟩ := Value.slice.inj he
    have e1 := Option.some.inj e1
    simp only [Addr.mk.injEq] at e1
    obtain ⟨rfl, _, _⟩ := e1
    intro j hj
    rw [size_flatK] at hj
    have hl : (flat cookieA ((cs.map toCk).toArray.toList.map (·.1))).length = (cs.map toCk).toArray.size * 29 := by
      rw [flat_length (n := 29) (fun c hc => by
        obtain ⟨x, _, rfl⟩ := List.mem_map.1 hc
        exact cookieA_size x.1 x.2), List.length_map, Array.length_toList]
    obtain ⟨u, hu⟩ : ∃ u, (flat cookieA ((cs.map toCk).toArray.toList.map (·.1)))[j]? = some u := ⟨_, List.getElem?_eq_getElem (by rw [hl]; exact hj)⟩
    obtain ⟨_, h2⟩ := flat_flatK hu
    rw [hd] at hu
    refine ⟨?_, ?_⟩
    · have c1 := h.cells (g := g) rfl _ _ hu
      rw [add_at] at c1
      rw [c1]
      exact congrArg some h2.symm
    · exact frozen_of_row w g (0 + j) cur _ hg
/-- What stands there sorted: by rising numbers. -/
theorem sorted_is {cs out : List Ma.Cookie} (hs : ∀ c ∈ cs, c.host.addr.length = 16) {d' : Array Ck} (hp : PermIn 0 (cs.map toCk).toArray.size (cs.map toCk).toArray d') (hso : SortedIn (ltOf cmpCk) 0 (cs.map toCk).toArray.size d')
    (ho : cs.Perm out) (hr : out.Pairwise fun a b => a.seq < b.seq) : d'.toList.map (·.1) = out := by
  have hd : (cs.map toCk).map (fun x : Ck => x.1) = cs := by
    rw [List.map_map]
    have : cs.map ((fun x : Ck => x.1) ∘ toCk) = cs.map id := List.map_congr_left (fun c hc => toCk_val (hs c hc))
    rw [this, List.map_id]
  obtain ⟨h1, _, h3⟩ := hp
  have e1 : (d'.extract 0 (cs.map toCk).toArray.size) = d' := by rw [← h1]; exact Array.extract_size
  rw [e1, Array.extract_size] at h3
  have hp2 : (d'.toList.map (·.1)).Perm out := by
    have := h3.map (fun x : Ck => x.1)
    rw [List.toList_toArray, hd] at this
    exact this.trans ho
  refine Sh.rise_eq hp2 ?_ hr
  have hne : out.Pairwise fun a b => a.seq ≠ b.seq := hr.imp (fun h => by omega)
  have hne2 : (d'.toList.map (·.1)).Pairwise fun a b => a.seq ≠ b.seq := (hp2.symm.pairwise_iff (fun {a b} h => Ne.symm h)).1 hne
  rw [List.pairwise_iff_getElem] at hne2 ⊢
  intro i j hi hj hij
  have h5 := hne2 i j hi hj hij
  have hi' : i < d'.size := by simpa using hi
  have hj' : j < d'.size := by simpa using hj
  have h6 := hso i j (Nat.zero_le _) hij (by rw [← h1]; exact hj')
  rw [ltCk, getElem!_pos d' j hj', getElem!_pos d' i hi', decide_eq_false_iff_not] at h6
  simp only [List.getElem_map, Array.getElem_toList] at h5 ⊢
  omega
set_option maxRecDepth 100000 in
set_option maxHeartbeats 2000000 in
/-- A list of cookies of the call's own, sorted by their numbers. -/
theorem sort_calls {cs out : List Ma.Cookie} {B : Nat} (w0 w : World) {v : Value} (hs : ∀ c ∈ cs, c.host.addr.length = 16) (h : w.ownsRow B 34 29 v cs.length (flat cookieA cs)) (hn : cs.length ≤ 1000000) (hb : Below B w0 w) (hB : B ≤ w.heap.size) (ho : cs.Perm out) (hr : out.Pairwise fun a b => a.seq < b.seq) :
    Calls Try.prog 32 #[v, .func (.func 33) #[] #[]] w fun e w' => e = .returned (.tuple #[]) ∧ Lies cookieA w' v out ∧ Below B w0 w' := by
  have hso := h
  have eg : ∀ args w, (callFunc 33 args).run Try.prog w = .ok (.enter 33 args) w := enters_of Try.func33 (by kernel_rfl) rfl
  rcases h.2 with ⟨rfl, h0⟩ | ⟨g, cap, cur, rfl, hBg, hg, hc, hm, hcs, ht⟩
  · have e0 : cs = [] := List.eq_nil_of_length_eq_zero h0
    subst e0
    have e1 : out = [] := ho.nil_eq.symm
    subst e1
    have hcon := AnyF.slices_SortFunc_none (P := Try.prog) { Try.sortCk with } none 0 (.func (.func 33) #[] #[]) w
    change Calls Try.prog 32 _ _ _ at hcon
    exact hcon.mono (fun e w' ⟨he, hw⟩ => ⟨he, by rw [hw]; exact lies_nil, by rw [hw]; exact hb⟩)
  · have hgl : g < w.heap.size := (Array.getElem?_eq_some_iff.1 hg).1
    have hds : (cs.map toCk).toArray.size = cs.length := by simp
    have hH := holds_row hs hso
    have hcon := AnyQ.slices_SortFunc Try.sortCk 29 Try.isAgg34 Try.sizeOf34 encCk encCk_length encCk_one cmpCk swoCk 33 #[] g 0 cap (cs.map toCk).toArray w eg (fun _ _ _ _ x y => bySeq_calls x y _) hH hgl (by rw [hds]; omega)
    change Calls Try.prog 32 _ _ _ at hcon
    rw [hds] at hcon
    refine hcon.mono (fun e w' ⟨he, d', n, os, hp, hso2, hw⟩ => ⟨he, ?_, by rw [hw]; exact sortWorld_below hb hBg hB _ _⟩)
    rw [hw]
    have hl := lies_sorted (cap := cap) (m := n) (os := os) hH hgl hp.1 (by rw [hds]; exact hc)
    rw [hds] at hl
    rw [← hds] at hp hso2
    rw [sorted_is hs hp hso2 ho hr] at hl
    exact hl
end Go.Proofs.Ytdfcnodlddeccaa
