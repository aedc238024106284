/- The walks of the reference's Texts and Of. -/
import Derived.Test.YtaaclhgnbdcaaaaRefSymSmall
namespace Go.Proofs.Ytaaclhgnbdcaaaa
open Go.RowKit
theorem Drawn.onward {a b c : World} (h : Drawn a b) (k : Drawn b c) : Drawn a c := by
  obtain ⟨n, rfl⟩ := h
  obtain ⟨m, rfl⟩ := k
  exact ⟨n + m, World.drewN_drewN _ _ _⟩
theorem Sy.fold_more {l : List (List UInt8)} {k : Nat} {x : List UInt8} (h : l[k]? = some x) : (l.take (k + 1)).foldl Sy.once [] = Sy.once ((l.take k).foldl Sy.once []) x := by
  rw [List.take_add_one, h, List.foldl_append]; rfl
theorem Sy.once_length (o : List (List UInt8)) (x : List UInt8) : (Sy.once o x).length ≤ o.length + 1 := by
  unfold Sy.once
  split
  · omega
  · simp
theorem Sy.fold_length : ∀ (l o : List (List UInt8)), (l.foldl Sy.once o).length ≤ o.length + l.length
  | [], o => by simp
  | x :: l, o => by
    rw [List.foldl_cons, List.length_cons]
    have := Sy.fold_length l (Sy.once o x)
    have := Sy.once_length o x
    omega
theorem Sy.texts_length (l : List (List UInt8)) : (Sy.texts l).length ≤ l.length := by have := Sy.fold_length l []; simpa [Sy.texts] using this
/-- Texts in new memory, the call's own. -/
def NewStrs (l : List (List UInt8)) (w : World) (e : Ending) (w' : World) : Prop := ∃ u, e = .returned u ∧ w'.ownsRow w.heap.size 9 1 u l.length (strVs l) ∧ Below w.heap.size w w'
set_option maxRecDepth 100000 in
set_option maxHeartbeats 1000000 in
theorem refTexts_calls (v : Value) (l : List (List UInt8)) (w : World) (h : Texts w v l) (hn : l.length ≤ 1048576) :
    Calls Try.prog 11 #[v] w (NewStrs (Sy.texts l) w) := by
  obtain ⟨A, c, rfl⟩ := h.slice
  obtain ⟨n, hn'⟩ : ∃ n, l.length = n := ⟨_, rfl⟩
  have HE : Hid ((l.take n).foldl Sy.once [] = Sy.texts l) := Lib.hid (by rw [List.take_of_length_le (by omega)]; rfl)
  have HL : Hid (∀ k, ((l.take k).foldl Sy.once []).length ≤ k) := Lib.hid (fun k => by
    have h1 := Sy.fold_length (l.take k) []
    have h2 := List.length_take_le k l
    simp only [List.length_nil] at h1
    omega)
  have HPost : Hid (∀ u w', w'.ownsRow w.heap.size 9 1 u (Sy.texts l).length (strVs (Sy.texts l)) → Below w.heap.size w w' → NewStrs (Sy.texts l) w (.returned u) w') := Lib.hid (fun u w' h1 h2 => ⟨u, rfl, h1, h2⟩)
  generalize NewStrs (Sy.texts l) w = post at *
  rw [hn'] at h hn ⊢
  have HN := Lib.hid hn'
  have HT := Lib.hid h
  clear hn' h
  go_enter Try.func11, Try.ntmps11
  go_wp2
  go_loopw [3, 9] (fun u i wr => ∃ (k : Nat) (o : List (List UInt8)) (m : Nat), k ≤ n ∧ i = .int .i64 k ∧ Hid (o = (l.take k).foldl Sy.once []) ∧ Hid (o.length = m) ∧ wr.ownsRow w.heap.size 9 1 u m (strVs o) ∧ Below w.heap.size w wr) (fun _ i _ => n - (intOf i).toNat)
  case atStart => exact ⟨0, [], 0, Nat.zero_le _, rfl, Lib.hid rfl, Lib.hid rfl, World.ownsRow_made w #[] 0 (Nat.le_refl _) (Nat.zero_le _) rfl, (Below.refl _ w).alloc (Nat.le_refl _) _⟩
  case round =>
    obtain ⟨k, o, m, hk, rfl, HO, HM, hown, hb⟩ := hrel
    have hol : m ≤ k := by rw [← HM.out, HO.out]; exact HL.out k
    have HOWN := Lib.hid hown
    obtain ⟨A2, c2, hv, _⟩ := own_any hown
    subst hv
    clear hown
    by_cases hlt : k < n
    · obtain ⟨x, hx⟩ : ∃ x, l[k]? = some x := ⟨_, List.getElem?_eq_getElem (by rw [HN.out]; exact hlt)⟩
      obtain ⟨t, ht, htx, _⟩ := text_of x
      obtain ⟨g, off, rfl, hcell⟩ := (HT.out.later hb (Nat.le_refl _)).at hx ht
      have HF := Lib.hid (Sy.fold_more hx)
      rw [← HO.out] at HF
      have hU : Texts wr (.slice A2 m c2) o := texts_own HOWN.out
      have HH := has_calls _ o t wr hU (by have := HM.out; omega)
      rw [htx] at HH
      have HX := Lib.hid htx
      clear hU ht htx hx
      by_cases hm : x ∈ o
      · rw [decide_eq_true hm] at HH
        have HF2 : Hid ((l.take (k + 1)).foldl Sy.once [] = o) := Lib.hid (by rw [HF.out]; unfold Sy.once; rw [if_pos hm])
        clear hm HF
        go_wp2_with (go_at_call 28; refine HH.mono ?_; rintro e w' ⟨rfl, rfl⟩)
        go_roundw
        case rel => exact ⟨k + 1, o, m, by omega, by go_num, Lib.hid HF2.out.symm, HM, HOWN.out, hb⟩
        case measure => simp [intOf]; omega
      · rw [decide_eq_false hm] at HH
        have HF2 : Hid ((l.take (k + 1)).foldl Sy.once [] = o ++ [x]) := Lib.hid (by rw [HF.out]; unfold Sy.once; rw [if_neg hm])
        clear hm HF
        have hbs := hb.size
        go_wp2_with (first
          | (go_at_call 28; refine HH.mono ?_; rintro e w' ⟨rfl, rfl⟩)
          | (at_builtin; refine wpList_append_one rfl _ _ 22 rfl w.heap.size 9 (.string ⟨#[]⟩) 16 Try.underlying22 infoText rfl _ m _ rfl HOWN.out rfl rfl (by omega) (by omega) hbs ?_; intro v' w2 hown2 hb2 _ _))
        go_roundw
        case rel => exact ⟨k + 1, o ++ [x], m + 1, by omega, by go_num, Lib.hid HF2.out.symm, Lib.hid (by rw [List.length_append, HM.out]; rfl), by rw [← HX.out, strVs_snoc]; exact hown2, hb.trans hb2⟩
        case measure => simp [intOf]; omega
    · have HD : Hid (o = Sy.texts l) := Lib.hid (by rw [HO.out, ← HE.out]; congr 2; omega)
      go_wp2
      exact HPost.out _ _ (by rw [← HD.out, HM.out]; exact HOWN.out) hb
theorem Sy.countP_more {l : List (List UInt8)} {k : Nat} {x : List UInt8} (p : List UInt8 → Bool) (h : l[k]? = some x) : (l.take (k + 1)).countP p = (l.take k).countP p + (if p x then 1 else 0) := by
  rw [List.take_add_one, h, List.countP_append]
  congr 1
  simp [List.countP_cons]
set_option maxRecDepth 100000 in
set_option maxHeartbeats 1000000 in
theorem refOf_calls (v : Value) (l : List (List UInt8)) (s : ByteArray) (w : World) (h : Texts w v l) (hn : l.length ≤ 1048576) (hl : ∀ x ∈ l, x.length ≤ 1048576) :
    Calls Try.prog 13 #[v, .string s] w fun e w' => e = .returned (.int .i64 (Sy.of l s.data.toList : Int)) ∧ Below w.heap.size w w' := by
  have HTX := refTexts_calls v l w h hn
  have htl := Sy.texts_length l
  have HTM : Hid (∀ x ∈ Sy.texts l, x.length ≤ 1048576) := Lib.hid (fun x hx => hl x (Sy.texts_mem.1 hx))
  have HOF : Hid (Sy.of l s.data.toList = if s.data.toList ∈ Sy.texts l then (Sy.texts l).countP (fun x => Sy.less x s.data.toList) else (Sy.texts l).length) := Lib.hid rfl
  unfold NewStrs at HTX
  generalize Sy.texts l = t at *
  generalize Sy.of l s.data.toList = z at *
  have HTX := Lib.hid HTX
  clear h hl
  go_enter Try.func13, Try.ntmps13
  go_wp2_with fail
  refine HTX.out.mono ?_
  rintro e w1 ⟨u, rfl, hown, hb⟩
  have hU := texts_own hown
  obtain ⟨A, c, rfl⟩ := hU.slice
  have HH := has_calls _ t s w1 hU (by omega)
  obtain ⟨n, hn'⟩ : ∃ n, t.length = n := ⟨_, rfl⟩
  rw [hn'] at HH hU HOF htl ⊢
  have HU := Lib.hid hU
  have HN := Lib.hid hn'
  have HHH := Lib.hid HH
  clear hown hU HTX hn' HH
  by_cases hm : s.data.toList ∈ t
  · rw [if_pos hm] at HOF
    rw [decide_eq_true hm] at HHH
    clear hm
    go_wp2_with (go_at_call 28; refine HHH.out.mono ?_; rintro e w' ⟨rfl, rfl⟩)
    go_loopw [6, 19] (fun q i wr => ∃ k m : Nat, k ≤ n ∧ m ≤ k ∧ i = .int .i64 k ∧ q = .int .i64 m ∧ Hid ((t.take k).countP (fun x => Sy.less x s.data.toList) = m) ∧ Hid (Drawn w' wr)) (fun _ i _ => n - (intOf i).toNat)
    case atStart => exact ⟨0, 0, Nat.zero_le _, Nat.le_refl _, rfl, rfl, Lib.hid rfl, Lib.hid (Drawn.refl _)⟩
    case round =>
      obtain ⟨k, m, hk, hmk, rfl, rfl, HC, HD⟩ := hrel
      by_cases hlt : k < n
      · obtain ⟨x, hx⟩ : ∃ x, t[k]? = some x := ⟨_, List.getElem?_eq_getElem (by rw [HN.out]; exact hlt)⟩
        obtain ⟨b, hbx, hbd, hbl⟩ := text_of x
        obtain ⟨g, off, rfl, hcell⟩ := (HU.out.stays (HD.out.below _)).at hx hbx
        have HLS := fun W => less_calls b s W (by have := HTM.out x (List.mem_of_getElem? hx); omega)
        rw [hbd] at HLS
        have HCM := Lib.hid (Sy.countP_more (fun x => Sy.less x s.data.toList) hx)
        rw [HC.out] at HCM
        obtain ⟨q, hq⟩ : ∃ q, Sy.less x s.data.toList = q := ⟨_, rfl⟩
        have HLS := Lib.hid HLS
        unfold BoolDrawn at HLS
        rw [hq] at HLS
        simp only [hq] at HCM
        clear hx hbx hbd hbl hq
        cases q
        · go_wp2_with (go_at_call 29; refine (HLS.out _).mono ?_; rintro e w5 ⟨rfl, hd5⟩)
          go_roundw
          case rel => exact ⟨k + 1, m, by omega, by omega, by go_num, rfl, Lib.hid HCM.out, Lib.hid (HD.out.onward hd5)⟩
          case measure => simp [intOf]; omega
        · go_wp2_with (go_at_call 29; refine (HLS.out _).mono ?_; rintro e w5 ⟨rfl, hd5⟩)
          go_roundw
          case rel => exact ⟨k + 1, m + 1, by omega, by omega, by go_num, by go_num, Lib.hid HCM.out, Lib.hid (HD.out.onward hd5)⟩
          case measure => simp [intOf]; omega
      · have HZ : Hid (z = m) := Lib.hid (by rw [HOF.out, ← HC.out, List.take_of_length_le (by have := HN.out; omega)])
        go_wp2
        go_ret
        exact ⟨by rw [HZ.out]; rfl, hb.trans (HD.out.below _)⟩
  · rw [if_neg hm] at HOF
    rw [decide_eq_false hm] at HHH
    clear hm
    go_wp2_with (go_at_call 28; refine HHH.out.mono ?_; rintro e w' ⟨rfl, rfl⟩)
    go_ret
    exact ⟨by rw [HOF.out]; rfl, hb⟩
end Go.Proofs.Ytaaclhgnbdcaaaa
