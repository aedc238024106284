/- The walk of the reference's Cookie. -/
import Derived.Test.YtpimaobejjpffaaGreatDoorRefTime
import Derived.Test.YtpimaobejjpffaaGreatDoorRefMonth
import Derived.Test.YtpimaobejjpffaaGreatDoorMoment
import Derived.StillTailTactics
namespace Go.Proofs.YtpimaobejjpffaaGreatDoor
open Go.RowKit
namespace Dt
theorem toks_count : ∀ s : List UInt8, (toks s).length ≤ s.length + 1
  | [] => Nat.le_refl _
  | c :: r => by
    have ih := toks_count r
    cases h : sepB c with
    | true => rw [toks_sep h]; simp; omega
    | false =>
      rw [toks_non h]
      cases e : toks r with
      | nil => exact absurd e (toks_ne r)
      | cons p ps => rw [e] at ih; simp at ih ⊢; omega
theorem toks_small : ∀ s : List UInt8, ∀ p ∈ toks s, p.length ≤ s.length
  | [], p, hp => by
    rw [toks, List.mem_singleton] at hp
    rw [hp]; exact Nat.zero_le _
  | c :: r, p, hp => by
    have ih := toks_small r
    cases h : sepB c with
    | true =>
      rw [toks_sep h] at hp
      rcases List.mem_cons.1 hp with rfl | hp
      · exact Nat.zero_le _
      · have := ih p hp; simp; omega
    | false =>
      rw [toks_non h] at hp
      cases e : toks r with
      | nil => exact absurd e (toks_ne r)
      | cons q qs =>
        rw [e] at hp ih
        rcases List.mem_cons.1 hp with rfl | hp
        · have := ih q (by simp); simp; omega
        · have := ih p (by simp [hp]); simp; omega
/-- What the reference keeps of what was told: -1 for nothing. -/
def optI (o : Option Nat) : Int := match o with | some n => n | none => -1
theorem year2_int (z : Nat) : year2 z = if 70 ≤ (z : Int) ∧ (z : Int) ≤ 99 then (z : Int) + 1900 else if (z : Int) ≤ 69 then (z : Int) + 2000 else (z : Int) := by
  unfold year2
  by_cases k1 : 70 ≤ z ∧ z ≤ 99
  · rw [if_pos k1, if_pos (show 70 ≤ (z : Int) ∧ (z : Int) ≤ 99 by omega)]
  · rw [if_neg k1, if_neg (show ¬ (70 ≤ (z : Int) ∧ (z : Int) ≤ 99) by omega)]
    by_cases k2 : z ≤ 69
    · rw [if_pos k2, if_pos (show (z : Int) ≤ 69 by omega)]
    · rw [if_neg k2, if_neg (show ¬ (z : Int) ≤ 69 by omega)]
def yearI (o : Option Nat) : Int := match o with | some y => year2 y | none => -1
theorem moment_ref (T : Told) : moment T = match T.time with
    | none => (0, false)
    | some (h, mi, s) => if Is (yearI T.year) (optI T.month) (optI T.day) ∧ h ≤ 23 ∧ mi ≤ 59 ∧ s ≤ 59 then (days (yearI T.year) (optI T.month) (optI T.day) * 86400 + (h * 3600 + mi * 60 + s : Nat), true) else (0, false) := by
  obtain ⟨t, d, m, y⟩ := T
  unfold moment
  dsimp only
  cases t with
  | none => rfl
  | some t =>
    obtain ⟨h, mi, s⟩ := t
    cases d with
    | none =>
      dsimp only
      rw [if_neg]
      rintro ⟨⟨_, _, _, _, h5, _⟩, _⟩
      have : optI none = -1 := rfl
      omega
    | some d =>
      cases m with
      | none =>
        dsimp only
        rw [if_neg]
        rintro ⟨⟨_, _, h3, _⟩, _⟩
        have : optI none = -1 := rfl
        omega
      | some m =>
        cases y with
        | none =>
          dsimp only
          rw [if_neg]
          rintro ⟨⟨h1, _⟩, _⟩
          have : yearI none = -1 := rfl
          omega
        | some y => rfl
end Dt
namespace Dt
theorem tellR_day {T : Told} {x : List UInt8} (h0 : ¬ (T.time = none ∧ time3 x ≠ none)) (h : T.day = none ∧ 1 ≤ lead x ∧ lead x ≤ 2) : tell T x = { T with day := some (Oct.numOf (x.take (lead x))) } := by
  unfold tell; rw [if_neg h0, if_pos h]
theorem tellR_month {T : Told} {x : List UInt8} (h0 : ¬ (T.time = none ∧ time3 x ≠ none)) (h1 : ¬ (T.day = none ∧ 1 ≤ lead x ∧ lead x ≤ 2)) (h : T.month = none ∧ 0 < month x) : tell T x = { T with month := some (month x) } := by
  unfold tell; rw [if_neg h0, if_neg h1, if_pos h]
theorem tellR_year {T : Told} {x : List UInt8} (h0 : ¬ (T.time = none ∧ time3 x ≠ none)) (h1 : ¬ (T.day = none ∧ 1 ≤ lead x ∧ lead x ≤ 2)) (h2 : ¬ (T.month = none ∧ 0 < month x)) (h : T.year = none ∧ 2 ≤ lead x ∧ lead x ≤ 4) : tell T x = { T with year := some (Oct.numOf (x.take (lead x))) } := by
  unfold tell; rw [if_neg h0, if_neg h1, if_neg h2, if_pos h]
theorem tellR_not {T : Told} {x : List UInt8} (h0 : ¬ (T.time = none ∧ time3 x ≠ none)) (h1 : ¬ (T.day = none ∧ 1 ≤ lead x ∧ lead x ≤ 2)) (h2 : ¬ (T.month = none ∧ 0 < month x)) (h3 : ¬ (T.year = none ∧ 2 ≤ lead x ∧ lead x ≤ 4)) : tell T x = T := by
  unfold tell; rw [if_neg h0, if_neg h1, if_neg h2, if_neg h3]
theorem fold_more {tks : List (List UInt8)} {k : Nat} {p : List UInt8} {T : Told} (h : (tks.take k).foldl tell untold = T) (hp : tks[k]? = some p) : (tks.take (k + 1)).foldl tell untold = tell T p := by
  obtain ⟨hl, e⟩ := List.getElem?_eq_some_iff.1 hp
  rw [List.take_succ_eq_append_getElem hl, List.foldl_append, h, e]; rfl
theorem clock_len (o : Option (Nat × Nat × Nat)) : (clockL o).length = if o.isSome then 3 else 0 := by cases o <;> rfl
end Dt
theorem tok_cell {w : World} {B g cap : Nat} {ps : List (List UInt8)} {n : Nat} (h : w.ownsRow B 9 1 (.slice (some ⟨g, 0, none⟩) n cap) n (ps.map strV)) {k : Nat} {p : List UInt8} (hp : ps[k]? = some p) (hk : k < n) : w.cell? ⟨g, k, none⟩ = some (strV p) := by
  rw [h.cellAt k (by omega), List.getElem?_map, hp]; rfl
/-- A slice of the call's own that is not empty lies in a block. -/
theorem own_block {w : World} {B n s : Nat} {t : TypeId} {v : Value} {xs : List Value} (h : w.ownsRow B t s v n xs) (hn : 0 < n) : ∃ g cap, v = .slice (some ⟨g, 0, none⟩) n cap ∧ B ≤ g ∧ g < w.heap.size := by
  rcases h.2 with ⟨_, h0⟩ | ⟨g, cap, cur, rfl, hb, hg, _⟩
  · omega
  · exact ⟨g, cap, rfl, hb, (Array.getElem?_eq_some_iff.1 hg).1⟩
set_option maxRecDepth 100000 in
set_option maxHeartbeats 8000000 in
theorem refCookie_calls (s : ByteArray) (w : World) (hs : s.size ≤ 1024) : Calls Tryz.prog 19 #[.string s] w (MomPost (Dt.cookie s.data.toList) w) := by
  have HPost : Hid (∀ n b w', Dt.cookie s.data.toList = (n, b) → Below w.heap.size w w' → MomPost (Dt.cookie s.data.toList) w (.returned (.tuple #[.int .i64 n, .bool b])) w') := Lib.hid (fun n b w' h k => mom_post h k)
  generalize hpost : MomPost (Dt.cookie s.data.toList) w = post at *
  clear hpost
  have hsl := Oct.length_bytes s
  have HCk : Hid (Dt.cookie s.data.toList = Dt.moment ((Dt.toks s.data.toList).foldl Dt.tell Dt.untold)) := Lib.hid rfl
  generalize Dt.cookie s.data.toList = res at *
  obtain ⟨i0, hi, hz0, hz1, hz2⟩ := info_parts infoText
  go_enter Tryz.func19, Tryz.ntmps19
  go_wp2
  have O0 : (w.alloc (.cells #[.string ⟨#[]⟩] 9)).ownsRow w.heap.size 9 1 (.slice (some ⟨w.heap.size, 0, none⟩) 1 1) 1 (((Dt.toks []).map strV)) := World.ownsRow_lit w #[.string ⟨#[]⟩] 1 (Nat.le_refl _) (by simp only [maxLen]; omega) rfl
  have B0 := (Below.refl w.heap.size w).alloc (Nat.le_refl _) (.cells #[.string ⟨#[]⟩] 9)
  go_loopw [4, 5] (fun v i wr => ∃ (k n : Nat), k ≤ s.size ∧ i = .int .i64 k ∧ (Dt.toks (s.data.toList.take k)).length = n ∧ wr.ownsRow w.heap.size 9 1 v n ((Dt.toks (s.data.toList.take k)).map strV) ∧ Below w.heap.size w wr) (fun _ i _ => s.size - (intOf i).toNat)
  case atStart => exact ⟨0, 1, Nat.zero_le _, rfl, by rw [List.take_zero]; rfl, by rw [List.take_zero]; exact O0, B0⟩
  case round =>
    clear O0 B0
    obtain ⟨k, n, hk, rfl, hn, hown, hb⟩ := hrel
    have hnc := Dt.toks_count (s.data.toList.take k)
    rw [List.length_take, hsl, hn] at hnc
    have hn500 : n ≤ 1025 := by omega
    by_cases hlt : k < s.size
    · have HC := Lib.hid (fun W => refParts_calls s[k] W)
      have htk := Oct.take_snoc s k hlt
      cases hsb : Dt.sepB s[k] with
      | true =>
        rw [hsb] at HC
        have htoks := Dt.toks_snoc_sep (s.data.toList.take k) hsb
        rw [← htk] at htoks
        have HTK := Lib.hid htoks
        have HNN : Hid ((Dt.toks (s.data.toList.take (k + 1))).length = n + 1) := Lib.hid (by rw [htoks, List.length_append, hn]; rfl)
        clear hsb htk htoks
        go_wp2_with (first
          | (go_at_call 33; refine (HC.out _).mono ?_; rintro e w' ⟨rfl, rfl⟩)
          | (at_builtin; refine wpList_append_own _ rfl _ _ 39 rfl w.heap.size 9 i0 (.string ⟨#[]⟩) 1 16 Tryz.underlying39 hi hz0 hz1 hz2 rfl (by decide) _ _ _ rfl (hown.alloc _) ⟨wr.heap.size, 0, none⟩ 1 1 [.string ⟨#[]⟩] rfl rfl (cell_one_new _ _ _) ?c1a ?c1b ?c1c ?c1d ?_))
        case c1a => intro u hu; simp at hu; subst hu; rfl
        case c1b => simp only [maxLen]; omega
        case c1c => omega
        case c1d => have := hb.size; simp; omega
        intro v' w5 hown' hgrow _
        have R : w5.ownsRow w.heap.size 9 1 v' (n + 1) ((Dt.toks (s.data.toList.take (k + 1))).map strV) := by rw [HTK.out, List.map_append]; exact hown'
        have B := hb.trans (((Below.refl _ wr).alloc hb.size (.cells #[.string ⟨#[]⟩] 9)).grown hgrow (by have := hb.size; simp; omega) (fun g hg => (hown.lt g hg).1))
        clear hown' hgrow hown
        go_wp2
        go_roundw
        case rel => exact ⟨k + 1, n + 1, by omega, by go_num, HNN.out, R, B⟩
        case measure => simp [intOf]; omega
      | false =>
        rw [hsb] at HC
        obtain ⟨ps, p, e1, e2⟩ := Dt.toks_snoc (s.data.toList.take k) hsb
        rw [← htk] at e2
        have hps : ps.length + 1 = n := by rw [← hn, e1, List.length_append]; rfl
        obtain ⟨g, cap, rfl, hg1, hg2⟩ := own_block hown (by omega)
        have hpl := Dt.toks_small (s.data.toList.take k) p (by rw [e1]; simp)
        rw [List.length_take, hsl] at hpl
        rw [e1] at hown
        have hcell := tok_cell hown (k := n - 1) (p := p) (by rw [List.getElem?_append_right (by omega)]; have : n - 1 - ps.length = 0 := by omega
                                                              rw [this]; rfl) (by omega)
        have hfr := hown.frozenAt (n - 1)
        obtain ⟨pb, hpb⟩ : ∃ pb : ByteArray, (⟨p.toArray⟩ : ByteArray) = pb := ⟨_, rfl⟩
        have hpbs : pb.size = p.length := by rw [← hpb]; exact (show (List.toArray p).size = _ by simp)
        obtain ⟨cb, hcb⟩ : ∃ cb : ByteArray, s.extract k (k + 1) = cb := ⟨_, rfl⟩
        have hcbs : cb.size = 1 := by rw [← hcb, ByteArray.size_extract]; omega
        have hcat : Value.string (pb ++ cb) = strV (p ++ [s[k]]) := by
          unfold strV
          congr 1
          rw [← hpb, ← hcb, Lib.extract_eq]
          have : (s.data.toList.drop k).take (k + 1 - k) = [s[k]] := by
            rw [show k + 1 - k = 1 by omega, List.drop_eq_getElem_cons (by rw [hsl]; exact hlt), Oct.getElem_bytes s k hlt]; rfl
          rw [this]
          apply ByteArray.ext
          simp [ByteArray.data_append]
        unfold strV at hcell
        rw [hpb] at hcell
        have hst := hown.stored (n - 1) (.string (pb ++ cb))
        have hset : ((ps ++ [p]).map strV).set (n - 1) (.string (pb ++ cb)) = (Dt.toks (s.data.toList.take (k + 1))).map strV := by
          rw [hcat, e2, List.map_append, List.map_append, List.set_append_right _ _ (by rw [List.length_map]; omega)]
          have : n - 1 - (ps.map strV).length = 0 := by rw [List.length_map]; omega
          rw [this]; rfl
        rw [hset] at hst
        have HST := Lib.hid hst.1
        have HNN : Hid ((Dt.toks (s.data.toList.take (k + 1))).length = n) := Lib.hid (by rw [e2, List.length_append]; simp; omega)
        have B := hb.setCell (p := ⟨g, n - 1, none⟩) hg1 (.string (pb ++ cb))
        have hn1 : (1 : Int) ≤ (n : Int) := by omega
        have hn2 : ((n : Int) - 1).toNat = n - 1 := by omega
        have hp0 : ¬ 9223372036854775807 < pb.size + cb.size := by omega
        have hw1 : IntKind.i64.wrap ((n : Int) - 1) = (n : Int) - 1 := by rw [IntKind.wrap_i64]; omega
        have hw2 : IntKind.i64.wrap ((k : Int) + 1) = (k : Int) + 1 := by rw [IntKind.wrap_i64]; omega
        have hw3 : (0 : Int) ≤ (n : Int) - 1 := by omega
        have hw4 : (n : Int) - 1 < (n : Int) := by omega
        have hw5 : (k : Int) + 1 ≤ (s.size : Int) := by omega
        have hw6 : (k : Int) ≤ (k : Int) + 1 := by omega
        have hw7 : ((k : Int) + 1).toNat = k + 1 := by omega
        have hw8 : (0 : Int) ≤ (k : Int) + 1 := by omega
        clear hsb htk e1 e2 hst hset hcat hown hpl hn hpbs hcbs
        go_wp2_with (go_at_call 33; refine (HC.out _).mono ?_; rintro e w' ⟨rfl, rfl⟩)
        go_still_tail 13, (by kernel_rfl)
        change wpList _ _ _ _ _ wr.drew
        go_wp2
        go_roundw
        case rel => exact ⟨k + 1, n, by omega, by go_num, HNN.out, HST.out, B.drew⟩
        case measure => simp [intOf]; omega
    · have hkk : k = s.size := by omega
      subst hkk
      rw [Oct.take_all s s.size (Nat.le_refl _)] at hn hown
      have hne := Dt.toks_ne s.data.toList
      have hsm := Dt.toks_small s.data.toList
      rw [hsl] at hsm
      obtain ⟨tks, htks⟩ : ∃ t, Dt.toks s.data.toList = t := ⟨_, rfl⟩
      rw [htks] at hn hown hne hsm HCk
      have hn0 : 0 < n := by
        rw [← hn]
        exact List.length_pos_iff.2 hne
      obtain ⟨g, cap, rfl, hg1, hg2⟩ := own_block hown hn0
      have HSM := Lib.hid hsm
      have HNL := Lib.hid hn
      clear htks hne hsm hn hnc
      go_wp2
      have OT : (wr.alloc (.cells #[] 3)).ownsRow wr.heap.size 3 1 (.slice (some ⟨wr.heap.size, 0, none⟩) 0 0) 0 [] := World.ownsRow_made wr #[] 0 (Nat.le_refl _) (Nat.zero_le _) rfl
      have OK := hown.alloc (.cells #[] 3)
      have BK := hb.alloc hb.size (.cells #[] 3)
      clear hown hb
      go_loopw [6, 7, 8, 9, 47] (fun tv y m d i wx => ∃ (k : Nat) (T : Dt.Told) (B6 : Nat), k ≤ n ∧ i = .int .i64 k ∧ (tks.take k).foldl Dt.tell Dt.untold = T ∧ y = .int .i64 (Dt.optI T.year) ∧ m = .int .i64 (Dt.optI T.month) ∧ d = .int .i64 (Dt.optI T.day) ∧
        wx.ownsRow B6 3 1 tv (clockL T.time).length ((clockL T.time).map intV) ∧ wx.ownsRow w.heap.size 9 1 (.slice (some ⟨g, 0, none⟩) n cap) n (tks.map strV) ∧ Below w.heap.size w wx) (fun _ _ _ _ i _ => n - (intOf i).toNat)
      case atStart => exact ⟨0, Dt.untold, _, Nat.zero_le _, rfl, rfl, rfl, rfl, rfl, OT, OK, BK⟩
      case round =>
        clear OT OK BK
        obtain ⟨k, T, B6, hk, rfl, hT, rfl, rfl, rfl, hownT, hownK, hb⟩ := hrel
        by_cases hlt : k < n
        · obtain ⟨p, hp⟩ : ∃ p, tks[k]? = some p := ⟨_, List.getElem?_eq_getElem (by rw [HNL.out]; exact hlt)⟩
          have hpm := HSM.out p (List.mem_of_getElem? hp)
          have HT' := Lib.hid (Dt.fold_more hT hp)
          have hcell := tok_cell hownK hp hlt
          obtain ⟨x, hx⟩ : ∃ x : ByteArray, (⟨p.toArray⟩ : ByteArray) = x := ⟨_, rfl⟩
          have hxd : x.data.toList = p := by rw [← hx]
          have hxs : x.size ≤ 1024 := by rw [← Oct.length_bytes, hxd]; omega
          unfold strV at hcell
          rw [hx] at hcell
          rw [← hxd] at HT'
          have HD := Lib.hid (fun W => refDigitsAhead_calls x W (by unfold maxLen; omega))
          have HTi := Lib.hid (fun W => refTime_calls x W (by unfold maxLen; omega))
          have HMo := Lib.hid (fun W => refMonth_calls x W (by omega))
          have HVa := Lib.hid (fun h2 W => refHead_calls x h2 W)
          unfold TimePost at HTi
          unfold IntPost at HMo
          have hll := Dt.lead_le x.data.toList
          rw [Oct.length_bytes] at hll
          clear hx hp hxd hT
          -- what each of the ways tells
          obtain ⟨o1, ho1⟩ : ∃ o, Dt.time3 x.data.toList = o := ⟨_, rfl⟩
          obtain ⟨m3, hm3⟩ : ∃ o, Dt.month x.data.toList = o := ⟨_, rfl⟩
          obtain ⟨n2, hn2⟩ : ∃ o, Oct.numOf (x.data.toList.take (Dt.lead x.data.toList)) = o := ⟨_, rfl⟩
          obtain ⟨L, hL⟩ : ∃ o, Dt.lead x.data.toList = o := ⟨_, rfl⟩
          have HX := Lib.hid (And.intro ho1 (And.intro hm3 (And.intro hn2 hL)))
          rw [ho1] at HTi
          rw [hm3] at HMo
          rw [hn2, hL] at HVa
          rw [hL] at HD hll
          have W1 : Hid (o1.isSome = true → T.time = none → ∀ t, o1 = some t → Dt.tell T x.data.toList = { T with time := some t }) := Lib.hid (fun _ hT t ht => Dt.tell_time hT (by rw [ho1, ht]))
          have N1 : Hid (¬ (o1.isSome = true ∧ T.time = none) → ¬ (T.time = none ∧ Dt.time3 x.data.toList ≠ none)) := Lib.hid (fun h k => h ⟨by rw [Option.isSome_iff_ne_none, ← ho1]; exact k.2, k.1⟩)
          have W2 : Hid (¬ (T.time = none ∧ Dt.time3 x.data.toList ≠ none) → (T.day = none ∧ 1 ≤ L ∧ L ≤ 2) → Dt.tell T x.data.toList = { T with day := some n2 }) := Lib.hid (fun h0 h => by rw [← hn2]; exact Dt.tellR_day h0 (by rw [hL]; exact h))
          have W3 : Hid (¬ (T.time = none ∧ Dt.time3 x.data.toList ≠ none) → ¬ (T.day = none ∧ 1 ≤ L ∧ L ≤ 2) → (T.month = none ∧ 0 < m3) → Dt.tell T x.data.toList = { T with month := some m3 }) := Lib.hid (fun h0 h1 h => by rw [← hm3]; exact Dt.tellR_month h0 (by rw [hL]; exact h1) (by rw [hm3]; exact h))
          have W4 : Hid (¬ (T.time = none ∧ Dt.time3 x.data.toList ≠ none) → ¬ (T.day = none ∧ 1 ≤ L ∧ L ≤ 2) → ¬ (T.month = none ∧ 0 < m3) → (T.year = none ∧ 2 ≤ L ∧ L ≤ 4) → Dt.tell T x.data.toList = { T with year := some n2 }) := Lib.hid (fun h0 h1 h2 h => by rw [← hn2]; exact Dt.tellR_year h0 (by rw [hL]; exact h1) (by rw [hm3]; exact h2) (by rw [hL]; exact h))
          have W5 : Hid (¬ (T.time = none ∧ Dt.time3 x.data.toList ≠ none) → ¬ (T.day = none ∧ 1 ≤ L ∧ L ≤ 2) → ¬ (T.month = none ∧ 0 < m3) → ¬ (T.year = none ∧ 2 ≤ L ∧ L ≤ 4) → Dt.tell T x.data.toList = T) := Lib.hid (fun h0 h1 h2 h => Dt.tellR_not h0 (by rw [hL]; exact h1) (by rw [hm3]; exact h2) (by rw [hL]; exact h))
          clear ho1 hm3 hn2 hL
          obtain ⟨A6, c6, rfl, _⟩ := own_any hownT
          have hlen := Dt.clock_len T.time
          obtain ⟨l6, hl6⟩ : ∃ l, (clockL T.time).length = l := ⟨_, rfl⟩
          rw [hl6] at hownT hlen ⊢
          obtain ⟨bt, hbt⟩ : ∃ b, T.time.isSome = b := ⟨_, rfl⟩
          rw [hbt] at hlen
          have HBT := Lib.hid hbt
          have HL6 := Lib.hid hl6
          have hl63 : l6 ≤ 3 := by rw [hlen]; split <;> omega
          have HLen := Lib.hid hlen
          obtain ⟨b1, hb1⟩ : ∃ b, o1.isSome = b := ⟨_, rfl⟩
          rw [hb1] at HTi
          have HB1 := Lib.hid hb1
          clear hbt hl6 hlen hb1
          obtain ⟨iy, hiy⟩ : ∃ i, Dt.optI T.year = i := ⟨_, rfl⟩
          obtain ⟨im, him⟩ : ∃ i, Dt.optI T.month = i := ⟨_, rfl⟩
          obtain ⟨id', hid'⟩ : ∃ i, Dt.optI T.day = i := ⟨_, rfl⟩
          rw [hiy, him, hid']
          have HI := Lib.hid (And.intro hiy (And.intro him hid'))
          have s1 : (T.day = none ∧ id' = -1) ∨ (T.day ≠ none ∧ 0 ≤ id') := by
            cases h : T.day with
            | none => left; rw [← hid', h]; exact ⟨rfl, rfl⟩
            | some z => right; rw [← hid', h]; exact ⟨by simp, by show (0 : Int) ≤ (z : Int); omega⟩
          have s2 : (T.month = none ∧ im = -1) ∨ (T.month ≠ none ∧ 0 ≤ im) := by
            cases h : T.month with
            | none => left; rw [← him, h]; exact ⟨rfl, rfl⟩
            | some z => right; rw [← him, h]; exact ⟨by simp, by show (0 : Int) ≤ (z : Int); omega⟩
          have s3 : (T.year = none ∧ iy = -1) ∨ (T.year ≠ none ∧ 0 ≤ iy) := by
            cases h : T.year with
            | none => left; rw [← hiy, h]; exact ⟨rfl, rfl⟩
            | some z => right; rw [← hiy, h]; exact ⟨by simp, by show (0 : Int) ≤ (z : Int); omega⟩
          have S1 := Lib.hid s1
          have S2 := Lib.hid s2
          have S3 := Lib.hid s3
          clear hiy him hid' s1 s2 s3
          go_upto_region 15 with (first
            | (go_at_call 34; refine (HD.out _).mono ?_; rintro e w3 ⟨rfl, rfl⟩)
            | (go_at_call 35; refine (HTi.out _).mono ?_; rintro e w3 ⟨v3, rfl, O3, d3⟩))
          have OT3 := own_keep hownT d3
          have OK3 := own_keep hownK d3
          have B3 := hb.trans (d3.mono hb.size)
          clear hownT hownK hb d3 hcell HD HTi
          go_cut [63] (fun sx wx => sx = .bool (b1 && !bt) ∧ w3 = wx)
          case first =>
            cases b1 with
            | false =>
              go_wp2
              go_meet
              exact ⟨rfl, rfl⟩
            | true =>
              have hx := HLen.out
              cases bt with
              | false =>
                have h0 : ((l6 : Int) == 0) = true := by rw [hx]; rfl
                clear hx
                go_wp2
                go_meet
                exact ⟨rfl, rfl⟩
              | true =>
                have h0 : ((l6 : Int) == 0) = false := by rw [hx]; rfl
                clear hx
                go_wp2
                go_meet
                exact ⟨rfl, rfl⟩
          case rest =>
          obtain ⟨rfl, rfl⟩ := hcut
          cases hB : (b1 && !bt) with
          | true =>
            rw [Bool.and_eq_true, Bool.not_eq_true'] at hB
            have hTn : T.time = none := by
              have := HBT.out
              rw [hB.2, Option.isSome_eq_false_iff, Option.isNone_iff_eq_none] at this
              exact this
            have ho := HB1.out
            rw [hB.1] at ho
            obtain ⟨t, rfl⟩ := Option.isSome_iff_exists.1 ho
            have HR := Lib.hid (W1.out ho hTn t rfl)
            clear hB ho hTn
            go_wp2
            go_roundw
            case rel => exact ⟨k + 1, _, _, by omega, by go_num, HT'.out.trans HR.out, val_int HI.out.1.symm, val_int HI.out.2.1.symm, val_int HI.out.2.2.symm, O3, OK3, B3⟩
            case measure => simp [intOf]; omega
          | false =>
          have M1 := Lib.hid (N1.out (fun h => by rw [HB1.out] at h; rw [h.1] at hB; have := HBT.out; rw [h.2] at this; rw [← this] at hB; cases hB))
          clear hB N1 W1 O3
          go_upto_region 17 with fail
          go_cut [74] (fun sx wx => sx = .bool (decide (T.day = none ∧ 1 ≤ L ∧ L ≤ 2)) ∧ w3 = wx)
          case first =>
            rcases S1.out with ⟨h1, rfl⟩ | ⟨h1, h2⟩
            · by_cases k1 : 1 ≤ L
              · have k1i : (1 : Int) ≤ (L : Int) := by omega
                by_cases k2 : L ≤ 2
                · have k2i : (L : Int) ≤ 2 := by omega
                  have hd := decide_eq_true (show T.day = none ∧ 1 ≤ L ∧ L ≤ 2 from ⟨h1, k1, k2⟩)
                  have HDD := Lib.hid hd
                  clear hd k1 k2 h1
                  go_wp2
                  go_meet
                  exact ⟨by rw [HDD.out], rfl⟩
                · have k2i : ¬ (L : Int) ≤ 2 := by omega
                  have hd := decide_eq_false (show ¬ (T.day = none ∧ 1 ≤ L ∧ L ≤ 2) from fun h => k2 h.2.2)
                  have HDD := Lib.hid hd
                  clear hd k1 k2 h1
                  go_wp2
                  go_meet
                  exact ⟨by rw [HDD.out], rfl⟩
              · have k1i : ¬ (1 : Int) ≤ (L : Int) := by omega
                have hd := decide_eq_false (show ¬ (T.day = none ∧ 1 ≤ L ∧ L ≤ 2) from fun h => k1 h.2.1)
                have HDD := Lib.hid hd
                clear hd k1 h1
                go_wp2
                go_meet
                exact ⟨by rw [HDD.out], rfl⟩
            · have h2i : ¬ id' < 0 := by omega
              have hd := decide_eq_false (show ¬ (T.day = none ∧ 1 ≤ L ∧ L ≤ 2) from fun h => h1 h.1)
              have HDD := Lib.hid hd
              clear hd h1 h2
              go_wp2
              go_meet
              exact ⟨by rw [HDD.out], rfl⟩
          case rest =>
          obtain ⟨rfl, rfl⟩ := hcut
          by_cases hB : T.day = none ∧ 1 ≤ L ∧ L ≤ 2
          · have HR := Lib.hid (W2.out M1.out hB)
            have hd := decide_eq_true hB
            obtain ⟨_, hb1, hb2⟩ := hB
            have HV := Lib.hid (HVa.out (by omega))
            have hLx : (L : Int) ≤ (x.size : Int) := by omega
            generalize decide (T.day = none ∧ 1 ≤ L ∧ L ≤ 2) = bb at *
            subst hd
            clear hb1 hb2
            go_wp2_with (go_at_call 36; refine (HV.out _).mono ?_; rintro e w4 ⟨rfl, rfl⟩)
            go_roundw
            case rel => exact ⟨k + 1, _, _, by omega, by go_num, HT'.out.trans HR.out, val_int HI.out.1.symm, val_int HI.out.2.1.symm, rfl, by rw [HL6.out]; exact OT3, OK3, B3⟩
            case measure => simp [intOf]; omega
          have M2 := Lib.hid hB
          have hd := decide_eq_false hB
          generalize decide (T.day = none ∧ 1 ≤ L ∧ L ≤ 2) = bb at *
          subst hd
          clear hB W2
          go_upto_region 19 with fail
          go_cut [85] (fun sx wx => sx = .bool (decide (T.month = none ∧ 0 < m3)) ∧ Below w3.heap.size w3 wx)
          case first =>
            rcases S2.out with ⟨h1, rfl⟩ | ⟨h1, h2⟩
            · by_cases k1 : 0 < m3
              · have k1i : (0 : Int) < (m3 : Int) := by omega
                have hd := decide_eq_true (show T.month = none ∧ 0 < m3 from ⟨h1, k1⟩)
                have HDD := Lib.hid hd
                have HEE := Lib.hid (decide_eq_true k1)
                clear hd k1 h1
                go_wp2_with (go_at_call 37; refine (HMo.out _).mono ?_; rintro e w4 ⟨rfl, d4⟩)
                go_meet
                exact ⟨by rw [HDD.out, HEE.out], d4⟩
              · have k1i : ¬ (0 : Int) < (m3 : Int) := by omega
                have hd := decide_eq_false (show ¬ (T.month = none ∧ 0 < m3) from fun h => k1 h.2)
                have HDD := Lib.hid hd
                have HEE := Lib.hid (decide_eq_false k1)
                clear hd k1 h1
                go_wp2_with (go_at_call 37; refine (HMo.out _).mono ?_; rintro e w4 ⟨rfl, d4⟩)
                go_meet
                exact ⟨by rw [HDD.out, HEE.out], d4⟩
            · have h2i : ¬ im < 0 := by omega
              have hd := decide_eq_false (show ¬ (T.month = none ∧ 0 < m3) from fun h => h1 h.1)
              have HDD := Lib.hid hd
              clear hd h1 h2
              go_wp2
              go_meet
              exact ⟨by rw [HDD.out], Below.refl _ _⟩
          case rest =>
          obtain ⟨rfl, d4⟩ := hcut
          have OT4 := own_keep OT3 d4
          have OK4 := own_keep OK3 d4
          have B4 := B3.trans (d4.mono B3.size)
          clear OT3 OK3 B3 d4
          by_cases hB : T.month = none ∧ 0 < m3
          · have HR := Lib.hid (W3.out M1.out M2.out hB)
            have hd := decide_eq_true hB
            generalize decide (T.month = none ∧ 0 < m3) = bb at *
            subst hd
            clear hB
            go_wp2_with fail
            refine (HMo.out _).mono ?_
            rintro e w5 ⟨rfl, d5⟩
            have OT5 := own_keep OT4 d5
            have OK5 := own_keep OK4 d5
            have B5 := B4.trans (d5.mono B4.size)
            clear OT4 OK4 B4 d5
            go_wp2
            go_roundw
            case rel => exact ⟨k + 1, _, _, by omega, by go_num, HT'.out.trans HR.out, val_int HI.out.1.symm, rfl, val_int HI.out.2.2.symm, by rw [HL6.out]; exact OT5, OK5, B5⟩
            case measure => simp [intOf]; omega
          have M3 := Lib.hid hB
          have hd := decide_eq_false hB
          generalize decide (T.month = none ∧ 0 < m3) = bb at *
          subst hd
          clear hB W3
          go_upto_region 21 with fail
          go_cut [97] (fun sx wx => sx = .bool (decide (T.year = none ∧ 2 ≤ L ∧ L ≤ 4)) ∧ wc = wx)
          case first =>
            rcases S3.out with ⟨h1, rfl⟩ | ⟨h1, h2⟩
            · by_cases k1 : 2 ≤ L
              · have k1i : (2 : Int) ≤ (L : Int) := by omega
                by_cases k2 : L ≤ 4
                · have k2i : (L : Int) ≤ 4 := by omega
                  have hd := decide_eq_true (show T.year = none ∧ 2 ≤ L ∧ L ≤ 4 from ⟨h1, k1, k2⟩)
                  have HDD := Lib.hid hd
                  clear hd k1 k2 h1
                  go_wp2
                  go_meet
                  exact ⟨by rw [HDD.out], rfl⟩
                · have k2i : ¬ (L : Int) ≤ 4 := by omega
                  have hd := decide_eq_false (show ¬ (T.year = none ∧ 2 ≤ L ∧ L ≤ 4) from fun h => k2 h.2.2)
                  have HDD := Lib.hid hd
                  clear hd k1 k2 h1
                  go_wp2
                  go_meet
                  exact ⟨by rw [HDD.out], rfl⟩
              · have k1i : ¬ (2 : Int) ≤ (L : Int) := by omega
                have hd := decide_eq_false (show ¬ (T.year = none ∧ 2 ≤ L ∧ L ≤ 4) from fun h => k1 h.2.1)
                have HDD := Lib.hid hd
                clear hd k1 h1
                go_wp2
                go_meet
                exact ⟨by rw [HDD.out], rfl⟩
            · have h2i : ¬ iy < 0 := by omega
              have hd := decide_eq_false (show ¬ (T.year = none ∧ 2 ≤ L ∧ L ≤ 4) from fun h => h1 h.1)
              have HDD := Lib.hid hd
              clear hd h1 h2
              go_wp2
              go_meet
              exact ⟨by rw [HDD.out], rfl⟩
          case rest =>
          obtain ⟨rfl, rfl⟩ := hcut
          by_cases hB : T.year = none ∧ 2 ≤ L ∧ L ≤ 4
          · have HR := Lib.hid (W4.out M1.out M2.out M3.out hB)
            have hd := decide_eq_true hB
            obtain ⟨_, hb1, hb2⟩ := hB
            have HV := Lib.hid (HVa.out (by omega))
            have hLx : (L : Int) ≤ (x.size : Int) := by omega
            generalize decide (T.year = none ∧ 2 ≤ L ∧ L ≤ 4) = bb at *
            subst hd
            clear hb1 hb2
            go_wp2_with (go_at_call 36; refine (HV.out _).mono ?_; rintro e w4 ⟨rfl, rfl⟩)
            go_roundw
            case rel => exact ⟨k + 1, _, _, by omega, by go_num, HT'.out.trans HR.out, rfl, val_int HI.out.2.1.symm, val_int HI.out.2.2.symm, by rw [HL6.out]; exact OT4, OK4, B4⟩
            case measure => simp [intOf]; omega
          have HR := Lib.hid (W5.out M1.out M2.out M3.out hB)
          have hd := decide_eq_false hB
          generalize decide (T.year = none ∧ 2 ≤ L ∧ L ≤ 4) = bb at *
          subst hd
          clear hB W4 W5
          go_wp2
          go_roundw
          case rel => exact ⟨k + 1, _, _, by omega, by go_num, HT'.out.trans HR.out, val_int HI.out.1.symm, val_int HI.out.2.1.symm, val_int HI.out.2.2.symm, by rw [HL6.out]; exact OT4, OK4, B4⟩
          case measure => simp [intOf]; omega
        · have hkn : k = n := by omega
          subst hkn
          rw [List.take_of_length_le (by rw [HNL.out]; exact Nat.le_refl _)] at hT
          have hm := HCk.out
          rw [hT, Dt.moment_ref] at hm
          have HM := Lib.hid hm
          clear hT hm HCk HSM hownK
          obtain ⟨iy, hiy⟩ : ∃ i, Dt.optI T.year = i := ⟨_, rfl⟩
          obtain ⟨Y, hY⟩ : ∃ i, Dt.yearI T.year = i := ⟨_, rfl⟩
          have s3 : (iy = -1 ∧ Y = -1) ∨ (0 ≤ iy ∧ Y = if 70 ≤ iy ∧ iy ≤ 99 then iy + 1900 else if iy ≤ 69 then iy + 2000 else iy) := by
            cases h : T.year with
            | none => left; rw [← hiy, ← hY, h]; exact ⟨rfl, rfl⟩
            | some z =>
              right
              rw [← hiy, ← hY, h]
              refine ⟨by show (0 : Int) ≤ (z : Int); omega, ?_⟩
              exact Dt.year2_int z
          rw [hiy]
          rw [hY] at HM
          have S3 := Lib.hid s3
          clear hiy hY s3
          obtain ⟨A6, c6, rfl, _⟩ := own_any hownT
          go_upto_region 24 with fail
          go_cut [108] (fun sx wx => sx = .bool (decide (70 ≤ iy ∧ iy ≤ 99)) ∧ wr = wx)
          case first =>
            by_cases k1 : (70 : Int) ≤ iy
            · by_cases k2 : iy ≤ (99 : Int)
              · have HDD := Lib.hid (decide_eq_true (And.intro k1 k2))
                go_wp2
                go_meet
                exact ⟨by rw [HDD.out], rfl⟩
              · have HDD := Lib.hid (decide_eq_false (show ¬ (70 ≤ iy ∧ iy ≤ 99) from fun h => k2 h.2))
                go_wp2
                go_meet
                exact ⟨by rw [HDD.out], rfl⟩
            · have HDD := Lib.hid (decide_eq_false (show ¬ (70 ≤ iy ∧ iy ≤ 99) from fun h => k1 h.1))
              go_wp2
              go_meet
              exact ⟨by rw [HDD.out], rfl⟩
          case rest =>
          obtain ⟨rfl, rfl⟩ := hcut
          obtain ⟨by1, hby1⟩ : ∃ b, decide (70 ≤ iy ∧ iy ≤ 99) = b := ⟨_, rfl⟩
          rw [hby1]
          have HY1 := Lib.hid hby1
          clear hby1
          go_upto_if 108 with fail
          go_cut [7] (fun sx wx => sx = .int .i64 Y ∧ wr = wx)
          case first =>
            cases by1 with
            | true =>
              have hr := of_decide_eq_true HY1.out
              have hz : Y = iy + 1900 := by
                rcases S3.out with ⟨h1, _⟩ | ⟨_, h2⟩
                · omega
                · rw [h2, if_pos hr]
              have hw := hr.2
              have hw' := hr.1
              clear hr
              go_wp2
              go_meet
              exact ⟨val_int hz.symm, rfl⟩
            | false =>
              have hr := of_decide_eq_false HY1.out
              by_cases k1 : (0 : Int) ≤ iy
              · by_cases k2 : iy ≤ (69 : Int)
                · have hz : Y = iy + 2000 := by
                    rcases S3.out with ⟨h1, _⟩ | ⟨_, h2⟩
                    · omega
                    · rw [h2, if_neg hr, if_pos k2]
                  clear hr
                  go_wp2
                  go_meet
                  exact ⟨val_int hz.symm, rfl⟩
                · have hz : Y = iy := by
                    rcases S3.out with ⟨h1, _⟩ | ⟨_, h2⟩
                    · omega
                    · rw [h2, if_neg hr, if_neg k2]
                  have HZ := Lib.hid hz
                  clear hr hz
                  go_wp2
                  go_meet
                  exact ⟨val_int HZ.out.symm, rfl⟩
              · have hz : Y = iy := by
                  rcases S3.out with ⟨h1, h2⟩ | ⟨h1, h2⟩
                  · omega
                  · omega
                have HZ := Lib.hid hz
                clear hr hz
                go_wp2
                go_meet
                exact ⟨val_int HZ.out.symm, rfl⟩
          case rest =>
          obtain ⟨rfl, rfl⟩ := hcut
          clear S3 HY1
          have HI := Lib.hid (fun W => refIs_calls Y (Dt.optI T.month) (Dt.optI T.day) W)
          have HDy := Lib.hid (fun W => refDays_calls Y (Dt.optI T.month) (Dt.optI T.day) W)
          unfold DaysPost at HDy
          have HDb := Lib.hid (fun h => Dt.days_bounds (y := Y) (m := Dt.optI T.month) (d := Dt.optI T.day) h)
          have HD1 := Lib.hid (fun h => Dt.daysO_yes (y := Y) (m := Dt.optI T.month) (d := Dt.optI T.day) h)
          generalize Dt.optI T.month = im at *
          generalize Dt.optI T.day = id' at *
          generalize T.time = tt at *
          cases tt with
          | none =>
            have HR := Lib.hid (HPost.out 0 false wr HM.out hb)
            have h0 : (((clockL none).length : Int) == 0) = true := by rfl
            have h1 : (clockL none).length = 0 := rfl
            rw [h1]
            clear hownT
            go_wp2
            exact HR.out
          | some t =>
          obtain ⟨h, mi, sc⟩ := t
          have hm := HM.out
          dsimp only at hm
          have HM2 := Lib.hid hm
          clear hm HM
          have h3 : (clockL (some (h, mi, sc))).length = 3 := rfl
          rw [h3] at hownT ⊢
          obtain ⟨g6, c7, he, hg61, hg62⟩ := own_block hownT (by omega)
          obtain ⟨rfl, rfl⟩ : A6 = some ⟨g6, 0, none⟩ ∧ c6 = c7 := by
            injection he with e1 _ e3
            exact ⟨e1, e3⟩
          have t0 : wr.cell? ⟨g6, 0, none⟩ = some (.int .i64 (h : Int)) := hownT.cellAt 0 (by omega)
          have t1 : wr.cell? ⟨g6, 1, none⟩ = some (.int .i64 (mi : Int)) := hownT.cellAt 1 (by omega)
          have t2 : wr.cell? ⟨g6, 2, none⟩ = some (.int .i64 (sc : Int)) := hownT.cellAt 2 (by omega)
          clear hownT he h3
          have n0 : ((3 : Int) == 0) = false := by rfl
          by_cases hIs : Dt.Is Y im id'
          · have hI := HI.out
            rw [decide_eq_true hIs] at hI
            have HI2 := Lib.hid hI
            have hdy := HDy.out
            rw [HD1.out hIs] at hdy
            have HDy2 := Lib.hid hdy
            have hdb := HDb.out hIs
            have HIs := Lib.hid hIs
            generalize Dt.days Y im id' = N at *
            clear hI HI hdy HDy HD1 HDb hIs
            by_cases k1 : (23 : Int) < (h : Int)
            · have HR := Lib.hid (HPost.out 0 false wr (HM2.out.trans (if_neg (fun c => by have := c.2.1; omega))) hb)
              go_wp2_with (go_at_call 38; refine (HI2.out _).mono ?_; rintro e w' ⟨rfl, rfl⟩)
              exact HR.out
            by_cases k2 : (59 : Int) < (mi : Int)
            · have HR := Lib.hid (HPost.out 0 false wr (HM2.out.trans (if_neg (fun c => by have := c.2.2.1; omega))) hb)
              go_wp2_with (go_at_call 38; refine (HI2.out _).mono ?_; rintro e w' ⟨rfl, rfl⟩)
              exact HR.out
            by_cases k3 : (59 : Int) < (sc : Int)
            · have HR := Lib.hid (HPost.out 0 false wr (HM2.out.trans (if_neg (fun c => by have := c.2.2.2; omega))) hb)
              go_wp2_with (go_at_call 38; refine (HI2.out _).mono ?_; rintro e w' ⟨rfl, rfl⟩)
              exact HR.out
            have HR := Lib.hid (fun W hW => HPost.out _ _ W (HM2.out.trans (if_pos ⟨HIs.out, by omega, by omega, by omega⟩)) hW)
            go_wp2_with (first
              | (go_at_call 38; refine (HI2.out _).mono ?_; rintro e w' ⟨rfl, rfl⟩)
              | (go_at_call 39; refine (HDy2.out _).mono ?_; rintro e w' ⟨rfl, rfl⟩))
            have F4 : Hid (∀ W, Below wr.heap.size wr W → W.cell? ⟨g6, 0, none⟩ = some (.int .i64 (h : Int))) := Lib.hid (fun W hC => (hC.cell (block_lt_of_cell t0)).trans t0)
            have F5 : Hid (∀ W, Below wr.heap.size wr W → W.cell? ⟨g6, 1, none⟩ = some (.int .i64 (mi : Int))) := Lib.hid (fun W hC => (hC.cell (block_lt_of_cell t1)).trans t1)
            have F6 : Hid (∀ W, Below wr.heap.size wr W → W.cell? ⟨g6, 2, none⟩ = some (.int .i64 (sc : Int))) := Lib.hid (fun W hC => (hC.cell (block_lt_of_cell t2)).trans t2)
            have z1 : IntKind.i64.wrap (N * 86400) = N * 86400 := by rw [IntKind.wrap_i64]; omega
            have z2 : IntKind.i64.wrap ((h : Int) * 3600) = (h : Int) * 3600 := by rw [IntKind.wrap_i64]; omega
            have z3 : IntKind.i64.wrap ((mi : Int) * 60) = (mi : Int) * 60 := by rw [IntKind.wrap_i64]; omega
            have z4 : IntKind.i64.wrap ((h : Int) * 3600 + (mi : Int) * 60) = (h : Int) * 3600 + (mi : Int) * 60 := by rw [IntKind.wrap_i64]; omega
            have z5 : IntKind.i64.wrap ((h : Int) * 3600 + (mi : Int) * 60 + (sc : Int)) = (h : Int) * 3600 + (mi : Int) * 60 + (sc : Int) := by rw [IntKind.wrap_i64]; omega
            have z6 : IntKind.i64.wrap (N * 86400 + ((h : Int) * 3600 + (mi : Int) * 60 + (sc : Int))) = N * 86400 + ((h : Int) * 3600 + (mi : Int) * 60 + (sc : Int)) := by rw [IntKind.wrap_i64]; omega
            clear t0 t1 t2 k1 k2 k3 hdb
            refine region_quiet (C := fun W => Below wr.heap.size wr W) (by kernel_rfl) (by kernel_rfl) (Below.refl _ _).drew ?_
            refine q_yields (v := ?_) (Or.inl ⟨by rfl, ?_⟩) ?_
            rotate_left
            · intro _ _; go_simp; with_reducible rfl
            simp only [Act.put, List.setIfInBounds_toArray, List.set_cons_zero, List.set_cons_succ]
            refine q_yields (v := ?_) (Or.inl ⟨by rfl, ?_⟩) ?_
            rotate_left
            · intro _ _; go_simp; with_reducible rfl
            simp only [Act.put, List.setIfInBounds_toArray, List.set_cons_zero, List.set_cons_succ]
            refine q_yields (v := ?_) (Or.inl ⟨by rfl, ?_⟩) ?_
            rotate_left
            · intro _ _; go_simp; with_reducible rfl
            simp only [Act.put, List.setIfInBounds_toArray, List.set_cons_zero, List.set_cons_succ]
            refine q_yields (v := ?_) (Or.inl ⟨by rfl, ?_⟩) ?_
            rotate_left
            · intro _ _; go_simp; with_reducible rfl
            simp only [Act.put, List.setIfInBounds_toArray, List.set_cons_zero, List.set_cons_succ]
            refine q_yields (v := .int .i64 (h : Int)) (Or.inl ⟨by rfl, fun wq hC => by have hcell := F4.out wq hC; go_simp; try with_reducible rfl⟩) ?_
            simp only [Act.put, List.setIfInBounds_toArray, List.set_cons_zero, List.set_cons_succ]
            refine q_yields (v := ?_) (Or.inl ⟨by rfl, ?_⟩) ?_
            rotate_left
            · intro _ _; go_simp; with_reducible rfl
            simp only [Act.put, List.setIfInBounds_toArray, List.set_cons_zero, List.set_cons_succ]
            refine q_yields (v := ?_) (Or.inl ⟨by rfl, ?_⟩) ?_
            rotate_left
            · intro _ _; go_simp; with_reducible rfl
            simp only [Act.put, List.setIfInBounds_toArray, List.set_cons_zero, List.set_cons_succ]
            refine q_yields (v := ?_) (Or.inl ⟨by rfl, ?_⟩) ?_
            rotate_left
            · intro _ _; go_simp; with_reducible rfl
            simp only [Act.put, List.setIfInBounds_toArray, List.set_cons_zero, List.set_cons_succ]
            refine q_yields (v := .int .i64 (mi : Int)) (Or.inl ⟨by rfl, fun wq hC => by have hcell := F5.out wq hC; go_simp; try with_reducible rfl⟩) ?_
            simp only [Act.put, List.setIfInBounds_toArray, List.set_cons_zero, List.set_cons_succ]
            refine q_yields (v := ?_) (Or.inl ⟨by rfl, ?_⟩) ?_
            rotate_left
            · intro _ _; go_simp; with_reducible rfl
            simp only [Act.put, List.setIfInBounds_toArray, List.set_cons_zero, List.set_cons_succ]
            refine q_yields (v := ?_) (Or.inl ⟨by rfl, ?_⟩) ?_
            rotate_left
            · intro _ _; go_simp; with_reducible rfl
            simp only [Act.put, List.setIfInBounds_toArray, List.set_cons_zero, List.set_cons_succ]
            refine q_yields (v := ?_) (Or.inl ⟨by rfl, ?_⟩) ?_
            rotate_left
            · intro _ _; go_simp; with_reducible rfl
            simp only [Act.put, List.setIfInBounds_toArray, List.set_cons_zero, List.set_cons_succ]
            refine q_yields (v := ?_) (Or.inl ⟨by rfl, ?_⟩) ?_
            rotate_left
            · intro _ _; go_simp; with_reducible rfl
            simp only [Act.put, List.setIfInBounds_toArray, List.set_cons_zero, List.set_cons_succ]
            refine q_yields (v := .int .i64 (sc : Int)) (Or.inl ⟨by rfl, fun wq hC => by have hcell := F6.out wq hC; go_simp; try with_reducible rfl⟩) ?_
            simp only [Act.put, List.setIfInBounds_toArray, List.set_cons_zero, List.set_cons_succ]
            refine q_yields (v := ?_) (Or.inl ⟨by rfl, ?_⟩) ?_
            rotate_left
            · intro _ _; go_simp; with_reducible rfl
            simp only [Act.put, List.setIfInBounds_toArray, List.set_cons_zero, List.set_cons_succ]
            refine q_yields (v := ?_) (Or.inl ⟨by rfl, ?_⟩) ?_
            rotate_left
            · intro _ _; go_simp; with_reducible rfl
            simp only [Act.put, List.setIfInBounds_toArray, List.set_cons_zero, List.set_cons_succ]
            refine q_yields (v := ?_) (Or.inl ⟨by rfl, ?_⟩) ?_
            rotate_left
            · intro _ _; go_simp; with_reducible rfl
            simp only [Act.put, List.setIfInBounds_toArray, List.set_cons_zero, List.set_cons_succ]
            refine q_yields (v := ?_) (Or.inl ⟨by rfl, ?_⟩) ?_
            rotate_left
            · intro _ _; go_simp; with_reducible rfl
            simp only [Act.put, List.setIfInBounds_toArray, List.set_cons_zero, List.set_cons_succ]
            refine wpQuiet_nil ?_
            intro w2 hC2
            go_wp2
            have hf := HR.out w2 (hb.trans (hC2.mono hb.size))
            have ez : ((h * 3600 + mi * 60 + sc : Nat) : Int) = (h : Int) * 3600 + (mi : Int) * 60 + (sc : Int) := by omega
            rw [ez] at hf
            exact hf
          · have hI := HI.out
            rw [decide_eq_false hIs] at hI
            have HI2 := Lib.hid hI
            have HR := Lib.hid (HPost.out 0 false wr (HM2.out.trans (if_neg (fun c => hIs c.1))) hb)
            clear hI HI hIs HD1 HDb HDy
            go_wp2_with (go_at_call 38; refine (HI2.out _).mono ?_; rintro e w' ⟨rfl, rfl⟩)
            exact HR.out
end Go.Proofs.YtpimaobejjpffaaGreatDoor
