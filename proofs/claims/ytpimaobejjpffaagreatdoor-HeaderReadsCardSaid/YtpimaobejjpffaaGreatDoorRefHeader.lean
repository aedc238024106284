/- The walk of the reference's Parse of headers. -/
import Derived.Test.YtpimaobejjpffaaGreatDoorRefHeaderParts
import Derived.Test.YtpimaobejjpffaaGreatDoorRefCookie
import Derived.Test.YtpimaobejjpffaaGreatDoorHeaderTake
import Derived.Test.YtpimaobejjpffaaGreatDoorHeaderParse
import Derived.Test.YtpimaobejjpffaaGreatDoorQuiet
import Derived.Deep.DeepCutAuto
import Derived.Deep.RegionHeld3
namespace Go.Proofs.YtpimaobejjpffaaGreatDoor
open Go.RowKit
namespace Hd
theorem bad_cases (c : UInt8) : (badB c = true ∧ ((c.toNat : Int) ≤ 8 ∨ (¬ (c.toNat : Int) ≤ 8 ∧ (10 : Int) ≤ (c.toNat : Int) ∧ (c.toNat : Int) ≤ 31) ∨ (¬ (c.toNat : Int) ≤ 8 ∧ (10 : Int) ≤ (c.toNat : Int) ∧ ¬ (c.toNat : Int) ≤ 31 ∧ ((c.toNat : Int) == 127) = true))) ∨
    (badB c = false ∧ ((¬ (c.toNat : Int) ≤ 8 ∧ ¬ (10 : Int) ≤ (c.toNat : Int) ∧ ((c.toNat : Int) == 127) = false) ∨ (¬ (c.toNat : Int) ≤ 8 ∧ (10 : Int) ≤ (c.toNat : Int) ∧ ¬ (c.toNat : Int) ≤ 31 ∧ ((c.toNat : Int) == 127) = false))) := by
  have e : badB c = decide (c.toNat ≤ 8 ∨ (10 ≤ c.toNat ∧ c.toNat ≤ 31) ∨ c.toNat = 127) := rfl
  rw [e]
  by_cases h1 : c.toNat ≤ 8
  · exact .inl ⟨decide_eq_true (by omega), .inl (by omega)⟩
  · by_cases h2 : 10 ≤ c.toNat
    · by_cases h3 : c.toNat ≤ 31
      · exact .inl ⟨decide_eq_true (by omega), .inr (.inl (by omega))⟩
      · by_cases h4 : c.toNat = 127
        · exact .inl ⟨decide_eq_true (by omega), .inr (.inr ⟨by omega, by omega, by omega, by rw [beq_iff_eq]; omega⟩)⟩
        · exact .inr ⟨decide_eq_false (by omega), .inr ⟨by omega, by omega, by omega, by rw [beq_eq_false_iff_ne]; omega⟩⟩
    · exact .inr ⟨decide_eq_false (by omega), .inl ⟨by omega, by omega, by rw [beq_eq_false_iff_ne]; omega⟩⟩
theorem put_dom_low {h : Head} {k v : List UInt8} (hv : v.length ≤ 1024) (hk : k = kDom) : put h k v = { h with domain := undot (v.map Oct.low) } := by subst hk; exact put_dom h hv
def keys : List (List UInt8) := [kExp, kAge, kDom, kPath, kSec, kOnly, kSite]
/-- The first j keys have been looked at. -/
def Done (j : Nat) (h : Head) (k v : List UInt8) (t : Head) : Prop := (k ∈ keys.take j → t = put h k v) ∧ (k ∉ keys.take j → t = h)
theorem done_start (h : Head) (k v : List UInt8) : Done 0 h k v h := ⟨fun m => absurd m (by simp), fun _ => rfl⟩
theorem keys_apart : ∀ j, j < 7 → ∀ x, keys[j]? = some x → x ∉ keys.take j := by decide +kernel
theorem done_hit {j : Nat} {h t : Head} {k v x : List UInt8} (hj : keys[j]? = some x) (hk : k = x) (hd : Done j h k v t) : t = h := by
  subst hk
  exact hd.2 (keys_apart j (List.getElem?_eq_some_iff.1 hj).1 k hj)
theorem done_put {j : Nat} {h t : Head} {k v x : List UInt8} (hj : keys[j]? = some x) (hk : k = x) (ht : t = put h k v) : Done (j + 1) h k v t := by
  refine ⟨fun _ => ht, fun m => absurd ?_ m⟩
  rw [List.take_add_one, hj, hk]; simp
theorem done_skip {j : Nat} {h t : Head} {k v x : List UInt8} (hj : keys[j]? = some x) (hk : k ≠ x) (hd : Done j h k v t) : Done (j + 1) h k v t := by
  have e : k ∈ keys.take (j + 1) ↔ k ∈ keys.take j := by rw [List.take_add_one, hj]; simp [hk]
  exact ⟨fun m => hd.1 (e.1 m), fun m => hd.2 (fun q => m (e.2 q))⟩
theorem done_end {h t : Head} {k v : List UInt8} (hd : Done 7 h k v t) : t = put h k v := by
  by_cases m : k ∈ keys.take 7
  · exact hd.1 m
  · rw [hd.2 m]
    have e : keys.take 7 = [kExp, kAge, kDom, kPath, kSec, kOnly, kSite] := rfl
    rw [e] at m
    simp only [List.mem_cons, List.not_mem_nil, or_false, not_or] at m
    exact (put_none h m).symm
theorem key_cases (k : List UInt8) : k = kExp ∨ k = kAge ∨ k = kDom ∨ k = kPath ∨ k = kSec ∨ k = kOnly ∨ k = kSite ∨ (k ≠ kExp ∧ k ≠ kAge ∧ k ≠ kDom ∧ k ≠ kPath ∧ k ≠ kSec ∧ k ≠ kOnly ∧ k ≠ kSite) := by
  by_cases h1 : k = kExp
  · exact .inl h1
  by_cases h2 : k = kAge
  · exact .inr (.inl h2)
  by_cases h3 : k = kDom
  · exact .inr (.inr (.inl h3))
  by_cases h4 : k = kPath
  · exact .inr (.inr (.inr (.inl h4)))
  by_cases h5 : k = kSec
  · exact .inr (.inr (.inr (.inr (.inl h5))))
  by_cases h6 : k = kOnly
  · exact .inr (.inr (.inr (.inr (.inr (.inl h6)))))
  by_cases h7 : k = kSite
  · exact .inr (.inr (.inr (.inr (.inr (.inr (.inl h7))))))
  · exact .inr (.inr (.inr (.inr (.inr (.inr (.inr ⟨h1, h2, h3, h4, h5, h6, h7⟩))))))
end Hd
/-- A value built of two parts, in a region that draws its order. -/
theorem yields_built2 {P : Program} {ops : Array Oper} {S : World → Prop} {o : Oper} {a : Act} (hw : Region.wanted o (yielded ops a.tmps) = true) (t : TypeId) (i j : Nat) (x y : Operand) (ho : o.op = .build t #[(i, x), (j, y)]) (u v : Value) (hx : a.eval x = u) (hy : a.eval y = v) (cells : Array Value)
    (hc : P.built t [(i, u), (j, v)] = some cells) : YieldsIf P ops S o (.agg cells) a :=
  .inl ⟨hw, fun w _ => by
    have e : ((#[(i, x), (j, y)] : Array (Nat × Operand)).map fun (i, x) => (i, a.eval x)).toList = [(i, u), (j, v)] := by simp [hx, hy]
    unfold execOp
    simp only [ho, Sem.run_bind, run_build w t _ cells (by rw [e]; exact hc), Result.andThen_ok]
    rfl⟩
theorem text_is (x : ByteArray) (k : List UInt8) : (x.toList == k) = decide (x.data.toList = k) := by
  rw [Oct.bytes_data, Bool.eq_iff_iff, beq_iff_eq, decide_eq_true_iff]
set_option maxRecDepth 100000 in
set_option maxHeartbeats 32000000 in
theorem refHeadParse_calls (s : ByteArray) (w : World) (hs : s.size ≤ 6000) :
    Calls Tryz.prog 6 #[.string s] w (NewHead (Hd.parse s.data.toList) w) := by
  have z0 := zeroHead
  have HZ : Hid (∀ h : Hd.Head, (headA h).size = 11) := Lib.hid (fun h => rfl)
  have HPost : Hid (∀ n h w', Hd.parse s.data.toList = (n, h) → Below w.heap.size w w' → NewHead (Hd.parse s.data.toList) w (.returned (.tuple #[.agg (headA h), .int .i64 n])) w') := Lib.hid (fun n h w' e hb => head_post e hb)
  generalize hpost : NewHead (Hd.parse s.data.toList) w = post at *
  clear hpost
  have hsl := Oct.length_bytes s
  have HPb : Hid (s.data.toList.any Hd.badB = true → Hd.parse s.data.toList = (81, Hd.zero)) := Lib.hid (fun h => by unfold Hd.parse; rw [if_pos h])
  have HPg : Hid (s.data.toList.any Hd.badB = false → Hd.parse s.data.toList = Hd.said (Oct.split 59 s.data.toList)) := Lib.hid (fun h => by unfold Hd.parse; rw [if_neg (by rw [h]; simp)])
  have HSplit := Lib.hid (fun W => refSplit_calls s 59 W (by omega))
  have hpos := Oct.split_pos 59 s.data.toList
  have hcnt := Oct.split_length 59 s.data.toList
  rw [hsl] at hcnt
  have HSM := Lib.hid (fun p hp => Oct.split_small 59 s.data.toList p hp)
  generalize Oct.split 59 s.data.toList = ps at *
  go_enter Tryz.func6, Tryz.ntmps6
  have R0 := Row.new w 24 (headA Hd.zero)
  have B0 := (Below.refl w.heap.size w).alloc (Nat.le_refl _) (.cells (headA Hd.zero) 24)
  go_wp2
  generalize w.alloc (.cells (headA Hd.zero) 24) = w0 at *
  go_loop [4] (fun i => ∃ k : Nat, k ≤ s.size ∧ i = .int .i64 k ∧ (s.data.toList.take k).any Hd.badB = false) (fun i => s.size - (intOf i).toNat)
  case atStart => exact ⟨0, Nat.zero_le _, rfl, by simp⟩
  case round =>
    obtain ⟨k, hk, rfl, hall⟩ := hrel
    have HA := Lib.hid hall
    clear hall
    by_cases hlt : k < s.size
    · have hl : k < s.data.toList.length := by rw [Oct.length_bytes]; exact hlt
      rcases Hd.bad_cases s[k] with ⟨hb, hor⟩ | ⟨hb, hor⟩
      · have HQ := Lib.hid (fun w' => HPost.out 81 Hd.zero w' (HPb.out (List.any_eq_true.2 ⟨s[k], by rw [← Oct.getElem_bytes s k hlt]; exact List.getElem_mem hl, hb⟩)))
        clear hb HPost HPb HPg
        rcases hor with h1 | ⟨h1, h2, h3⟩ | ⟨h1, h2, h3, h4⟩
        all_goals
          go_wp2_with (refine wpList_store_row rfl 24 _ _ rfl w.heap.size (headA Hd.zero) rfl rfl 24 _ R0 (by rw [HZ.out]; exact infoHead) rfl (headA_one _) ?_)
          exact bodyPost_ret (v := .tuple #[.agg (headA Hd.zero), .int .i64 81]) (results_cell_two rfl _ _ w.heap.size _ _ _ rfl _ rfl (R0.whole _) Tryz.underlying24 rfl (by rw [HZ.out]; exact infoHead)) rfl (HQ.out _ (below_setRow B0 (Nat.le_refl _) _))
      · have HR : Hid ((s.data.toList.take (k + 1)).any Hd.badB = false) := Lib.hid (by rw [Oct.take_snoc s k hlt, List.any_append, HA.out, List.any_cons, hb]; rfl)
        clear hb
        rcases hor with ⟨h1, h2, h3⟩ | ⟨h1, h2, h3, h4⟩
        all_goals
          go_wp2
          go_round
          case rel => exact ⟨k + 1, by omega, by go_num, HR.out⟩
          case measure => simp [intOf]; omega
    · have HG := HPg.out (by have := HA.out; rw [Oct.take_all s k (by omega)] at this; exact this)
      have HSd := Lib.hid HG
      clear HG HPb HPg HA
      go_wp2_with fail
      refine (HSplit.out _).mono ?_
      intro e w1 hsp
      obtain ⟨gl, cap, rfl, O, b1⟩ := hsp.at_ hpos
      clear hsp
      have R1 := R0.stays b1
      have B1 := B0.trans (b1.mono B0.size)
      obtain ⟨hglb, hgl⟩ := O.lt gl rfl
      clear R0 B0 HSplit b1
      obtain ⟨p, r, hpr⟩ : ∃ p r, ps = p :: r := by
        cases ps with
        | nil => exact absurd hpos (by simp)
        | cons p r => exact ⟨p, r, rfl⟩
      have HPR := Lib.hid hpr
      clear hpr
      have hpl := HSM.out p (by rw [HPR.out]; simp)
      rw [hsl] at hpl
      have hcell := tok_cell O (k := 0) (p := p) (by rw [HPR.out]; rfl) hpos
      unfold strV at hcell
      obtain ⟨P, hP⟩ : ∃ P : ByteArray, (⟨p.toArray⟩ : ByteArray) = P := ⟨_, rfl⟩
      have hPd : P.data.toList = p := by rw [← hP]
      have hPs : P.size ≤ 6000 := by rw [← Oct.length_bytes, hPd]; omega
      rw [hP] at hcell
      have HA1 := Lib.hid (fun W => refAhead_calls P W (by omega))
      have HB1 := Lib.hid (fun W => refAfter_calls P W (by omega))
      have HC1 := Lib.hid (fun W => refCut_calls P W (by unfold maxLen; omega))
      have HT1 := Lib.hid (fun W => refTrim_calls P W (by unfold maxLen; omega))
      unfold TextIs at HA1 HB1
      rw [hPd] at HA1 HB1 HC1 HT1
      have hPsl : P.size = p.length := by rw [← Oct.length_bytes, hPd]
      have hsg := Hd.sign_cut p
      have hpy := @Hd.pair_sign p
      have hpn := @Hd.pair_bare p
      have hpp := Hd.pair_le p
      obtain ⟨an, han⟩ : ∃ x : ByteArray, (⟨(Hd.ahead p).toArray⟩ : ByteArray) = x := ⟨_, rfl⟩
      obtain ⟨bn, hbn⟩ : ∃ x : ByteArray, (⟨(Hd.behind p).toArray⟩ : ByteArray) = x := ⟨_, rfl⟩
      have hbt : Tryz.prog.built 24 [(0, .string an), (1, .string bn)] = some (headA { Hd.zero with name := Hd.ahead p, value := Hd.behind p }) := by rw [← han, ← hbn]; exact built_head _ _
      rw [han] at HA1
      rw [hbn] at HB1
      have HQ1 := Lib.hid (fun w' (h : (Hd.pair p).1 = [] ∧ (Hd.pair p).2 = []) => HPost.out 82 Hd.zero w' (by rw [HSd.out, HPR.out]; unfold Hd.said; dsimp only; rw [if_pos h]))
      have HQ2 := Lib.hid (fun w' (h : ¬ ((Hd.pair p).1 = [] ∧ (Hd.pair p).2 = [])) (h2 : 4096 < (Hd.pair p).1.length + (Hd.pair p).2.length) => HPost.out 83 Hd.zero w' (by rw [HSd.out, HPR.out]; unfold Hd.said; dsimp only; rw [if_neg h, if_pos h2]))
      have HQ3 := Lib.hid (fun w' (h : ¬ ((Hd.pair p).1 = [] ∧ (Hd.pair p).2 = [])) (h2 : ¬ 4096 < (Hd.pair p).1.length + (Hd.pair p).2.length) => HPost.out 0 (r.foldl Hd.attr (Hd.start p)) w' (by rw [HSd.out, HPR.out]; unfold Hd.said; dsimp only; rw [if_neg h, if_neg h2]))
      have hcnt2 : ps.length ≤ 6001 := by omega
      clear HPost HSd hcnt
      have cl1 : (0 : Int) < (ps.length : Int) := by omega
      go_upto_region 7 with fail
      obtain ⟨T7, U7, V7, W7⟩ := lay_row 24 (headA Hd.zero) (headA { Hd.zero with name := Hd.ahead p, value := Hd.behind p }) (Below.refl w1.heap.size w1.drew) (Nat.le_refl _)
      go_cut [6] (fun s6 wx => s6 = .pointer (some ⟨w1.heap.size, 0, none⟩) ∧ KeptH w1.heap.size { Hd.zero with name := Hd.ahead p, value := Hd.behind p } w1 wx)
      case first => as_aux_lemma =>
        refine wp_region_held_drew (S := Below w1.heap.size w1) (by kernel_rfl) (Below.refl w1.heap.size w1).drew (fun _ => ?_)
        refine wpAnyH_take (i := 0) (v := ?_) rfl (by kernel_rfl) (by kernel_rfl) (by kernel_rfl) (fun _ _ _ h => h) (Or.inl ⟨by rfl, ?_⟩) (by assumption) ?_
        rotate_left
        · intro _ _; go_simp; with_reducible rfl
        simp only [Act.put, List.setIfInBounds_toArray, List.set_cons_zero, List.set_cons_succ, List.getElem_toArray, List.getElem_cons_zero]
        refine wpAnyH_take (i := 1) (v := ?_) rfl (by kernel_rfl) (by kernel_rfl) (by kernel_rfl) (fun _ _ _ h => h) (Or.inl ⟨by rfl, ?_⟩) (by assumption) ?_
        rotate_left
        · intro _ _; go_simp; with_reducible rfl
        simp only [Act.put, List.setIfInBounds_toArray, List.set_cons_zero, List.set_cons_succ, List.getElem_toArray, List.getElem_cons_zero, List.getElem_cons_succ]
        refine wpAnyH_take (i := 2) (v := ?_) rfl (by kernel_rfl) (by kernel_rfl) (by kernel_rfl) (fun _ _ _ h => h) (Or.inl ⟨by rfl, ?_⟩) (by assumption) ?_
        rotate_left
        · intro _ hS; have hcell := hS.cell (p := ⟨gl, 0, none⟩) hgl |>.trans hcell; clear hS; go_simp; with_reducible rfl
        simp only [Act.put, List.setIfInBounds_toArray, List.set_cons_zero, List.set_cons_succ, List.getElem_toArray, List.getElem_cons_zero, List.getElem_cons_succ]
        refine wpAnyH_take (i := 4) (v := ?_) rfl (by kernel_rfl) (by kernel_rfl) (by kernel_rfl) (fun _ _ _ h => h) (Or.inl ⟨by rfl, ?_⟩) (by assumption) ?_
        rotate_left
        · intro _ _; go_simp; with_reducible rfl
        simp only [Act.put, List.setIfInBounds_toArray, List.set_cons_zero, List.set_cons_succ, List.getElem_toArray, List.getElem_cons_zero, List.getElem_cons_succ]
        refine wpAnyH_take (i := 5) (v := ?_) rfl (by kernel_rfl) (by kernel_rfl) (by kernel_rfl) (fun _ _ _ h => h) (Or.inl ⟨by rfl, ?_⟩) (by assumption) ?_
        rotate_left
        · intro _ _; go_simp; with_reducible rfl
        simp only [Act.put, List.setIfInBounds_toArray, List.set_cons_zero, List.set_cons_succ, List.getElem_toArray, List.getElem_cons_zero, List.getElem_cons_succ]
        refine wpAnyH_take (i := 6) (v := ?_) rfl (by kernel_rfl) (by kernel_rfl) (by kernel_rfl) (fun _ _ _ h => h) (Or.inl ⟨by rfl, ?_⟩) (by assumption) ?_
        rotate_left
        · intro _ hS; have hcell := hS.cell (p := ⟨gl, 0, none⟩) hgl |>.trans hcell; clear hS; go_simp; with_reducible rfl
        simp only [Act.put, List.setIfInBounds_toArray, List.set_cons_zero, List.set_cons_succ, List.getElem_toArray, List.getElem_cons_zero, List.getElem_cons_succ]
        refine wpAnyH_ready (rs := [3, 9]) (by kernel_rfl) (by simp) (AllReadyH.cons rfl (fun K hK => ?_) (AllReadyH.cons rfl (fun K hK => ?_) AllReadyH.nil))
        · rw [if_pos (by rfl)]
          go_simp
          refine (HA1.out _).mono ?_
          rintro e w' ⟨rfl, rfl⟩
          go_wp2_with fail
          refine hK.out _ _ (Below.refl w1.heap.size w1).drew (fun _ => ?_)
          clear hK K
          refine wpAnyH_ready (rs := [7, 9]) (by kernel_rfl) (by simp) (AllReadyH.cons rfl (fun K hK => ?_) (AllReadyH.cons rfl (fun K hK => ?_) AllReadyH.nil))
          · rw [if_pos (by rfl)]
            go_simp
            refine (HB1.out _).mono ?_
            rintro e w' ⟨rfl, rfl⟩
            go_wp2_with fail
            refine hK.out _ _ (Below.refl w1.heap.size w1).drew (fun _ => ?_)
            clear hK K
            refine wpAnyH_take (i := 8) rfl (by kernel_rfl) (by kernel_rfl) (by kernel_rfl) (fun _ _ _ h => h) (yields_built2 (by rfl) _ _ _ _ _ rfl (.string an) (.string bn) rfl rfl (headA { Hd.zero with name := Hd.ahead p, value := Hd.behind p }) hbt) (by assumption) ?_
            simp only [Act.put, List.setIfInBounds_toArray, List.set_cons_zero, List.set_cons_succ, List.getElem_toArray, List.getElem_cons_zero, List.getElem_cons_succ]
            refine wpAnyH_ready (rs := [9]) (by kernel_rfl) (by simp) (AllReadyH.cons rfl (fun K hK => ?_) AllReadyH.nil)
            rw [if_pos (by rfl)]
            go_simp
            refine hK.out _ _ ((Below.refl w1.heap.size w1).drew.alloc (Nat.le_refl _) (.cells (headA Hd.zero) 24)) (fun _ => ?_)
            clear hK K
            refine wpAnyH_ready (rs := [10]) (by kernel_rfl) (by simp) (AllReadyH.cons rfl (fun K hK => ?_) AllReadyH.nil)
            rw [if_pos (by rfl)]
            refine wp_store_row 24 _ _ rfl w1.drew.heap.size (headA { Hd.zero with name := Hd.ahead p, value := Hd.behind p }) rfl rfl 24 _ T7 (by rw [HZ.out]; exact infoHead) rfl (headA_one _) ?_
            refine hK.out _ _ ((Below.refl _ w1).drew.trans V7) (fun _ => ?_)
            clear hK K
            refine wpAnyH_done (by kernel_rfl) ?_ _
            go_wp2
            go_meet
            exact ⟨rfl, U7, (Below.refl _ w1).drew.trans V7⟩
          · rw [if_pos (by rfl)]
            go_simp
            refine hK.out _ _ ((Below.refl w1.heap.size w1).drew.alloc (Nat.le_refl _) (.cells (headA Hd.zero) 24)) (fun _ => ?_)
            clear hK K
            refine wpAnyH_ready (rs := [7]) (by kernel_rfl) (by simp) (AllReadyH.cons rfl (fun K hK => ?_) AllReadyH.nil)
            rw [if_pos (by rfl)]
            go_simp
            refine (HB1.out _).mono ?_
            rintro e w' ⟨rfl, rfl⟩
            go_wp2_with fail
            refine hK.out _ _ ((Below.refl w1.heap.size w1).drew.alloc (Nat.le_refl _) (.cells (headA Hd.zero) 24)) (fun _ => ?_)
            clear hK K
            refine wpAnyH_take (i := 8) rfl (by kernel_rfl) (by kernel_rfl) (by kernel_rfl) (fun _ _ _ h => h) (yields_built2 (by rfl) _ _ _ _ _ rfl (.string an) (.string bn) rfl rfl (headA { Hd.zero with name := Hd.ahead p, value := Hd.behind p }) hbt) (by assumption) ?_
            simp only [Act.put, List.setIfInBounds_toArray, List.set_cons_zero, List.set_cons_succ, List.getElem_toArray, List.getElem_cons_zero, List.getElem_cons_succ]
            refine wpAnyH_ready (rs := [10]) (by kernel_rfl) (by simp) (AllReadyH.cons rfl (fun K hK => ?_) AllReadyH.nil)
            rw [if_pos (by rfl)]
            refine wp_store_row 24 _ _ rfl w1.drew.heap.size (headA { Hd.zero with name := Hd.ahead p, value := Hd.behind p }) rfl rfl 24 _ T7 (by rw [HZ.out]; exact infoHead) rfl (headA_one _) ?_
            refine hK.out _ _ ((Below.refl _ w1).drew.trans V7) (fun _ => ?_)
            clear hK K
            refine wpAnyH_done (by kernel_rfl) ?_ _
            go_wp2
            go_meet
            exact ⟨rfl, U7, (Below.refl _ w1).drew.trans V7⟩
        · rw [if_pos (by rfl)]
          go_simp
          refine hK.out _ _ ((Below.refl w1.heap.size w1).drew.alloc (Nat.le_refl _) (.cells (headA Hd.zero) 24)) (fun _ => ?_)
          clear hK K
          refine wpAnyH_ready (rs := [3]) (by kernel_rfl) (by simp) (AllReadyH.cons rfl (fun K hK => ?_) AllReadyH.nil)
          rw [if_pos (by rfl)]
          go_simp
          refine (HA1.out _).mono ?_
          rintro e w' ⟨rfl, rfl⟩
          go_wp2_with fail
          refine hK.out _ _ ((Below.refl w1.heap.size w1).drew.alloc (Nat.le_refl _) (.cells (headA Hd.zero) 24)) (fun _ => ?_)
          clear hK K
          refine wpAnyH_ready (rs := [7]) (by kernel_rfl) (by simp) (AllReadyH.cons rfl (fun K hK => ?_) AllReadyH.nil)
          rw [if_pos (by rfl)]
          go_simp
          refine (HB1.out _).mono ?_
          rintro e w' ⟨rfl, rfl⟩
          go_wp2_with fail
          refine hK.out _ _ ((Below.refl w1.heap.size w1).drew.alloc (Nat.le_refl _) (.cells (headA Hd.zero) 24)) (fun _ => ?_)
          clear hK K
          refine wpAnyH_take (i := 8) rfl (by kernel_rfl) (by kernel_rfl) (by kernel_rfl) (fun _ _ _ h => h) (yields_built2 (by rfl) _ _ _ _ _ rfl (.string an) (.string bn) rfl rfl (headA { Hd.zero with name := Hd.ahead p, value := Hd.behind p }) hbt) (by assumption) ?_
          simp only [Act.put, List.setIfInBounds_toArray, List.set_cons_zero, List.set_cons_succ, List.getElem_toArray, List.getElem_cons_zero, List.getElem_cons_succ]
          refine wpAnyH_ready (rs := [10]) (by kernel_rfl) (by simp) (AllReadyH.cons rfl (fun K hK => ?_) AllReadyH.nil)
          rw [if_pos (by rfl)]
          refine wp_store_row 24 _ _ rfl w1.drew.heap.size (headA { Hd.zero with name := Hd.ahead p, value := Hd.behind p }) rfl rfl 24 _ T7 (by rw [HZ.out]; exact infoHead) rfl (headA_one _) ?_
          refine hK.out _ _ ((Below.refl _ w1).drew.trans V7) (fun _ => ?_)
          clear hK K
          refine wpAnyH_done (by kernel_rfl) ?_ _
          go_wp2
          go_meet
          exact ⟨rfl, U7, (Below.refl _ w1).drew.trans V7⟩
      case rest =>
      obtain ⟨rfl, K⟩ := hcut
      clear T7 U7 V7 W7 HA1 HB1 hbt han hbn
      have hcellc := (K.below.cell (p := ⟨gl, 0, none⟩) hgl).trans hcell
      have Hcell8 : Hid (∀ W, Below wc.heap.size wc W → W.cell? ⟨gl, 0, none⟩ = some (.string P)) := Lib.hid (fun W hC => (hC.cell (block_lt_of_cell hcellc)).trans hcellc)
      have CC8 := Lib.hid (fun W (hC : Below wc.heap.size wc W) => on_at2 hC (HC1.out W))
      go_upto_region 8 with fail
      refine region_quiet (C := fun W => Below wc.heap.size wc W) (by kernel_rfl) (by kernel_rfl) (Below.refl _ _).drew ?_
      refine q_yields (v := ?_) (Or.inl ⟨by rfl, ?_⟩) ?_
      rotate_left
      · intro _ _; go_simp; with_reducible rfl
      simp only [Act.put, List.setIfInBounds_toArray, List.set_cons_zero, List.set_cons_succ]
      refine q_yields (v := ?_) (Or.inl ⟨by rfl, ?_⟩) ?_
      rotate_left
      · intro _ _; go_simp; with_reducible rfl
      simp only [Act.put, List.setIfInBounds_toArray, List.set_cons_zero, List.set_cons_succ]
      refine q_yields (v := .string P) (Or.inl ⟨by rfl, fun wq hC => by have hcell := Hcell8.out wq hC; go_simp; try with_reducible rfl⟩) ?_
      simp only [Act.put, List.setIfInBounds_toArray, List.set_cons_zero, List.set_cons_succ]
      refine q_call (by rfl) (.int .i64 ((Hd.cutAt p : Nat) : Int)) (fun wq hC => by unfold Oper.quietAt; go_simp; exact CC8.out wq hC) ?_
      simp only [Act.put, List.setIfInBounds_toArray, List.set_cons_zero, List.set_cons_succ]
      refine q_yields (v := ?_) (Or.inl ⟨by rfl, ?_⟩) ?_
      rotate_left
      · intro _ _; go_simp; with_reducible rfl
      simp only [Act.put, List.setIfInBounds_toArray, List.set_cons_zero, List.set_cons_succ]
      refine q_yields (v := ?_) (Or.inl ⟨by rfl, ?_⟩) ?_
      rotate_left
      · intro _ _; go_simp; with_reducible rfl
      simp only [Act.put, List.setIfInBounds_toArray, List.set_cons_zero, List.set_cons_succ]
      refine q_yields (v := .string P) (Or.inl ⟨by rfl, fun wq hC => by have hcell := Hcell8.out wq hC; go_simp; try with_reducible rfl⟩) ?_
      simp only [Act.put, List.setIfInBounds_toArray, List.set_cons_zero, List.set_cons_succ]
      refine q_yields (v := ?_) (Or.inl ⟨by rfl, ?_⟩) ?_
      rotate_left
      · intro _ _; go_simp; with_reducible rfl
      simp only [Act.put, List.setIfInBounds_toArray, List.set_cons_zero, List.set_cons_succ]
      refine q_yields (v := ?_) (Or.inl ⟨by rfl, ?_⟩) ?_
      rotate_left
      · intro _ _; go_simp; with_reducible rfl
      simp only [Act.put, List.setIfInBounds_toArray, List.set_cons_zero, List.set_cons_succ]
      refine wpQuiet_nil ?_
      intro w8 hC8
      have K8 := K.on hC8
      clear hcellc Hcell8 CC8 HC1 hC8 K
      go_upto_if 63 with fail
      go_cut [] (fun wx => KeptH w1.heap.size (Hd.start p) w1 wx)
      case first => as_aux_lemma =>
        by_cases h61 : 61 ∈ p
        · have e1 : (((Hd.cutAt p : Nat) : Int) == (P.size : Int)) = false := by
            rw [beq_eq_false_iff_ne]
            have := hsg.1 h61
            omega
          have est : Hd.start p = { Hd.zero with name := Hd.ahead p, value := Hd.behind p } := by unfold Hd.start; rw [hpy h61]
          go_wp2
          go_meet
          rw [est]
          exact K8
        · have e1 : (((Hd.cutAt p : Nat) : Int) == (P.size : Int)) = true := by
            rw [beq_iff_eq]
            have : Hd.cutAt p = p.length := Decidable.byContradiction fun k => h61 (hsg.2 k)
            omega
          have ept : Hd.pair p = ([], Oct.trim p) := by unfold Hd.pair; rw [if_neg h61]
          have K9 := K8.one (i := 0) (u := .string ⟨#[]⟩) (h' := { Hd.zero with name := [], value := Hd.behind p }) rfl
          have q0 := K8.cell 0
          have f0 := K8.free 0
          have q1 := K9.cell 1
          have f1 := K9.free 1
          have hc9 := (K9.below.cell (p := ⟨gl, 0, none⟩) hgl).trans hcell
          have est : headA (Hd.start p) = (headA { Hd.zero with name := [], value := Hd.behind p }).setIfInBounds 1 (.string ⟨(Oct.trim p).toArray⟩) := by unfold Hd.start; rw [ept]; rfl
          have K10 := K9.one (i := 1) (u := .string ⟨(Oct.trim p).toArray⟩) (h' := Hd.start p) est.symm
          clear est ept
          go_wp2_with fail
          refine (HT1.out _).mono ?_
          rintro e w9 ⟨rfl, rfl⟩
          go_wp2
          go_meet
          exact K10
      case rest =>
      have K11 := hcut
      clear hcut K8 hsg hpy hpn HT1
      obtain ⟨n, hn⟩ : ∃ p2 : ByteArray, (⟨(Hd.pair p).1.toArray⟩ : ByteArray) = p2 := ⟨_, rfl⟩
      obtain ⟨v, hv⟩ : ∃ p2 : ByteArray, (⟨(Hd.pair p).2.toArray⟩ : ByteArray) = p2 := ⟨_, rfl⟩
      have hn1 : n.toList.isEmpty = decide ((Hd.pair p).1 = []) := by rw [← hn, empty_mk]
      have hv1 : v.toList.isEmpty = decide ((Hd.pair p).2 = []) := by rw [← hv, empty_mk]
      have hn2 : n.size = (Hd.pair p).1.length := by rw [← hn, size_mk]
      have hv2 : v.size = (Hd.pair p).2.length := by rw [← hv, size_mk]
      rw [← hn2, ← hv2] at HQ2 HQ3 hpp
      have c0 := K11.cell 0
      have c1 := K11.cell 1
      rw [show (headA (Hd.start p))[0]? = some (.string n) from by rw [← hn]; rfl] at c0
      rw [show (headA (Hd.start p))[1]? = some (.string v) from by rw [← hv]; rfl] at c1
      obtain ⟨bn, hbn⟩ : ∃ b, decide ((Hd.pair p).1 = []) = b := ⟨_, rfl⟩
      obtain ⟨bv, hbv⟩ : ∃ b, decide ((Hd.pair p).2 = []) = b := ⟨_, rfl⟩
      rw [hbn] at hn1
      rw [hbv] at hv1
      have HE : Hid (((bn && bv) = true ↔ ((Hd.pair p).1 = [] ∧ (Hd.pair p).2 = []))) := Lib.hid (by rw [← hbn, ← hbv, Bool.and_eq_true, decide_eq_true_iff, decide_eq_true_iff])
      clear hbn hbv hn hv hn2 hv2
      have R11 := R1.below K11.below R1.lt
      have B11 := B1.trans (K11.below.mono B1.size)
      go_upto_region 11 with fail
      go_cut [77] (fun sx wx => sx = .bool (bn && bv) ∧ wc = wx)
      case first => as_aux_lemma =>
        cases bn with
        | false => go_wp2; go_meet; exact ⟨rfl, rfl⟩
        | true =>
        cases bv with
        | false => go_wp2; go_meet; exact ⟨rfl, rfl⟩
        | true => go_wp2; go_meet; exact ⟨rfl, rfl⟩
      case rest =>
      obtain ⟨rfl, rfl⟩ := hcut
      cases hB : (bn && bv) with
      | true =>
        have HQ := Lib.hid (fun w' => HQ1.out w' (HE.out.1 hB))
        clear hB HE HQ1 HQ2 HQ3
        go_wp2_with (refine wpList_store_row rfl 24 _ _ rfl w.heap.size (headA Hd.zero) rfl rfl 24 _ R11 (by rw [HZ.out]; exact infoHead) rfl (headA_one _) ?_)
        exact bodyPost_ret (v := .tuple #[.agg (headA Hd.zero), .int .i64 82]) (results_cell_two rfl _ _ w.heap.size _ _ _ rfl _ rfl (R11.whole _) Tryz.underlying24 rfl (by rw [HZ.out]; exact infoHead)) rfl (HQ.out _ (below_setRow B11 (Nat.le_refl _) _))
      | false =>
      have HNE : Hid (¬ ((Hd.pair p).1 = [] ∧ (Hd.pair p).2 = [])) := Lib.hid (fun h => by rw [HE.out.2 h] at hB; cases hB)
      clear hB HE HQ1
      have hwr : IntKind.i64.wrap ((n.size : Int) + (v.size : Int)) = (n.size : Int) + (v.size : Int) := by rw [IntKind.wrap_i64]; omega
      by_cases hlong : 4096 < n.size + v.size
      · have HQ := Lib.hid (fun w' => HQ2.out w' HNE.out hlong)
        have hlong1 : (4096 : Int) < (n.size : Int) + (v.size : Int) := by omega
        clear HQ2 HQ3
        go_wp2_with (refine wpList_store_row rfl 24 _ _ rfl w.heap.size (headA Hd.zero) rfl rfl 24 _ R11 (by rw [HZ.out]; exact infoHead) rfl (headA_one _) ?_)
        exact bodyPost_ret (v := .tuple #[.agg (headA Hd.zero), .int .i64 83]) (results_cell_two rfl _ _ w.heap.size _ _ _ rfl _ rfl (R11.whole _) Tryz.underlying24 rfl (by rw [HZ.out]; exact infoHead)) rfl (HQ.out _ (below_setRow B11 (Nat.le_refl _) _))
      have hlong1 : ¬ (4096 : Int) < (n.size : Int) + (v.size : Int) := by omega
      obtain ⟨res, hres⟩ : ∃ res, r.foldl Hd.attr (Hd.start p) = res := ⟨_, rfl⟩
      have HQ := Lib.hid (fun w' => HQ3.out w' HNE.out hlong)
      rw [hres] at HQ
      have hdr : ps.drop 1 = r := by rw [HPR.out]; rfl
      rw [← hdr] at hres
      have HR0 := Lib.hid hres
      have HG := Lib.hid B1.size
      have hltR := R1.lt
      clear HQ2 HQ3 HNE hlong hres hdr HPR hpp hcell hPd hPs hPsl hP hpl R11 B11
      go_wp2
      clear c0 c1
      go_loopw [7] (fun i wr => ∃ (k : Nat) (T : Hd.Head), 1 ≤ k ∧ k ≤ ps.length ∧ i = .int .i64 k ∧ (ps.drop k).foldl Hd.attr T = res ∧ KeptH w1.heap.size T w1 wr) (fun i _ => ps.length - (intOf i).toNat)
      case atStart => exact ⟨1, Hd.start p, Nat.le_refl _, hpos, rfl, HR0.out, K11⟩
      case round =>
        clear K11
        obtain ⟨k, T, hk1, hk, rfl, hT, K⟩ := hrel
        by_cases hlt2 : k < ps.length
        · have hki : (k : Int) < (ps.length : Int) := by omega
          obtain ⟨q, hq⟩ : ∃ q, ps[k]? = some q := ⟨_, List.getElem?_eq_getElem hlt2⟩
          have hql := HSM.out q (List.mem_of_getElem? hq)
          rw [hsl] at hql
          have hcellq := tok_cell O hq hlt2
          have hdk : ps.drop k = q :: ps.drop (k + 1) := by
            rw [List.drop_eq_getElem_cons hlt2]
            rw [List.getElem?_eq_getElem hlt2] at hq
            rw [Option.some.inj hq]
          rw [hdk, List.foldl_cons] at hT
          unfold strV at hcellq
          obtain ⟨Q, hQ⟩ : ∃ P : ByteArray, (⟨q.toArray⟩ : ByteArray) = P := ⟨_, rfl⟩
          have hQd : Q.data.toList = q := by rw [← hQ]
          have hQs : Q.size ≤ 6000 := by rw [← Oct.length_bytes, hQd]; omega
          rw [hQ] at hcellq
          have HAq := Lib.hid (fun W => refAhead_calls Q W (by omega))
          have HBq := Lib.hid (fun W => refAfter_calls Q W (by omega))
          unfold TextIs at HAq HBq
          rw [hQd] at HAq HBq
          have m1 := Hd.ahead_le q
          have m2 := Hd.behind_le q
          obtain ⟨aq, haq⟩ : ∃ x : ByteArray, (⟨(Hd.ahead q).toArray⟩ : ByteArray) = x := ⟨_, rfl⟩
          obtain ⟨vb, hvb⟩ : ∃ x : ByteArray, (⟨(Hd.behind q).toArray⟩ : ByteArray) = x := ⟨_, rfl⟩
          have haqd : aq.data.toList = Hd.ahead q := by rw [← haq]
          have hvbd : vb.data.toList = Hd.behind q := by rw [← hvb]
          have haqs : aq.size ≤ 6000 := by rw [← Oct.length_bytes, haqd]; omega
          have hvbs : vb.size = (Hd.behind q).length := by rw [← Oct.length_bytes, hvbd]
          have HLk := Lib.hid (fun W => refLower_calls aq W (by omega))
          have HLv := Lib.hid (fun W => refLower_calls vb W (by omega))
          unfold NewText at HLk HLv
          rw [haqd] at HLk
          rw [hvbd] at HLv
          rw [haq] at HAq
          rw [hvb] at HBq
          obtain ⟨kb, hkb⟩ : ∃ x : ByteArray, (⟨((Hd.ahead q).map Oct.low).toArray⟩ : ByteArray) = x := ⟨_, rfl⟩
          obtain ⟨lb, hlb⟩ : ∃ x : ByteArray, (⟨((Hd.behind q).map Oct.low).toArray⟩ : ByteArray) = x := ⟨_, rfl⟩
          have hkbd : kb.data.toList = (Hd.ahead q).map Oct.low := by rw [← hkb]
          have hlbd : lb.data.toList = (Hd.behind q).map Oct.low := by rw [← hlb]
          rw [hkb] at HLk
          rw [hlb] at HLv
          have hc0 := (K.below.cell (p := ⟨gl, k, none⟩) hgl).trans hcellq
          clear hdk hql hQ hQd haq hvb hkb haqd m1 m2 hq
          go_wp2_with fail
          refine (HAq.out _).mono ?_
          rintro e w12 ⟨rfl, rfl⟩
          go_wp2_with fail
          refine (HLk.out _).mono ?_
          rintro e w13 ⟨rfl, d13⟩
          have K13 := K.on d13
          have hc1 := (K13.below.cell (p := ⟨gl, k, none⟩) hgl).trans hcellq
          clear hc0 K d13
          go_wp2_with fail
          refine (HBq.out _).mono ?_
          rintro e w14 ⟨rfl, rfl⟩
          go_wp2_with fail
          refine (HLv.out _).mono ?_
          rintro e w15 ⟨rfl, d15⟩
          have K15 := K13.on d15
          clear hc1 K13 d15 HAq HBq HLk HLv hcellq
          by_cases hlg : 1024 < vb.size
          · have hlg1 : (1024 : Int) < (vb.size : Int) := by omega
            rw [Hd.attr_long T (by rw [← hvbs]; exact hlg)] at hT
            have HTT := Lib.hid hT
            clear hT hlbd hvbd hvbs hkbd
            go_wp2
            go_roundw
            case rel => exact ⟨k + 1, T, by omega, by omega, by go_num, HTT.out, K15⟩
            case measure => simp [intOf]; omega
          · have hlg1 : ¬ (1024 : Int) < (vb.size : Int) := by omega
            have hvl : (Hd.behind q).length ≤ 1024 := by rw [← hvbs]; omega
            rw [Hd.attr_put, ← hkbd] at hT
            have HTT := Lib.hid hT
            clear hT
            generalize Hd.behind q = vl at *
            obtain ⟨b0, hb0⟩ : ∃ b, decide (kb.data.toList = Hd.kExp) = b := ⟨_, rfl⟩
            have e0 : (kb.toList == [101, 120, 112, 105, 114, 101, 115]) = b0 := by rw [text_is, ← hb0]; rfl
            have HB0 := Lib.hid hb0.symm
            clear hb0
            obtain ⟨b1, hb1⟩ : ∃ b, decide (kb.data.toList = Hd.kAge) = b := ⟨_, rfl⟩
            have e1 : (kb.toList == [109, 97, 120, 45, 97, 103, 101]) = b1 := by rw [text_is, ← hb1]; rfl
            have HB1 := Lib.hid hb1.symm
            clear hb1
            obtain ⟨b2, hb2⟩ : ∃ b, decide (kb.data.toList = Hd.kDom) = b := ⟨_, rfl⟩
            have e2 : (kb.toList == [100, 111, 109, 97, 105, 110]) = b2 := by rw [text_is, ← hb2]; rfl
            have HB2 := Lib.hid hb2.symm
            clear hb2
            obtain ⟨b3, hb3⟩ : ∃ b, decide (kb.data.toList = Hd.kPath) = b := ⟨_, rfl⟩
            have e3 : (kb.toList == [112, 97, 116, 104]) = b3 := by rw [text_is, ← hb3]; rfl
            have HB3 := Lib.hid hb3.symm
            clear hb3
            obtain ⟨b4, hb4⟩ : ∃ b, decide (kb.data.toList = Hd.kSec) = b := ⟨_, rfl⟩
            have e4 : (kb.toList == [115, 101, 99, 117, 114, 101]) = b4 := by rw [text_is, ← hb4]; rfl
            have HB4 := Lib.hid hb4.symm
            clear hb4
            obtain ⟨b5, hb5⟩ : ∃ b, decide (kb.data.toList = Hd.kOnly) = b := ⟨_, rfl⟩
            have e5 : (kb.toList == [104, 116, 116, 112, 111, 110, 108, 121]) = b5 := by rw [text_is, ← hb5]; rfl
            have HB5 := Lib.hid hb5.symm
            clear hb5
            obtain ⟨b6, hb6⟩ : ∃ b, decide (kb.data.toList = Hd.kSite) = b := ⟨_, rfl⟩
            have e6 : (kb.toList == [115, 97, 109, 101, 115, 105, 116, 101]) = b6 := by rw [text_is, ← hb6]; rfl
            have HB6 := Lib.hid hb6.symm
            clear hb6
            obtain ⟨T1, HD, K15⟩ : ∃ t, Hid (Hd.Done 0 T kb.data.toList vl t) ∧ KeptH w1.heap.size t w1 w15 := ⟨T, Lib.hid (Hd.done_start _ _ _), K15⟩
            have HF : Hid (∀ t, t = Hd.put T kb.data.toList vl → (ps.drop (k + 1)).foldl Hd.attr t = res) := Lib.hid (fun t e => by rw [e]; exact HTT.out)
            clear HTT
            go_upto_if 111 with fail
            go_cut [] (fun wx => ∃ t, Hid (Hd.Done 1 T kb.data.toList vl t) ∧ KeptH w1.heap.size t w1 wx)
            case first => as_aux_lemma =>
              cases b0 with
              | false =>
                have hK := of_decide_eq_false HB0.out.symm
                go_wp2
                go_meet
                exact ⟨_, Lib.hid (Hd.done_skip (j := 0) rfl hK HD.out), K15⟩
              | true =>
                have hK := of_decide_eq_true HB0.out.symm
                have hT1 := Hd.done_hit (j := 0) rfl hK HD.out
                rw [hT1] at K15
                clear hT1 HD
                have C1 := Lib.hid (fun W => refCookie_calls vb W (by omega))
                unfold MomPost at C1
                rw [hvbd] at C1
                obtain ⟨⟨mo, mb⟩, hmo⟩ : ∃ o, Dt.cookie vl = o := ⟨_, rfl⟩
                rw [hmo] at C1
                have P1 := Lib.hid (fun hc => @Hd.put_exp_yes T kb.data.toList vl mo hvl hK (hmo.trans hc))
                have P2 := Lib.hid (fun hc => @Hd.put_exp_no T kb.data.toList vl mo hvl hK (hmo.trans hc))
                clear hlbd hvbd hvbs hkbd hmo
                go_wp2_with fail
                refine (C1.out _).mono ?_
                rintro e w16 ⟨rfl, d16⟩
                have K16 := K15.on d16
                cases mb with
                | true =>
                  have HT2 := (P1.out rfl).symm
                  have K17 := K16.two (head_exp T mo)
                  have q4 := K16.cell 4
                  have f4 := K16.free 4
                  have q5 := K16.cell 5
                  have f5 := K16.free 5
                  go_wp2
                  go_meet
                  exact ⟨_, Lib.hid (Hd.done_put (j := 0) rfl hK HT2), K17⟩
                | false =>
                  have HT2 := (P2.out rfl).symm
                  go_wp2
                  go_meet
                  exact ⟨_, Lib.hid (Hd.done_put (j := 0) rfl hK HT2), K16⟩
            case rest =>
            clear HD K15 e0
            obtain ⟨T1, HD, K15⟩ := hcut
            go_upto_if 122 with fail
            go_cut [] (fun wx => ∃ t, Hid (Hd.Done 2 T kb.data.toList vl t) ∧ KeptH w1.heap.size t w1 wx)
            case first => as_aux_lemma =>
              cases b1 with
              | false =>
                have hK := of_decide_eq_false HB1.out.symm
                go_wp2
                go_meet
                exact ⟨_, Lib.hid (Hd.done_skip (j := 1) rfl hK HD.out), K15⟩
              | true =>
                have hK := of_decide_eq_true HB1.out.symm
                have hT1 := Hd.done_hit (j := 1) rfl hK HD.out
                rw [hT1] at K15
                clear hT1 HD
                have C1 := Lib.hid (fun W => refAge_calls vb W (by omega))
                unfold RefAgePost at C1
                rw [hvbd] at C1
                obtain ⟨ag, hag⟩ : ∃ o, Hd.ageOf vl = o := ⟨_, rfl⟩
                rw [hag] at C1
                have P1 := Lib.hid (fun n hc => @Hd.put_age_yes T kb.data.toList vl n hvl hK (hag.trans hc))
                have P2 := Lib.hid (fun hc => @Hd.put_age_no T kb.data.toList vl hvl hK (hag.trans hc))
                clear hlbd hvbd hvbs hkbd hag
                go_wp2_with fail
                refine (C1.out _).mono ?_
                rintro e w16 ⟨rfl, rfl⟩
                cases ag with
                | some n =>
                  have HT2 := (P1.out n rfl).symm
                  have K17 := K15.two (head_age T n)
                  have q4 := K15.cell 6
                  have f4 := K15.free 6
                  have q5 := K15.cell 7
                  have f5 := K15.free 7
                  go_wp2
                  go_meet
                  exact ⟨_, Lib.hid (Hd.done_put (j := 1) rfl hK HT2), K17⟩
                | none =>
                  have HT2 := (P2.out rfl).symm
                  go_wp2
                  go_meet
                  exact ⟨_, Lib.hid (Hd.done_put (j := 1) rfl hK HT2), K15⟩
            case rest =>
            clear HD K15 e1
            obtain ⟨T1, HD, K15⟩ := hcut
            go_upto_if 133 with fail
            go_cut [] (fun wx => ∃ t, Hid (Hd.Done 3 T kb.data.toList vl t) ∧ KeptH w1.heap.size t w1 wx)
            case first => as_aux_lemma =>
              cases b2 with
              | false =>
                have hK := of_decide_eq_false HB2.out.symm
                go_wp2
                go_meet
                exact ⟨_, Lib.hid (Hd.done_skip (j := 2) rfl hK HD.out), K15⟩
              | true =>
                have hK := of_decide_eq_true HB2.out.symm
                have hT1 := Hd.done_hit (j := 2) rfl hK HD.out
                rw [hT1] at K15
                clear hT1 HD
                have HP := Hd.put_dom_low (h := T) hvl hK
                have K16 := K15.one (i := 2) (u := .string lb) (h' := { T with domain := vl.map Oct.low }) (by rw [← hlb]; rfl)
                have q2 := K15.cell 2
                have f2 := K15.free 2
                have q3 := K16.cell 2
                have f3 := K16.free 2
                by_cases h0 : 0 < lb.size
                · have h0i : (0 : Int) < (lb.size : Int) := by omega
                  have h1i : (1 : Int) ≤ (lb.size : Int) := by omega
                  have hh := Oct.head_bytes lb h0
                  rw [hlbd] at hh
                  by_cases h46 : lb[0] = 46
                  · have e9 : ((lb[0].toNat : Int) == 46) = true := by rw [h46]; rfl
                    have eu : Hd.undot (vl.map Oct.low) = (vl.map Oct.low).drop 1 := by unfold Hd.undot; rw [if_pos (by rw [hh, h46])]
                    rw [eu] at HP
                    have HT2 := Lib.hid HP.symm
                    have ex : lb.extract 1 lb.size = ⟨((vl.map Oct.low).drop 1).toArray⟩ := by rw [extract_drop, hlbd]
                    have K17 := K16.one (i := 2) (u := .string (lb.extract 1 lb.size)) (h' := { T with domain := (vl.map Oct.low).drop 1 }) (by rw [ex]; rfl)
                    clear hlbd hvbd hvbs hkbd hh h46 eu ex HP
                    go_wp2
                    go_meet
                    exact ⟨_, Lib.hid (Hd.done_put (j := 2) rfl hK HT2), K17⟩
                  · have e9 : ((lb[0].toNat : Int) == 46) = false := by
                      rw [beq_eq_false_iff_ne]
                      intro e
                      exact h46 (Oct.eq_of_toNat (by show lb[0].toNat = 46; omega))
                    have eu : Hd.undot (vl.map Oct.low) = vl.map Oct.low := by unfold Hd.undot; rw [if_neg (by rw [hh]; intro e; exact h46 (Option.some.inj e))]
                    rw [eu] at HP
                    have HT2 := Lib.hid HP.symm
                    clear hlbd hvbd hvbs hkbd hh h46 eu HP
                    go_wp2
                    go_meet
                    exact ⟨_, Lib.hid (Hd.done_put (j := 2) rfl hK HT2), K16⟩
                · have h0i : ¬ (0 : Int) < (lb.size : Int) := by omega
                  have en : vl.map Oct.low = [] := by rw [← hlbd]; exact (Oct.nil_size lb).2 (by omega)
                  have eu : Hd.undot (vl.map Oct.low) = vl.map Oct.low := by rw [en]; rfl
                  rw [eu] at HP
                  have HT2 := Lib.hid HP.symm
                  clear hlbd hvbd hvbs hkbd en eu HP
                  go_wp2
                  go_meet
                  exact ⟨_, Lib.hid (Hd.done_put (j := 2) rfl hK HT2), K16⟩
            case rest =>
            clear HD K15 e2
            obtain ⟨T1, HD, K15⟩ := hcut
            go_upto_if 148 with fail
            go_cut [] (fun wx => ∃ t, Hid (Hd.Done 4 T kb.data.toList vl t) ∧ KeptH w1.heap.size t w1 wx)
            case first => as_aux_lemma =>
              cases b3 with
              | false =>
                have hK := of_decide_eq_false HB3.out.symm
                go_wp2
                go_meet
                exact ⟨_, Lib.hid (Hd.done_skip (j := 3) rfl hK HD.out), K15⟩
              | true =>
                have hK := of_decide_eq_true HB3.out.symm
                have hT1 := Hd.done_hit (j := 3) rfl hK HD.out
                rw [hT1] at K15
                clear hT1 HD
                have HP := Hd.put_path_is (h := T) hvl hK
                have K16 := K15.one (i := 3) (u := .string vb) (h' := { T with path := vl }) (by rw [← hvbd]; unfold headA strV; rw [mk_bytes]; rfl)
                have q2 := K15.cell 3
                have f2 := K15.free 3
                have q3 := K16.cell 3
                have f3 := K16.free 3
                by_cases h0 : 0 < vb.size
                · have h0i : (0 : Int) < (vb.size : Int) := by omega
                  have hne : vb.toList.isEmpty = false := by
                    rw [Oct.bytes_data, Bool.eq_false_iff]
                    intro h
                    have := (Oct.nil_size vb).1 (List.isEmpty_iff.1 h)
                    omega
                  have hh := Oct.head_bytes vb h0
                  rw [hvbd] at hh
                  by_cases h47 : vb[0] = 47
                  · have e9 : ((vb[0].toNat : Int) != 47) = false := by rw [h47]; rfl
                    rw [if_pos (by rw [hh, h47])] at HP
                    have HT2 := Lib.hid HP.symm
                    clear hlbd hvbd hvbs hkbd hh h47 HP
                    go_wp2
                    go_meet
                    exact ⟨_, Lib.hid (Hd.done_put (j := 3) rfl hK HT2), K16⟩
                  · have e9 : ((vb[0].toNat : Int) != 47) = true := by
                      rw [bne_iff_ne]
                      intro e
                      exact h47 (Oct.eq_of_toNat (by show vb[0].toNat = 47; omega))
                    rw [if_neg (by rw [hh]; intro e; exact h47 (Option.some.inj e))] at HP
                    have HT2 := Lib.hid HP.symm
                    have K17 := K16.one (i := 3) (u := .string ⟨#[]⟩) (h' := { T with path := [] }) rfl
                    clear hlbd hvbd hvbs hkbd hh h47 HP
                    go_wp2
                    go_meet
                    exact ⟨_, Lib.hid (Hd.done_put (j := 3) rfl hK HT2), K17⟩
                · have en : vl = [] := by rw [← hvbd]; exact (Oct.nil_size vb).2 (by omega)
                  have hne : vb.toList.isEmpty = true := by rw [Oct.bytes_data, hvbd, en]; rfl
                  rw [if_neg (by rw [en]; intro e; cases e)] at HP
                  rw [en] at K16
                  have HT2 := Lib.hid HP.symm
                  clear hlbd hvbd hvbs hkbd en HP
                  go_wp2
                  go_meet
                  exact ⟨_, Lib.hid (Hd.done_put (j := 3) rfl hK HT2), K16⟩
            case rest =>
            clear HD K15 e3
            obtain ⟨T1, HD, K15⟩ := hcut
            go_upto_if 160 with fail
            go_cut [] (fun wx => ∃ t, Hid (Hd.Done 5 T kb.data.toList vl t) ∧ KeptH w1.heap.size t w1 wx)
            case first => as_aux_lemma =>
              cases b4 with
              | false =>
                have hK := of_decide_eq_false HB4.out.symm
                go_wp2
                go_meet
                exact ⟨_, Lib.hid (Hd.done_skip (j := 4) rfl hK HD.out), K15⟩
              | true =>
                have hK := of_decide_eq_true HB4.out.symm
                have hT1 := Hd.done_hit (j := 4) rfl hK HD.out
                rw [hT1] at K15
                clear hT1 HD
                have HT2 := Lib.hid (Hd.put_sec_is (h := T) hvl hK).symm
                have K16 := K15.one (head_sec T)
                have q2 := K15.cell 8
                have f2 := K15.free 8
                clear hlbd hvbd hvbs hkbd
                go_wp2
                go_meet
                exact ⟨_, Lib.hid (Hd.done_put (j := 4) rfl hK HT2), K16⟩
            case rest =>
            clear HD K15 e4
            obtain ⟨T1, HD, K15⟩ := hcut
            go_upto_if 163 with fail
            go_cut [] (fun wx => ∃ t, Hid (Hd.Done 6 T kb.data.toList vl t) ∧ KeptH w1.heap.size t w1 wx)
            case first => as_aux_lemma =>
              cases b5 with
              | false =>
                have hK := of_decide_eq_false HB5.out.symm
                go_wp2
                go_meet
                exact ⟨_, Lib.hid (Hd.done_skip (j := 5) rfl hK HD.out), K15⟩
              | true =>
                have hK := of_decide_eq_true HB5.out.symm
                have hT1 := Hd.done_hit (j := 5) rfl hK HD.out
                rw [hT1] at K15
                clear hT1 HD
                have HT2 := Lib.hid (Hd.put_only_is (h := T) hvl hK).symm
                have K16 := K15.one (head_only T)
                have q2 := K15.cell 9
                have f2 := K15.free 9
                clear hlbd hvbd hvbs hkbd
                go_wp2
                go_meet
                exact ⟨_, Lib.hid (Hd.done_put (j := 5) rfl hK HT2), K16⟩
            case rest =>
            clear HD K15 e5
            obtain ⟨T1, HD, K15⟩ := hcut
            cases b6 with
            | false =>
              have hK := of_decide_eq_false HB6.out.symm
              have HT2 := Lib.hid (Hd.done_end (Hd.done_skip (j := 6) rfl hK HD.out))
              clear HD hlbd hvbd hvbs hkbd hlb
              go_wp2
              go_roundw
              case rel => exact ⟨k + 1, _, by omega, by omega, by go_num, HF.out _ HT2, K15⟩
              case measure => simp [intOf]; omega
            | true =>
              have hK := of_decide_eq_true HB6.out.symm
              have hT1 := Hd.done_hit (j := 6) rfl hK HD.out
              rw [hT1] at K15
              clear hT1 HD
              have HP := Hd.put_site_is (h := T) hvl hK
              have K16 := K15.one (i := 10) (u := .int .i64 0) (h' := { T with same := 0 }) rfl
              have q2 := K15.cell 10
              have f2 := K15.free 10
              have q3 := K16.cell 10
              have f3 := K16.free 10
              have hsm : Hd.sameOf (vl.map Oct.low) = if vl.map Oct.low = Hd.sNone then 1 else if vl.map Oct.low = Hd.sLax then 2 else if vl.map Oct.low = Hd.sStrict then 3 else 0 := rfl
              rw [hsm] at HP
              have t1 := text_is lb [110, 111, 110, 101]
              have t2 := text_is lb [108, 97, 120]
              have t3 := text_is lb [115, 116, 114, 105, 99, 116]
              rw [hlbd] at t1 t2 t3
              clear hsm hlb hlbd hvbd hvbs hkbd
              by_cases hw0 : vl.map Oct.low = Hd.sNone
              · rw [if_pos hw0] at HP
                have HT2 := Lib.hid HP.symm
                rw [hw0] at t1 t2 t3
                have u1 : (lb.toList == [110, 111, 110, 101]) = true := by rw [t1]; decide
                have u2 : (lb.toList == [108, 97, 120]) = false := by rw [t2]; decide
                have u3 : (lb.toList == [115, 116, 114, 105, 99, 116]) = false := by rw [t3]; decide
                clear t1 t2 t3 hw0 HP
                have K17 := K16.one (i := 10) (u := .int .i64 1) (h' := { T with same := 1 }) rfl
                go_wp2
                go_roundw
                case rel => exact ⟨k + 1, _, by omega, by omega, by go_num, HF.out _ HT2, K17⟩
                case measure => simp [intOf]; omega
              · have hn0 := hw0
                by_cases hw1 : vl.map Oct.low = Hd.sLax
                · rw [if_neg hn0, if_pos hw1] at HP
                  have HT2 := Lib.hid HP.symm
                  rw [hw1] at t1 t2 t3
                  have u1 : (lb.toList == [110, 111, 110, 101]) = false := by rw [t1]; decide
                  have u2 : (lb.toList == [108, 97, 120]) = true := by rw [t2]; decide
                  have u3 : (lb.toList == [115, 116, 114, 105, 99, 116]) = false := by rw [t3]; decide
                  clear t1 t2 t3 hw1 HP
                  have K17 := K16.one (i := 10) (u := .int .i64 2) (h' := { T with same := 2 }) rfl
                  go_wp2
                  go_roundw
                  case rel => exact ⟨k + 1, _, by omega, by omega, by go_num, HF.out _ HT2, K17⟩
                  case measure => simp [intOf]; omega
                · have hn1 := hw1
                  by_cases hw2 : vl.map Oct.low = Hd.sStrict
                  · rw [if_neg hn0, if_neg hn1, if_pos hw2] at HP
                    have HT2 := Lib.hid HP.symm
                    rw [hw2] at t1 t2 t3
                    have u1 : (lb.toList == [110, 111, 110, 101]) = false := by rw [t1]; decide
                    have u2 : (lb.toList == [108, 97, 120]) = false := by rw [t2]; decide
                    have u3 : (lb.toList == [115, 116, 114, 105, 99, 116]) = true := by rw [t3]; decide
                    clear t1 t2 t3 hw2 HP
                    have K17 := K16.one (i := 10) (u := .int .i64 3) (h' := { T with same := 3 }) rfl
                    go_wp2
                    go_roundw
                    case rel => exact ⟨k + 1, _, by omega, by omega, by go_num, HF.out _ HT2, K17⟩
                    case measure => simp [intOf]; omega
                  · have hn2 := hw2
                    rw [if_neg hn0, if_neg hn1, if_neg hn2] at HP
                    have HT2 := Lib.hid HP.symm
                    have u1 : (lb.toList == [110, 111, 110, 101]) = false := by rw [t1]; exact decide_eq_false hn0
                    have u2 : (lb.toList == [108, 97, 120]) = false := by rw [t2]; exact decide_eq_false hn1
                    have u3 : (lb.toList == [115, 116, 114, 105, 99, 116]) = false := by rw [t3]; exact decide_eq_false hn2
                    clear t1 t2 t3 hn0 hn1 hn2 hw0 hw1 hw2 HP
                    go_wp2
                    go_roundw
                    case rel => exact ⟨k + 1, _, by omega, by omega, by go_num, HF.out _ HT2, K16⟩
                    case measure => simp [intOf]; omega
        · have hki : ¬ (k : Int) < (ps.length : Int) := by omega
          rw [List.drop_eq_nil_of_le (by omega), List.foldl_nil] at hT
          subst hT
          have R5 := K.row
          have R6 := R1.below K.below hltR
          have B6 := B1.trans (K.below.mono HG.out)
          go_wp2_with (first
            | (refine at_slot 177 rfl ?_; refine load_row rfl 24 _ rfl w1.heap.size rfl R5 Tryz.underlying24 rfl (by rw [HZ.out]; exact infoHead) ?_)
            | (refine wpList_store_row rfl 24 _ _ rfl w.heap.size (headA T) rfl rfl 24 _ R6 (by rw [HZ.out]; exact infoHead) rfl (headA_one _) ?_))
          exact bodyPost_ret (v := .tuple #[.agg (headA T), .int .i64 0]) (results_cell_two rfl _ _ w.heap.size _ _ _ rfl _ rfl (R6.whole _) Tryz.underlying24 rfl (by rw [HZ.out]; exact infoHead)) rfl (HQ.out _ (below_setRow B6 (Nat.le_refl _) _))
end Go.Proofs.YtpimaobejjpffaaGreatDoor
