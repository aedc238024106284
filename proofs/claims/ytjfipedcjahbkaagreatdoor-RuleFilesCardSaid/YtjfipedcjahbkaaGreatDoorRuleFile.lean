/- The walk of rule's File. -/
import Derived.Test.YtjfipedcjahbkaaGreatDoorRuleLine
import Derived.Test.YtjfipedcjahbkaaGreatDoorLines
namespace Go.Proofs.YtjfipedcjahbkaaGreatDoor
open Go.RowKit Go.Maps
/-- A value is built of three parts. -/
theorem build_three {P : Program} {ops : Array Oper} {rest : List Oper} {o : Oper} {a : Act} {w : World} {Q : Exit → Act → World → Prop} (hg : o.guard = none) (t : TypeId) (i0 i1 i2 : Nat) (x0 x1 x2 : Operand) (ho : o.op = .build t #[(i0, x0), (i1, x1), (i2, x2)])
    (u0 u1 u2 : Value) (h0 : a.eval x0 = u0) (h1 : a.eval x1 = u1) (h2 : a.eval x2 = u2) (cells : Array Value)
    (hc : P.built t [(i0, u0), (i1, u1), (i2, u2)] = some cells) (h : wpList P ops Q rest (a.put o.dst (.agg cells)) w) : wpList P ops Q (o :: rest) a w := by
  have e : ((#[(i0, x0), (i1, x1), (i2, x2)] : Array (Nat × Operand)).map fun (i, x) => (i, a.eval x)).toList = [(i0, u0), (i1, u1), (i2, u2)] := by simp [h0, h1, h2]
  refine wpList_build hg t #[(i0, x0), (i1, x1), (i2, x2)] ho ?_ ?_
  · rw [e, hc]; rfl
  · rw [e, hc]; exact h
namespace Ru
theorem mem_total {p : List UInt8} : ∀ {ls : List (List UInt8)}, p ∈ ls → p.length + 1 ≤ total ls
  | [], h => by cases h
  | l :: r, h => by
    rw [total]
    rcases List.mem_cons.1 h with rfl | h
    · omega
    · have := mem_total h; omega
theorem lines_small {s p : List UInt8} (h : p ∈ Oct.lines s) : p.length ≤ s.length := by
  have := mem_total h
  have := total_lines s
  omega
theorem lines_few (s : List UInt8) : (Oct.lines s).length ≤ s.length + 1 := by
  have : ∀ ls : List (List UInt8), ls.length ≤ total ls := by
    intro ls
    induction ls with
    | nil => exact Nat.le_refl _
    | cons l r ih => rw [total, List.length_cons]; omega
  have := this (Oct.lines s)
  have := total_lines s
  omega
theorem can_ok {r : Rule} (h : Can r) : (Lit.int .i64 r.kind).wf = true ∧ r.name.length ≤ maxLen := by
  refine ⟨?_, by have := h.good.few; unfold maxLen; omega⟩
  rcases h.kind with e | e | e <;> rw [e] <;> decide
end Ru
theorem has_none (w : World) : HasRules w (.slice none 0 0) [] := ⟨none, 0, rfl, fun h => absurd h (by simp)⟩
theorem new_rules {o : Ru.Fault × List Ru.Rule} {w w' : World} {f : Ru.Fault} {rs : List Ru.Rule} {v : Value} (h : o = (f, rs)) (hv : HasRules w' v rs) (hb : Below w.heap.size w w') : NewRules o w (.returned (.tuple #[v, .agg (faultA f)])) w' := by
  subst h
  exact ⟨v, rfl, hv, hb⟩
/-- Behind k lines: the rules that stand, in a row and in a set; what remains. -/
structure FileAt (w : World) (ls : List (List UInt8)) (res : Ru.Fault × List Ru.Rule) (g3 g5 g n cap BL B2 : Nat) (acc : List Ru.Rule) (k : Nat) (v : Value) (wr : World) : Prop where
  all : Ru.go (ls.drop k) k acc = res
  rules : Ru.Rules acc
  own : wr.ownsRow B2 24 2 v acc.length (rulesL acc)
  set : RuleSet wr g5 acc
  fault : Row wr g3 34 (faultA Ru.fine)
  lines : wr.ownsRow BL 9 1 (.slice (some ⟨g, 0, none⟩) n cap) n (ls.map strV)
  below : Below w.heap.size w wr
  size : B2 ≤ wr.heap.size
theorem FileAt.stays {w : World} {ls : List (List UInt8)} {res : Ru.Fault × List Ru.Rule} {g3 g5 g n cap BL B2 : Nat} {acc : List Ru.Rule} {k : Nat} {v : Value} {wr w' : World} (h : FileAt w ls res g3 g5 g n cap BL B2 acc k v wr) (hb : Below wr.heap.size wr w') : FileAt w ls res g3 g5 g n cap BL B2 acc k v w' :=
  ⟨h.all, h.rules, own_keep2 h.own hb, h.set.stays hb, h.fault.stays hb, own_keep h.lines hb, h.below.trans (hb.mono h.below.size), Nat.le_trans h.size hb.size⟩
theorem row_grown {w w' : World} {g b : Nat} {t : TypeId} {cs : Array Value} (h : Row w g t cs) (hg : w.grownBy w' (some b)) (hne : b < g) : Row w' g t cs :=
  (hg.block g h.lt (by intro e; have : g = b := Option.some.inj e; omega)).trans h
theorem own_apart {w w' : World} {B b n s : Nat} {t : TypeId} {v : Value} {xs : List Value} (h : w.ownsRow B t s v n xs) (hg : w.grownBy w' (some b)) (hb : b < B) : w'.ownsRow B t s v n xs :=
  h.kept hg (.inr fun e => by have := (h.lt b e).1; omega)
theorem own_setRow {w : World} {B b n s : Nat} {t : TypeId} {v : Value} {xs : List Value} (h : w.ownsRow B t s v n xs) (hb : b < B) (cs : Array Value) : (w.setRow b cs).ownsRow B t s v n xs :=
  h.kept (row := some b) ⟨rfl, rfl, rfl, by rw [size_setRow]; exact Nat.le_refl _, fun i _ hn => setRow_other w b i cs (by intro e; exact hn (by rw [e]))⟩ (.inr fun e => by have := (h.lt b e).1; omega)
theorem cell_two_new (w : World) (a b : Value) (t : TypeId) : ∀ j u, [a, b][j]? = some u → (w.alloc (.cells #[a, b] t)).cell? ((⟨w.heap.size, 0, none⟩ : Addr).add j) = some u := by
  intro j u h
  rw [own_add, (Row.new w t #[a, b]).cell]
  rw [← h]
  match j with
  | 0 => rfl
  | 1 => rfl
  | j + 2 => rfl
theorem FileAt.add {w : World} {ls : List (List UInt8)} {res : Ru.Fault × List Ru.Rule} {g3 g5 g n cap BL B2 : Nat} {acc : List Ru.Rule} {k : Nat} {v v' : Value} {w5 w6 w8 : World} {l : List UInt8} {r : Ru.Rule} {o : Obj} (h : FileAt w ls res g3 g5 g n cap BL B2 acc k v w5)
    (h35 : g3 < g5) (h5g : g5 < g) (hg2 : g < B2) (hw5 : w.heap.size ≤ g5) (hl : ls[k]? = some l) (hw : Ru.why acc l = 0) (hm : Ru.more acc l = acc ++ [r]) (hok : RuleOk r)
    (hset : w6.ownsMap Tryz.prog 24 (unitElem (H := Unit)) g5 (acc.length + 1) ((setD acc).put (ruleK r) (.agg []))) (hg6 : w5.grownBy w6 (some g5))
    (hown : w8.ownsRow B2 24 2 v' (acc.length + 1) (rulesL acc ++ [.int .i64 r.kind, strV r.name])) (hg8 : (w6.alloc o).grownBy w8 v.ownBlock) : FileAt w ls res g3 g5 g n cap BL B2 (acc ++ [r]) (k + 1) v' w8 := by
  have hall := Ru.go_on h.all hl hw
  have hru := Ru.more_rules hw h.rules
  rw [hm] at hall hru
  have hs6 := hg6.size
  have hs7 : w6.heap.size < (w6.alloc o).heap.size := by simp
  have hs8 := hg8.size
  have hbelow5 := h.below.size
  have hb2 := h.size
  have hlines := (((h.lines.kept hg6 (.inr (by intro e; have : g = g5 := Option.some.inj e; omega))).alloc o).kept hg8)
  have hvb : ∀ b, v.ownBlock = some b → B2 ≤ b ∧ b < w5.heap.size := h.own.lt
  have hglt : g < w5.heap.size := (h.lines.lt g rfl).2
  have hfault := h.fault.lt
  have hno : ∀ b, b < B2 → some b ≠ v.ownBlock := fun b hb e => by have := (hvb b e.symm).1; omega
  refine ⟨hall, hru, ?_, ?_, ?_, ?_, ?_, by omega⟩
  · rw [List.length_append, rulesL_snoc]; exact hown
  · refine ⟨?_, ?_, hru.once⟩
    · rw [List.length_append, setD_snoc]
      exact (hset.alloc o).kept hg8 (hno g5 (by omega))
    · intro x hx
      rcases List.mem_append.1 hx with hx | hx
      · exact h.set.ok x hx
      · rw [List.mem_singleton] at hx; rw [hx]; exact hok
  · have e1 := (hg6.block g3 hfault (by intro e; have : g3 = g5 := Option.some.inj e; omega)).trans h.fault
    have e2 : Row (w6.alloc o) g3 34 (faultA Ru.fine) := Row.alloc e1 o
    exact (hg8.block g3 e2.lt (hno g3 (by omega))).trans e2
  · exact hlines (.inr (fun e => hno g hg2 e))
  · exact ((h.below.grown hg6 hbelow5 (fun b hb => by have : g5 = b := Option.some.inj hb; omega)).alloc (by omega) o).grown hg8 (by omega) (fun b hb => by have := (hvb b hb).1; omega)
set_option maxRecDepth 100000 in
set_option maxHeartbeats 8000000 in
theorem file_calls (s : ByteArray) (w : World) (hw : Std w) (hs : s.size ≤ 1048576) :
    Calls Tryz.prog 10 #[.string s] w (NewRules (Ru.file s.data.toList) w) := by
  have z0 := zeroRule
  have z1 := zeroFault
  have hmm := @run_makeMap Tryz.prog
  have HPost : Hid (∀ f rs v w', Ru.file s.data.toList = (f, rs) → HasRules w' v rs → Below w.heap.size w w' → NewRules (Ru.file s.data.toList) w (.returned (.tuple #[v, .agg (faultA f)])) w') := Lib.hid (fun f rs v w' h hv hb => new_rules h hv hb)
  generalize hpost : NewRules (Ru.file s.data.toList) w = post at *
  clear hpost
  by_cases hbig : 20000 < s.size
  · have HR : Hid (Ru.file s.data.toList = (⟨54, 1, 1⟩, [])) := Lib.hid (by unfold Ru.file; rw [if_pos (by rw [Oct.length_bytes]; exact hbig)])
    have hbig1 : (20000 : Int) < (s.size : Int) := by omega
    have HB := Lib.hid (built_fault 54 1 1)
    clear hbig
    have R0 := Row.new w 34 (faultA Ru.fine)
    have B0 := (Below.refl w.heap.size w).alloc (Nat.le_refl _) (.cells (faultA Ru.fine) 34)
    go_enter Tryz.func10, Tryz.ntmps10
    go_wp2_with (first
      | (refine at_slot 14 rfl ?_; refine build_three rfl 34 0 1 2 _ _ _ rfl _ _ _ rfl rfl rfl (faultA ⟨54, 1, 1⟩) HB.out ?_)
      | (refine wpList_store_row rfl 34 _ _ rfl w.heap.size (faultA ⟨54, 1, 1⟩) rfl rfl 34 _ R0 infoFault rfl (faultA_one _) ?_))
    exact bodyPost_ret (v := .tuple #[.slice none 0 0, .agg (faultA ⟨54, 1, 1⟩)]) (results_two_cell rfl _ _ w.heap.size _ _ _ rfl _ rfl (R0.whole _) Tryz.underlying34 rfl infoFault) rfl (HPost.out _ _ _ _ HR.out (has_none _) (below_setRow B0 (Nat.le_refl _) _))
  have hbig1 : ¬ (20000 : Int) < (s.size : Int) := by omega
  have HF : Hid (Ru.go ((Oct.lines s.data.toList).drop 0) 0 [] = Ru.file s.data.toList) := Lib.hid (by unfold Ru.file; rw [if_neg (by rw [Oct.length_bytes]; exact hbig), List.drop_zero])
  have HLN := Lib.hid (fun W => lines_calls s W (by omega))
  have hsm : ∀ p ∈ Oct.lines s.data.toList, p.length ≤ 20000 := fun p hp => by have := Ru.lines_small hp; rw [Oct.length_bytes] at this; omega
  have HSM := Lib.hid hsm
  have hfew := Ru.lines_few s.data.toList
  rw [Oct.length_bytes] at hfew
  clear hsm hbig
  generalize Ru.file s.data.toList = res at *
  generalize Oct.lines s.data.toList = ls at *
  obtain ⟨n, hn⟩ : ∃ n, ls.length = n := ⟨_, rfl⟩
  unfold NewTextsAt at HLN
  rw [hn] at HLN hfew
  have HN := Lib.hid hn
  clear hn
  obtain ⟨i0, hi, hz0, hz1, hz2⟩ := info_parts infoRuleZ
  go_enter Tryz.func10, Tryz.ntmps10
  go_wp2_with fail
  have R0 := Row.new w 34 (faultA Ru.fine)
  have B0 := (Below.refl w.heap.size w).alloc (Nat.le_refl _) (.cells (faultA Ru.fine) 34)
  have hg0 : (w.alloc (.cells (faultA Ru.fine) 34)).heap.size = w.heap.size + 1 := by simp
  generalize w.alloc (.cells (faultA Ru.fine) 34) = w0 at *
  have S0 := RuleSet.new w0
  have R1 := R0.alloc (.map #[] 0)
  have B1 := B0.alloc B0.size (.map #[] 0)
  rw [hg0] at S0
  have hlt1 := R1.lt
  go_wp2_with fail
  have h5 := S0.own.lt
  have hw1 := hw.below B1
  generalize w0.alloc (.map #[] 0) = w1 at *
  clear hg0 R0 B0
  refine (HLN.out _).mono ?_
  rintro e v1 ⟨g, cap, rfl, hown, d1⟩
  have hgl := hown.lt g rfl
  have hcap := own_cap hown
  have HS : Hid (FileAt w ls res w.heap.size (w.heap.size + 1) g n cap w1.heap.size v1.heap.size [] 0 (.slice none 0 0) v1) := Lib.hid ⟨HF.out, Ru.Rules.nil, World.ownsRow_nil _ _ _ _, S0.stays d1, R1.stays d1, hown, B1.trans (d1.mono B1.size), Nat.le_refl _⟩
  have hgB := hgl.2
  have h5g : w.heap.size + 1 < g := by omega
  generalize v1.heap.size = B2 at *
  generalize w1.heap.size = BL at *
  clear hown d1 S0 R1 B1 HF hlt1 HLN h5 hgl w0 hw1
  go_wp2_with fail
  go_loopw [4, 19] (fun v i wr => ∃ (k : Nat) (acc : List Ru.Rule), k ≤ n ∧ i = .int .i64 k ∧ FileAt w ls res w.heap.size (w.heap.size + 1) g n cap BL B2 acc k v wr) (fun _ i _ => n - (intOf i).toNat)
  case atStart => exact ⟨0, [], Nat.zero_le _, rfl, HS.out⟩
  case round =>
    obtain ⟨k, acc, hk, rfl, hat⟩ := hrel
    by_cases hlt : k < n
    · obtain ⟨l, hl⟩ : ∃ l, ls[k]? = some l := ⟨_, List.getElem?_eq_getElem (by rw [HN.out]; exact hlt)⟩
      obtain ⟨t, ht⟩ : ∃ t : ByteArray, t = ⟨l.toArray⟩ := ⟨_, rfl⟩
      have hcell := own_text hat.lines hl ht
      have htd : t.data.toList = l := by rw [ht]
      have hts : t.size ≤ 20000 := by
        have := HSM.out l (List.mem_of_getElem? hl)
        rw [← Oct.length_bytes t, htd]; exact this
      have HLI := Lib.hid (fun W h => line_calls t W h (by omega))
      have HCO := Lib.hid (fun W => column_calls t W (by omega))
      rw [htd] at HLI HCO
      unfold NewRule at HLI
      have HLk := Lib.hid hl
      have hwr := hw.below hat.below
      clear ht htd hl
      rcases Ru.line_cases l with ⟨r, h1, h2⟩ | h1 | h1
      · rw [h1] at HLI
        have hcan := Ru.rule_can h2
        have hok : RuleOk r := Ru.can_ok hcan
        have hwy : Ru.why acc l = Ru.whyNot acc r ∧ Ru.more acc l = acc ++ [r] := by unfold Ru.why Ru.more; rw [h1]; exact ⟨rfl, rfl⟩
        have HWN := Lib.hid (fun W hS => whyNot_calls acc r (w.heap.size + 1) W hS hok)
        have HK := Lib.hid (rule_key r hok)
        obtain ⟨u, hu⟩ : ∃ u : ByteArray, u = ⟨r.name.toArray⟩ := ⟨_, rfl⟩
        have hX : ruleA r = #[.int .i64 r.kind, .string u] := by rw [hu]; rfl
        have hus : strV r.name = .string u := by rw [hu]; rfl
        dsimp only at HLI
        rw [hX] at HLI HWN HK
        have HUS := Lib.hid hus
        have HWY := Lib.hid hwy
        have HOK := Lib.hid hok
        have hrk : ∃ rk, r.kind = rk := ⟨_, rfl⟩
        obtain ⟨rk, hrk⟩ := hrk
        rw [hrk] at HLI HWN HK
        have HRK := Lib.hid hrk
        clear h1 h2 hcan hX hus hu hok hwy hrk
        have HX1 := Lib.hid (show (#[Value.int .i64 rk, .string u] : Array Value).all (·.oneCell') = true by simp [Value.oneCell'])
        by_cases hz : Ru.whyNot acc r = 0
        · rw [hz] at HWN
          have HY : Hid (Ru.why acc l = 0) := Lib.hid (HWY.out.1.trans hz)
          clear hz
          go_wp2_with fail
          refine (HLI.out _ hwr).mono ?_
          rintro e v2 ⟨rfl, d2⟩
          obtain ⟨T, U, C, _⟩ := lay_row 24 (ruleA Ru.zero) #[.int .i64 rk, .string u] d2 d2.size
          have hat2 := hat.stays C
          have hNE2 : w.heap.size + 1 < v2.heap.size := by have := hat.size; have := d2.size; omega
          clear hat d2 HLI hcell hwr
          go_wp2_with (first
            | (refine wpList_store_row rfl 24 _ _ rfl v2.heap.size #[.int .i64 rk, .string u] rfl rfl 24 _ T infoRule rfl HX1.out ?_)
            | (refine at_slot 31 rfl ?_; refine load_row rfl 24 _ rfl v2.heap.size rfl U Tryz.underlying24 rfl infoRule ?_))
          generalize (v2.alloc (.cells (ruleA Ru.zero) 24)).setRow v2.heap.size #[.int .i64 rk, .string u] = v3 at *
          have HNE := Lib.hid (show w.heap.size + 1 < v2.heap.size from hNE2)
          clear hNE2
          generalize v2.heap.size = g8 at *
          refine (HWN.out _ hat2.set).mono ?_
          rintro e v4 ⟨rfl, d4⟩
          have hat4 := hat2.stays d4
          have U4 := U.stays d4
          have HCM := Lib.hid (show acc.length < maxLen by have := hat4.rules.few; unfold maxLen; omega)
          have HCN := Lib.hid (show acc.length + 1 ≤ maxLen by have := hat4.rules.few; unfold maxLen; omega)
          have HCB := Lib.hid (show (acc.length + 1) * 24 ≤ 140737488355328 by have := hat4.rules.few; omega)
          have HBZ := Lib.hid hat4.size
          have HM := Lib.hid (show w.heap.size + 1 < B2 by omega)
          clear T U C hat2 d4
          go_wp2_with (first
            | (refine at_slot 44 rfl ?_; refine load_row rfl 24 _ rfl g8 rfl U4 Tryz.underlying24 rfl infoRule ?_)
            | (at_mapUpdate; refine wpList_mapUpdate_own _ rfl _ _ _ 52 rfl 24 56 ruleLaw Tryz.underlying52 (unitElem (H := Unit)) (w.heap.size + 1) acc.length _ rfl hat4.set.own HCM.out _ _ _ rfl rfl HK.out _ [] unitElem_mk ?_; intro w6 hset hg6; have U6 := row_grown U4 hg6 HNE.out; have O6 := own_apart hat4.own hg6 HM.out; have HB6 := Lib.hid (Nat.le_trans HBZ.out hg6.size))
            | (refine at_slot 47 rfl ?_; refine load_row rfl 24 _ rfl g8 rfl U6 Tryz.underlying24 rfl infoRule ?_)
            | (at_builtin; refine wpList_append_own _ rfl _ _ 32 rfl B2 24 i0 (.agg (ruleA Ru.zero)) 2 24 Tryz.underlying32 hi hz0 hz1 hz2 rfl (by decide) _ _ _ rfl (O6.alloc _) ⟨w6.heap.size, 0, none⟩ 1 1 [.int .i64 rk, .string u] rfl rfl (cell_two_new _ _ _ _) ?c1a HCN.out HCB.out ?c1d ?_))
          case c1a => intro y hy; simp at hy; rcases hy with rfl | rfl <;> rfl
          case c1d => have := HB6.out; simp; omega
          · intro v' w8 hown' hgrow _
            have hlast := hat4.add (o := .cells #[.int .i64 rk, .string u] 24) (r := r) (by omega) h5g hgB (by omega) HLk.out HY.out HWY.out.2 HOK.out hset hg6 (by rw [HRK.out, HUS.out]; exact hown') hgrow
            clear hown' hgrow hset hg6 U6 O6 hat4 U4
            go_wp2
            go_roundw
            case rel => exact ⟨k + 1, acc ++ [r], by omega, by go_num, hlast⟩
            case measure => simp [intOf]; omega
        · have HR := Lib.hid (Ru.go_off hat.all HLk.out (by rw [HWY.out.1]; exact hz))
          rw [HWY.out.1] at HR
          generalize Ru.whyNot acc r = y at *
          generalize Ru.col l = c at *
          have hy : (y != 0) = true := by simpa using hz
          have HB := Lib.hid (built_fault y ((k : Int) + 1) c)
          have HF1 := Lib.hid (faultA_one ⟨y, (k : Int) + 1, c⟩)
          have HR : Hid (res = (⟨y, (k : Int) + 1, c⟩, [])) := HR
          have HE := Lib.hid (HPost.out _ _ (.slice none 0 0) · HR.out (has_none _))
          have HIF : Hid ((Tryz.prog.info? 34).map (·.size) = some (faultA ⟨y, (k : Int) + 1, c⟩).size) := Lib.hid infoFault
          generalize faultA ⟨y, (k : Int) + 1, c⟩ = F at *
          have HIF2 : Hid ((faultA Ru.fine).size = F.size) := Lib.hid (by have := infoFault; rw [HIF.out] at this; exact (Option.some.inj this).symm)
          clear hz
          go_wp2_with fail
          refine (HLI.out _ hwr).mono ?_
          rintro e v2 ⟨rfl, d2⟩
          obtain ⟨T, U, C, _⟩ := lay_row 24 (ruleA Ru.zero) #[.int .i64 rk, .string u] d2 d2.size
          have hat2 := hat.stays C
          clear hat d2 HLI hcell hwr
          go_wp2_with (first
            | (refine wpList_store_row rfl 24 _ _ rfl v2.heap.size #[.int .i64 rk, .string u] rfl rfl 24 _ T infoRule rfl HX1.out ?_)
            | (refine at_slot 31 rfl ?_; refine load_row rfl 24 _ rfl v2.heap.size rfl U Tryz.underlying24 rfl infoRule ?_))
          generalize (v2.alloc (.cells (ruleA Ru.zero) 24)).setRow v2.heap.size #[.int .i64 rk, .string u] = v3 at *
          generalize v2.heap.size = g8 at *
          refine (HWN.out _ hat2.set).mono ?_
          rintro e v4 ⟨rfl, d4⟩
          have hat4 := hat2.stays d4
          clear T U C hat2 d4
          go_wp2_with fail
          refine (HCO.out _).mono ?_
          rintro e v5 ⟨rfl, d5⟩
          have hat5 := hat4.stays d5
          have hfr := hat5.fault
          have hbe := hat5.below
          clear hat4 hat5 d5
          go_wp2_with (first
            | (refine at_slot 41 rfl ?_; refine build_three rfl 34 0 1 2 _ _ _ rfl _ _ _ rfl rfl rfl F HB.out ?_)
            | (refine wpList_store_row rfl 34 _ _ rfl w.heap.size F rfl rfl 34 _ hfr HIF.out HIF2.out HF1.out ?_))
          exact bodyPost_ret (v := .tuple #[.slice none 0 0, .agg F]) (results_two_cell rfl _ _ w.heap.size _ _ _ rfl _ rfl (hfr.whole _) Tryz.underlying34 rfl HIF.out) rfl (HE.out _ (below_setRow hbe (Nat.le_refl _) _))
      · rw [h1] at HLI
        have hwy : Ru.why acc l = 0 ∧ Ru.more acc l = acc := by unfold Ru.why Ru.more; rw [h1]; exact ⟨rfl, rfl⟩
        have hgo := Ru.go_on hat.all HLk.out hwy.1
        have hrr := Ru.more_rules hwy.1 hat.rules
        rw [hwy.2] at hgo hrr
        have HGO := Lib.hid hgo
        dsimp only at HLI
        clear h1 hwy hgo hrr
        go_wp2_with fail
        refine (HLI.out _ hwr).mono ?_
        rintro e v2 ⟨rfl, d2⟩
        obtain ⟨T, U, C, _⟩ := lay_row 24 (ruleA Ru.zero) (ruleA Ru.zero) d2 d2.size
        have hat2 := hat.stays C
        clear hat d2 HLI hcell hwr
        go_wp2_with (first
          | (refine wpList_store_row rfl 24 _ _ rfl v2.heap.size (ruleA Ru.zero) rfl rfl 24 _ T infoRule rfl (ruleA_one _) ?_))
        go_roundw
        case rel => exact ⟨k + 1, acc, by omega, by go_num, ⟨HGO.out, hat2.rules, hat2.own, hat2.set, hat2.fault, hat2.lines, hat2.below, hat2.size⟩⟩
        case measure => simp [intOf]; omega
      · rw [h1] at HLI
        have hwy : Ru.why acc l = 51 := by unfold Ru.why; rw [h1]; rfl
        have HR := Lib.hid (Ru.go_off hat.all HLk.out (by rw [hwy]; decide))
        rw [hwy] at HR
        dsimp only at HLI
        clear h1 hwy
        generalize Ru.col l = c at *
        have HB := Lib.hid (built_fault 51 ((k : Int) + 1) c)
        have HF1 := Lib.hid (faultA_one ⟨51, (k : Int) + 1, c⟩)
        have HR : Hid (res = (⟨51, (k : Int) + 1, c⟩, [])) := HR
        have HE := Lib.hid (HPost.out _ _ (.slice none 0 0) · HR.out (has_none _))
        have HIF : Hid ((Tryz.prog.info? 34).map (·.size) = some (faultA ⟨51, (k : Int) + 1, c⟩).size) := Lib.hid infoFault
        generalize faultA ⟨51, (k : Int) + 1, c⟩ = F at *
        have HIF2 : Hid ((faultA Ru.fine).size = F.size) := Lib.hid (by have := infoFault; rw [HIF.out] at this; exact (Option.some.inj this).symm)
        go_wp2_with fail
        refine (HLI.out _ hwr).mono ?_
        rintro e v2 ⟨rfl, d2⟩
        obtain ⟨T, U, C, _⟩ := lay_row 24 (ruleA Ru.zero) (ruleA Ru.zero) d2 d2.size
        have hat2 := hat.stays C
        clear hat d2 HLI hcell hwr
        go_wp2_with (first
          | (refine wpList_store_row rfl 24 _ _ rfl v2.heap.size (ruleA Ru.zero) rfl rfl 24 _ T infoRule rfl (ruleA_one _) ?_))
        generalize (v2.alloc (.cells (ruleA Ru.zero) 24)).setRow v2.heap.size (ruleA Ru.zero) = v3 at *
        generalize v2.heap.size = g8 at *
        refine (HCO.out _).mono ?_
        rintro e v5 ⟨rfl, d5⟩
        have hat5 := hat2.stays d5
        have hfr := hat5.fault
        have hbe := hat5.below
        clear hat2 hat5 d5 T U C
        go_wp2_with (first
          | (refine at_slot 41 rfl ?_; refine build_three rfl 34 0 1 2 _ _ _ rfl _ _ _ rfl rfl rfl F HB.out ?_)
          | (refine wpList_store_row rfl 34 _ _ rfl w.heap.size F rfl rfl 34 _ hfr HIF.out HIF2.out HF1.out ?_))
        exact bodyPost_ret (v := .tuple #[.slice none 0 0, .agg F]) (results_two_cell rfl _ _ w.heap.size _ _ _ rfl _ rfl (hfr.whole _) Tryz.underlying34 rfl HIF.out) rfl (HE.out _ (below_setRow hbe (Nat.le_refl _) _))
    · have HR := Lib.hid (Ru.go_end hat.all (by rw [HN.out]; omega))
      have hfr := hat.fault
      have hbe := hat.below
      have hrr := Lib.hid (own_rules (own_setRow hat.own (b := w.heap.size) (by omega) (faultA Ru.fine)))
      clear hat
      go_wp2_with (first
        | (refine wpList_store_row rfl 34 _ _ rfl w.heap.size (faultA Ru.fine) rfl rfl 34 _ hfr infoFault rfl (faultA_one _) ?_))
      exact bodyPost_ret (v := .tuple #[u4, .agg (faultA Ru.fine)]) (results_two_cell rfl _ _ w.heap.size _ _ _ rfl _ rfl (hfr.whole _) Tryz.underlying34 rfl infoFault) rfl (HPost.out _ _ _ _ HR.out hrr.out (below_setRow hbe (Nat.le_refl _) _))
end Go.Proofs.YtjfipedcjahbkaaGreatDoor
