/- The walk of the reference's File of rules. -/
import Derived.Test.YtnlhniaoaciopaaGreatDoorRefRuleLine
import Derived.Test.YtnlhniaoaciopaaGreatDoorRefLines
import Derived.Test.YtnlhniaoaciopaaGreatDoorRuleFile
import Derived.Maps.AppendAt
namespace Go.Proofs.YtnlhniaoaciopaaGreatDoor
open Go.RowKit
theorem rules_cut {w : World} {A : Option Addr} {n c : Nat} {rs : List Ru.Rule} (h : HasRules w (.slice A n c) rs) : rs.length = n ∧ (0 < n → ∃ g, A = some ⟨g, 0, none⟩ ∧ g < w.heap.size ∧ n ≤ c ∧ ∀ k r, rs[k]? = some r → w.cell? ⟨g, k * 2, none⟩ = some (.int .i64 r.kind) ∧ w.cell? ⟨g, k * 2 + 1, none⟩ = some (strV r.name)) := by
  obtain ⟨A', c', e, hh⟩ := h
  simp only [Value.slice.injEq] at e
  obtain ⟨rfl, rfl, rfl⟩ := e
  exact ⟨rfl, hh⟩
theorem Ru.none_of {acc : List Ru.Rule} {r : Ru.Rule} {m : Nat} (h : ∀ j q, j < m → acc[j]? = some q → q ≠ r) (hm : acc.length ≤ m) : r ∉ acc := by
  intro hr
  obtain ⟨j, hj, e⟩ := List.getElem_of_mem hr
  exact h j r (by omega) (by rw [List.getElem?_eq_getElem hj, e]) rfl
/-- Behind k lines, in the reference: the rules that stand, in a row apart from the lines'. -/
structure RFileAt (w : World) (ls : List (List UInt8)) (res : Ru.Fault × List Ru.Rule) (g3 : Nat) (L : Value) (n BL BO : Nat) (acc : List Ru.Rule) (k : Nat) (v : Value) (wr : World) : Prop where
  all : Ru.go (ls.drop k) k acc = res
  rules : Ru.Rules acc
  own : wr.ownsRow BO 50 2 v acc.length (rulesL acc)
  apart : ∀ b, v.ownBlock = some b → L.ownBlock ≠ some b
  fault : Row wr g3 38 (faultA Ru.fine)
  lines : wr.ownsRow BL 9 1 L n (ls.map strV)
  below : Below w.heap.size w wr
theorem RFileAt.stays {w : World} {ls : List (List UInt8)} {res : Ru.Fault × List Ru.Rule} {g3 n BL BO : Nat} {L : Value} {acc : List Ru.Rule} {k : Nat} {v : Value} {wr w' : World} (h : RFileAt w ls res g3 L n BL BO acc k v wr) (hb : Below wr.heap.size wr w') : RFileAt w ls res g3 L n BL BO acc k v w' :=
  ⟨h.all, h.rules, own_keep2 h.own hb, h.apart, h.fault.stays hb, own_keep h.lines hb, h.below.trans (hb.mono h.below.size)⟩
theorem RFileAt.add {w : World} {ls : List (List UInt8)} {res : Ru.Fault × List Ru.Rule} {g3 n BL BO : Nat} {L : Value} {acc : List Ru.Rule} {k : Nat} {v v' : Value} {w5 w8 : World} {l : List UInt8} {r : Ru.Rule} {o : Obj} (h : RFileAt w ls res g3 L n BL BO acc k v w5)
    (h3 : g3 < BO) (hwB : w.heap.size ≤ BO) (hl : ls[k]? = some l) (hw : Ru.why acc l = 0) (hm : Ru.more acc l = acc ++ [r])
    (hown : w8.ownsRow BO 50 2 v' (acc.length + 1) (rulesL acc ++ [.int .i64 r.kind, strV r.name])) (hg8 : (w5.alloc o).grownBy w8 v.ownBlock) (hat : v'.ownBlock = v.ownBlock ∨ v'.ownBlock = some (w5.alloc o).heap.size) :
    RFileAt w ls res g3 L n BL BO (acc ++ [r]) (k + 1) v' w8 := by
  have hall := Ru.go_on h.all hl hw
  have hru := Ru.more_rules hw h.rules
  rw [hm] at hall hru
  have hs5 : w5.heap.size < (w5.alloc o).heap.size := by simp
  have hvb : ∀ b, v.ownBlock = some b → BO ≤ b ∧ b < w5.heap.size := h.own.lt
  have hlb : ∀ b, L.ownBlock = some b → BL ≤ b ∧ b < w5.heap.size := h.lines.lt
  have hb5 := h.below.size
  refine ⟨hall, hru, ?_, ?_, ?_, ?_, ?_⟩
  · rw [List.length_append, rulesL_snoc]; exact hown
  · intro b hb hL
    rcases hat with e | e
    · exact h.apart b (e ▸ hb) hL
    · rw [e] at hb
      have := Option.some.inj hb
      have := (hlb b hL).2
      omega
  · have e2 : Row (w5.alloc o) g3 38 (faultA Ru.fine) := Row.alloc h.fault o
    exact (hg8.block g3 e2.lt (fun e => by have := (hvb g3 e.symm).1; omega)).trans e2
  · refine (h.lines.alloc o).kept hg8 ?_
    cases hL : L.ownBlock with
    | none => exact .inl rfl
    | some b => exact .inr (fun e => h.apart b e.symm hL)
  · exact (h.below.alloc (by omega) o).grown hg8 (by omega) (fun b hb => by have := (hvb b hb).1; omega)
set_option maxRecDepth 100000 in
set_option maxHeartbeats 8000000 in
theorem refFile_calls (s : ByteArray) (w : World) (hs : s.size ≤ 1048576) :
    Calls Tryz.prog 17 #[.string s] w (NewRules (Ru.file s.data.toList) w) := by
  have z0 := zeroRule
  have z1 := zeroFault
  have HPost : Hid (∀ f rs v w', Ru.file s.data.toList = (f, rs) → HasRules w' v rs → Below w.heap.size w w' → NewRules (Ru.file s.data.toList) w (.returned (.tuple #[v, .agg (faultA f)])) w') := Lib.hid (fun f rs v w' h hv hb => new_rules h hv hb)
  generalize hpost : NewRules (Ru.file s.data.toList) w = post at *
  clear hpost
  have R0 := Row.new w 38 (faultA Ru.fine)
  have B0 := (Below.refl w.heap.size w).alloc (Nat.le_refl _) (.cells (faultA Ru.fine) 38)
  have hg0 : (w.alloc (.cells (faultA Ru.fine) 38)).heap.size = w.heap.size + 1 := by simp
  have R1 := R0.alloc (.cells #[] 50)
  have B1 := B0.alloc B0.size (.cells #[] 50)
  by_cases hbig : 20000 < s.size
  · have HR : Hid (Ru.file s.data.toList = (⟨54, 1, 1⟩, [])) := Lib.hid (by unfold Ru.file; rw [if_pos (by rw [Oct.length_bytes]; exact hbig)])
    have hbig1 : (20000 : Int) < (s.size : Int) := by omega
    have HB := Lib.hid (built_fault 54 1 1)
    clear hbig R0 B0 hg0
    go_enter Tryz.func17, Tryz.ntmps17
    go_wp2_with (first
      | (refine at_slot 16 rfl ?_; refine build_three rfl 38 0 1 2 _ _ _ rfl _ _ _ rfl rfl rfl (faultA ⟨54, 1, 1⟩) HB.out ?_)
      | (refine at_none rfl ?_; refine wpList_store_row rfl 38 _ _ rfl w.heap.size (faultA ⟨54, 1, 1⟩) rfl rfl 38 _ R1 infoFault rfl (faultA_one _) ?_))
    exact bodyPost_ret (v := .tuple #[.slice none 0 0, .agg (faultA ⟨54, 1, 1⟩)]) (results_two_cell rfl _ _ w.heap.size _ _ _ rfl _ rfl (R1.whole _) Tryz.underlying38 rfl infoFault) rfl (HPost.out _ _ _ _ HR.out (has_none _) (below_setRow B1 (Nat.le_refl _) _))
  have hbig1 : ¬ (20000 : Int) < (s.size : Int) := by omega
  have HF : Hid (Ru.go ((Oct.lines s.data.toList).drop 0) 0 [] = Ru.file s.data.toList) := Lib.hid (by unfold Ru.file; rw [if_neg (by rw [Oct.length_bytes]; exact hbig), List.drop_zero])
  have HLN := Lib.hid (fun W => refLines_calls s W (by omega))
  have hsm : ∀ p ∈ Oct.lines s.data.toList, p.length ≤ 20000 := fun p hp => by have := Ru.lines_small hp; rw [Oct.length_bytes] at this; omega
  have HSM := Lib.hid hsm
  have hfew := Ru.lines_few s.data.toList
  rw [Oct.length_bytes] at hfew
  clear hsm hbig
  generalize Ru.file s.data.toList = res at *
  generalize Oct.lines s.data.toList = ls at *
  obtain ⟨n, hn⟩ : ∃ n, ls.length = n := ⟨_, rfl⟩
  unfold NewTexts at HLN
  rw [hn] at HLN hfew
  have HN := Lib.hid hn
  clear hn
  obtain ⟨i0, hi, hz0, hz1, hz2⟩ := info_parts infoRuleZ
  have O1 := World.ownsRow_made (base := w.heap.size + 1) (size := 2) (e := 50) (w.alloc (.cells (faultA Ru.fine) 38)) #[] 0 (by omega) (Nat.zero_le _) rfl
  rw [hg0] at O1
  have hs1 : ((w.alloc (.cells (faultA Ru.fine) 38)).alloc (.cells #[] 50)).heap.size = w.heap.size + 2 := by simp
  go_enter Tryz.func17, Tryz.ntmps17
  go_wp2_with fail
  generalize ((w.alloc (.cells (faultA Ru.fine) 38)).alloc (.cells #[] 50)) = w1 at *
  clear R0 B0 hg0
  refine (HLN.out _).mono ?_
  rintro e v1 ⟨lv, rfl, hown, d1⟩
  obtain ⟨A, cap, rfl, hA⟩ := own_any hown
  have HA := Lib.hid hA
  have HS : Hid (RFileAt w ls res w.heap.size (.slice A n cap) n w1.heap.size (w.heap.size + 1) [] 0 (.slice (some ⟨w.heap.size + 1, 0, none⟩) 0 0) v1) := Lib.hid ⟨HF.out, Ru.Rules.nil, own_keep2 O1 d1, (fun b hb hL => by
    have h1 := (hown.lt b hL).1
    have h2 : w.heap.size + 1 = b := Option.some.inj hb
    omega), R1.stays d1, hown, B1.trans (d1.mono B1.size)⟩
  generalize w1.heap.size = BL at *
  clear hown d1 O1 R1 B1 HF HLN hs1 w1 hA
  go_wp2_with fail
  go_loopw [4, 20] (fun v i wr => ∃ (k : Nat) (acc : List Ru.Rule), k ≤ n ∧ i = .int .i64 k ∧ RFileAt w ls res w.heap.size (.slice A n cap) n BL (w.heap.size + 1) acc k v wr) (fun _ i _ => n - (intOf i).toNat)
  case atStart => exact ⟨0, [], Nat.zero_le _, rfl, HS.out⟩
  case round =>
    obtain ⟨k, acc, hk, rfl, hat⟩ := hrel
    by_cases hlt : k < n
    · obtain ⟨g, rfl⟩ := HA.out (by omega)
      have hcap : n ≤ cap := own_cap hat.lines
      obtain ⟨l, hl⟩ : ∃ l, ls[k]? = some l := ⟨_, List.getElem?_eq_getElem (by rw [HN.out]; exact hlt)⟩
      obtain ⟨t, ht⟩ : ∃ t : ByteArray, t = ⟨l.toArray⟩ := ⟨_, rfl⟩
      have hcell := own_text hat.lines hl ht
      have htd : t.data.toList = l := by rw [ht]
      have hts : t.size ≤ 20000 := by
        have := HSM.out l (List.mem_of_getElem? hl)
        rw [← Oct.length_bytes t, htd]; exact this
      have HLI := Lib.hid (fun W => refLine_calls t W (by omega))
      have HCO := Lib.hid (fun W => refColumn_calls t W (by omega))
      rw [htd] at HLI HCO
      unfold NewRule at HLI
      have HLk := Lib.hid hl
      obtain ⟨c, hc⟩ : ∃ c, Ru.col l = c := ⟨_, rfl⟩
      rw [hc] at HCO
      have HC := Lib.hid hc
      clear ht htd hl hc
      rcases Ru.line_cases l with ⟨r, h1, h2⟩ | h1 | h1
      · rw [h1] at HLI
        have hcan := Ru.rule_can h2
        have hwy : Ru.why acc l = Ru.whyNot acc r ∧ Ru.more acc l = acc ++ [r] := by unfold Ru.why Ru.more; rw [h1]; exact ⟨rfl, rfl⟩
        have H52 : Hid (r ∈ acc → res = (⟨52, (k : Int) + 1, c⟩, [])) := Lib.hid (fun hm => by
          have e : Ru.why acc l = 52 := by rw [hwy.1]; unfold Ru.whyNot; rw [if_pos hm]
          have := Ru.go_off hat.all HLk.out (by rw [e]; decide)
          rw [e, HC.out] at this; exact this)
        have H53 : Hid (r ∉ acc → 200 ≤ acc.length → res = (⟨53, (k : Int) + 1, c⟩, [])) := Lib.hid (fun hm h2 => by
          have e : Ru.why acc l = 53 := by rw [hwy.1]; unfold Ru.whyNot; rw [if_neg hm, if_pos h2]
          have := Ru.go_off hat.all HLk.out (by rw [e]; decide)
          rw [e, HC.out] at this; exact this)
        have H0 : Hid (r ∉ acc → acc.length < 200 → Ru.why acc l = 0) := Lib.hid (fun hm h2 => by rw [hwy.1]; unfold Ru.whyNot; rw [if_neg hm, if_neg (by omega)])
        have HMORE := Lib.hid hwy.2
        obtain ⟨u, hu⟩ : ∃ u : ByteArray, u = ⟨r.name.toArray⟩ := ⟨_, rfl⟩
        have hX : ruleA r = #[.int .i64 r.kind, .string u] := by rw [hu]; rfl
        have hus : strV r.name = .string u := by rw [hu]; rfl
        have HEQ := Lib.hid (fun q => eql_rule q r)
        dsimp only at HLI
        rw [hX] at HLI HEQ
        have HUS := Lib.hid hus
        obtain ⟨rk, hrk⟩ : ∃ rk, r.kind = rk := ⟨_, rfl⟩
        rw [hrk] at HLI HEQ
        have HRK := Lib.hid hrk
        clear h1 h2 hcan hX hus hu hwy hrk
        have HX1 := Lib.hid (show (#[Value.int .i64 rk, .string u] : Array Value).all (·.oneCell') = true by simp [Value.oneCell'])
        obtain ⟨A', c', rfl, _⟩ := own_rules hat.own
        have hal : acc.length ≤ 200 := hat.rules.few
        go_wp2_with fail
        refine (HLI.out _).mono ?_
        rintro e v2 ⟨rfl, d2⟩
        obtain ⟨T, U, C, _⟩ := lay_row 50 (ruleA Ru.zero) #[.int .i64 rk, .string u] d2 d2.size
        have hat2 := hat.stays C
        clear hat d2 HLI hcell
        go_wp2_with (first
          | (refine at_none rfl ?_; refine wpList_store_row rfl 50 _ _ rfl v2.heap.size #[.int .i64 rk, .string u] rfl rfl 50 _ T infoRule rfl HX1.out ?_))
        generalize (v2.alloc (.cells (ruleA Ru.zero) 50)).setRow v2.heap.size #[.int .i64 rk, .string u] = x2 at *
        generalize v2.heap.size = g8 at *
        clear T C
        have HR2 := Lib.hid (own_rules hat2.own)
        go_loopw [43] (fun i wr => ∃ m : Nat, m ≤ acc.length ∧ i = .int .i64 m ∧ Below x2.heap.size x2 wr ∧ ∀ j q, j < m → acc[j]? = some q → q ≠ r) (fun i _ => acc.length - (intOf i).toNat)
        case atStart => exact ⟨0, Nat.zero_le _, rfl, Below.refl _ _, fun j q h => absurd h (by omega)⟩
        case round =>
          obtain ⟨m, hm, rfl, hbi, hno⟩ := hrel
          have HNO := Lib.hid hno
          clear hno
          have hat3 := hat2.stays hbi
          have U3 := U.stays hbi
          by_cases hmk : m < acc.length
          · obtain ⟨_, hh5⟩ := rules_cut (HR2.out.stays hbi)
            obtain ⟨g', rfl, _, hcc, hcell⟩ := hh5 (by omega)
            obtain ⟨q, hq⟩ : ∃ q, acc[m]? = some q := ⟨_, List.getElem?_eq_getElem hmk⟩
            obtain ⟨c0, c1⟩ := hcell m q hq
            have HQM := Lib.hid hq
            obtain ⟨T4, U4, C4, L4⟩ := lay_row 50 (ruleA Ru.zero) (ruleA q) (Below.refl wr.heap.size wr) (Nat.le_refl _)
            have U5 := L4 _ _ _ U3
            have hbn := hbi.trans (C4.mono hbi.size)
            have hat4 := hat3.stays C4
            have qeq := HEQ.out q
            clear hq hcell hh5 L4 C4 hat3
            by_cases hqr : q = r
            · rw [decide_eq_true hqr] at qeq
              have HR : Hid (res = (⟨52, (k : Int) + 1, c⟩, [])) := Lib.hid (H52.out (by rw [← hqr]; exact List.mem_of_getElem? HQM.out))
              clear hqr
              have HB := Lib.hid (built_fault 52 ((k : Int) + 1) c)
              have HF1 := Lib.hid (faultA_one ⟨52, (k : Int) + 1, c⟩)
              have HE := Lib.hid (HPost.out _ _ (.slice none 0 0) · HR.out (has_none _))
              have HIF : Hid ((Tryz.prog.info? 38).map (·.size) = some (faultA ⟨52, (k : Int) + 1, c⟩).size) := Lib.hid infoFault
              generalize faultA ⟨52, (k : Int) + 1, c⟩ = F at *
              have HIF2 : Hid ((faultA Ru.fine).size = F.size) := Lib.hid (by have := infoFault; rw [HIF.out] at this; exact (Option.some.inj this).symm)
              have hfr := hat4.fault
              have hbe := hat4.below
              clear hat4 hat2 hbn hbi
              go_wp2_with (first
                | (refine at_slot 46 rfl ?_; refine load_rule rfl _ rfl g' (m * 2) rfl q c0 c1 ?_)
                | (refine at_none rfl ?_; refine wpList_store_row rfl 50 _ _ rfl wr.heap.size (ruleA q) rfl rfl 50 _ T4 infoRule rfl (ruleA_one _) ?_)
                | (refine at_slot 47 rfl ?_; refine load_row rfl 50 _ rfl wr.heap.size rfl U4 Tryz.underlying50 rfl infoRule ?_)
                | (refine at_slot 48 rfl ?_; refine load_row rfl 50 _ rfl g8 rfl U5 Tryz.underlying50 rfl infoRule ?_))
              refine (HCO.out _).mono ?_
              rintro e v5 ⟨rfl, rfl⟩
              go_wp2_with (first
                | (refine at_slot 54 rfl ?_; refine build_three rfl 38 0 1 2 _ _ _ rfl _ _ _ rfl rfl rfl F HB.out ?_)
                | (refine at_none rfl ?_; refine wpList_store_row rfl 38 _ _ rfl w.heap.size F rfl rfl 38 _ hfr HIF.out HIF2.out HF1.out ?_))
              exact bodyPost_ret (v := .tuple #[.slice none 0 0, .agg F]) (results_two_cell rfl _ _ w.heap.size _ _ _ rfl _ rfl (hfr.whole _) Tryz.underlying38 rfl HIF.out) rfl (HE.out _ (below_setRow hbe (Nat.le_refl _) _))
            · rw [decide_eq_false hqr] at qeq
              have HNQ := Lib.hid hqr
              clear hqr
              clear hat4 hat2
              go_wp2_with (first
                | (refine at_slot 46 rfl ?_; refine load_rule rfl _ rfl g' (m * 2) rfl q c0 c1 ?_)
                | (refine at_none rfl ?_; refine wpList_store_row rfl 50 _ _ rfl wr.heap.size (ruleA q) rfl rfl 50 _ T4 infoRule rfl (ruleA_one _) ?_)
                | (refine at_slot 47 rfl ?_; refine load_row rfl 50 _ rfl wr.heap.size rfl U4 Tryz.underlying50 rfl infoRule ?_)
                | (refine at_slot 48 rfl ?_; refine load_row rfl 50 _ rfl g8 rfl U5 Tryz.underlying50 rfl infoRule ?_))
              go_roundw
              case rel => exact ⟨m + 1, by omega, by go_num, hbn, fun j x hj hx => by
                rcases Nat.lt_succ_iff_lt_or_eq.1 hj with hj | rfl
                · exact HNO.out j x hj hx
                · rw [HQM.out] at hx; rw [← Option.some.inj hx]; exact HNQ.out⟩
              case measure => simp [intOf]; omega
          · have hnot := Ru.none_of HNO.out (by omega)
            have HNOT := Lib.hid hnot
            clear hnot
            by_cases h200 : 200 ≤ acc.length
            · have HR : Hid (res = (⟨53, (k : Int) + 1, c⟩, [])) := Lib.hid (H53.out HNOT.out h200)
              have h2i : (200 : Int) ≤ (acc.length : Int) := by omega
              have HB := Lib.hid (built_fault 53 ((k : Int) + 1) c)
              have HF1 := Lib.hid (faultA_one ⟨53, (k : Int) + 1, c⟩)
              have HE := Lib.hid (HPost.out _ _ (.slice none 0 0) · HR.out (has_none _))
              have HIF : Hid ((Tryz.prog.info? 38).map (·.size) = some (faultA ⟨53, (k : Int) + 1, c⟩).size) := Lib.hid infoFault
              generalize faultA ⟨53, (k : Int) + 1, c⟩ = F at *
              have HIF2 : Hid ((faultA Ru.fine).size = F.size) := Lib.hid (by have := infoFault; rw [HIF.out] at this; exact (Option.some.inj this).symm)
              have hfr := hat3.fault
              have hbe := hat3.below
              clear hat3 hat2 hbi
              go_wp2_with fail
              refine (HCO.out _).mono ?_
              rintro e v5 ⟨rfl, rfl⟩
              go_wp2_with (first
                | (refine at_slot 63 rfl ?_; refine build_three rfl 38 0 1 2 _ _ _ rfl _ _ _ rfl rfl rfl F HB.out ?_)
                | (refine at_none rfl ?_; refine wpList_store_row rfl 38 _ _ rfl w.heap.size F rfl rfl 38 _ hfr HIF.out HIF2.out HF1.out ?_))
              exact bodyPost_ret (v := .tuple #[.slice none 0 0, .agg F]) (results_two_cell rfl _ _ w.heap.size _ _ _ rfl _ rfl (hfr.whole _) Tryz.underlying38 rfl HIF.out) rfl (HE.out _ (below_setRow hbe (Nat.le_refl _) _))
            · have h2i : ¬ (200 : Int) ≤ (acc.length : Int) := by omega
              have HY := Lib.hid (H0.out HNOT.out (by omega))
              have HCM := Lib.hid (show acc.length + 1 ≤ maxLen by unfold maxLen; omega)
              have HCB := Lib.hid (show (acc.length + 1) * 24 ≤ 140737488355328 by omega)
              have HBZ := Lib.hid hat3.below.size
              have hlt1 : w.heap.size < wr.heap.size := hat3.fault.lt
              go_wp2_with (first
                | (refine at_slot 65 rfl ?_; refine load_row rfl 50 _ rfl g8 rfl U3 Tryz.underlying50 rfl infoRule ?_)
                | (at_builtin; refine wpList_append_own_at _ rfl _ _ 22 rfl (w.heap.size + 1) 50 i0 (.agg (ruleA Ru.zero)) 2 24 Tryz.underlying22 hi hz0 hz1 hz2 rfl (by decide) _ _ _ rfl (hat3.own.alloc _) ⟨wr.heap.size, 0, none⟩ 1 1 [.int .i64 rk, .string u] rfl rfl (cell_two_new _ _ _ _) ?c1a HCM.out HCB.out ?c1d ?_))
              case c1a => simp [Value.oneCell']
              case c1d => omega
              · intro v' w8 hown' hgrow _ hwhere
                have hlast := hat3.add (o := .cells #[.int .i64 rk, .string u] 50) (r := r) (by omega) (by omega) HLk.out HY.out HMORE.out (by rw [HRK.out, HUS.out]; exact hown') hgrow (by rw [show (wr.alloc (.cells #[.int .i64 rk, .string u] 50)).heap.size = wr.heap.size + 1 by simp]; exact hwhere)
                clear hown' hgrow hat3 hat2 U3 hwhere
                go_wp2
                go_roundw
                case rel => exact ⟨k + 1, acc ++ [r], by omega, by go_num, hlast⟩
                case measure => simp [intOf]; omega
      · rw [h1] at HLI
        have hwy : Ru.why acc l = 0 ∧ Ru.more acc l = acc := by unfold Ru.why Ru.more; rw [h1]; exact ⟨rfl, rfl⟩
        have hgo := Ru.go_on hat.all HLk.out hwy.1
        rw [hwy.2] at hgo
        have HGO := Lib.hid hgo
        dsimp only at HLI
        clear h1 hwy hgo
        go_wp2_with fail
        refine (HLI.out _).mono ?_
        rintro e v2 ⟨rfl, d2⟩
        obtain ⟨T, U, C, _⟩ := lay_row 50 (ruleA Ru.zero) (ruleA Ru.zero) d2 d2.size
        have hat2 := hat.stays C
        clear hat d2 HLI hcell
        go_wp2_with (first
          | (refine at_none rfl ?_; refine wpList_store_row rfl 50 _ _ rfl v2.heap.size (ruleA Ru.zero) rfl rfl 50 _ T infoRule rfl (ruleA_one _) ?_))
        go_roundw
        case rel => exact ⟨k + 1, acc, by omega, by go_num, ⟨HGO.out, hat2.rules, hat2.own, hat2.apart, hat2.fault, hat2.lines, hat2.below⟩⟩
        case measure => simp [intOf]; omega
      · rw [h1] at HLI
        have hwy : Ru.why acc l = 51 := by unfold Ru.why; rw [h1]; rfl
        have hoff := Ru.go_off hat.all HLk.out (by rw [hwy]; decide)
        rw [hwy, HC.out] at hoff
        have HR : Hid (res = (⟨51, (k : Int) + 1, c⟩, [])) := Lib.hid hoff
        dsimp only at HLI
        clear h1 hwy hoff
        have HB := Lib.hid (built_fault 51 ((k : Int) + 1) c)
        have HF1 := Lib.hid (faultA_one ⟨51, (k : Int) + 1, c⟩)
        have HE := Lib.hid (HPost.out _ _ (.slice none 0 0) · HR.out (has_none _))
        have HIF : Hid ((Tryz.prog.info? 38).map (·.size) = some (faultA ⟨51, (k : Int) + 1, c⟩).size) := Lib.hid infoFault
        generalize faultA ⟨51, (k : Int) + 1, c⟩ = F at *
        have HIF2 : Hid ((faultA Ru.fine).size = F.size) := Lib.hid (by have := infoFault; rw [HIF.out] at this; exact (Option.some.inj this).symm)
        go_wp2_with fail
        refine (HLI.out _).mono ?_
        rintro e v2 ⟨rfl, d2⟩
        obtain ⟨T, U, C, _⟩ := lay_row 50 (ruleA Ru.zero) (ruleA Ru.zero) d2 d2.size
        have hat2 := hat.stays C
        clear hat d2 HLI hcell
        go_wp2_with (first
          | (refine at_none rfl ?_; refine wpList_store_row rfl 50 _ _ rfl v2.heap.size (ruleA Ru.zero) rfl rfl 50 _ T infoRule rfl (ruleA_one _) ?_))
        generalize (v2.alloc (.cells (ruleA Ru.zero) 50)).setRow v2.heap.size (ruleA Ru.zero) = v3 at *
        generalize v2.heap.size = g8 at *
        have hfr := hat2.fault
        have hbe := hat2.below
        clear hat2 T U C
        refine (HCO.out _).mono ?_
        rintro e v5 ⟨rfl, rfl⟩
        go_wp2_with (first
          | (refine at_slot 38 rfl ?_; refine build_three rfl 38 0 1 2 _ _ _ rfl _ _ _ rfl rfl rfl F HB.out ?_)
          | (refine at_none rfl ?_; refine wpList_store_row rfl 38 _ _ rfl w.heap.size F rfl rfl 38 _ hfr HIF.out HIF2.out HF1.out ?_))
        exact bodyPost_ret (v := .tuple #[.slice none 0 0, .agg F]) (results_two_cell rfl _ _ w.heap.size _ _ _ rfl _ rfl (hfr.whole _) Tryz.underlying38 rfl HIF.out) rfl (HE.out _ (below_setRow hbe (Nat.le_refl _) _))
    · have HR := Lib.hid (Ru.go_end hat.all (by rw [HN.out]; omega))
      have hfr := hat.fault
      have hbe := hat.below
      have hrr := Lib.hid (own_rules (own_setRow hat.own (b := w.heap.size) (by omega) (faultA Ru.fine)))
      clear hat
      go_wp2_with (first
        | (refine at_none rfl ?_; refine wpList_store_row rfl 38 _ _ rfl w.heap.size (faultA Ru.fine) rfl rfl 38 _ hfr infoFault rfl (faultA_one _) ?_))
      exact bodyPost_ret (v := .tuple #[u4, .agg (faultA Ru.fine)]) (results_two_cell rfl _ _ w.heap.size _ _ _ rfl _ rfl (hfr.whole _) Tryz.underlying38 rfl infoFault) rfl (HPost.out _ _ _ _ HR.out hrr.out (below_setRow hbe (Nat.le_refl _) _))
end Go.Proofs.YtnlhniaoaciopaaGreatDoor
