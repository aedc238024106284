/- The walks of what tells whether labels can stand in a name. -/
import Derived.Test.YtjfipedcjahbkaaGreatDoorOctets
import Derived.Test.YtjfipedcjahbkaaGreatDoorPlains
namespace Go.Proofs.YtjfipedcjahbkaaGreatDoor
open Go.RowKit
theorem ofName_calls (c : UInt8) (w : World) :
    Calls Tryz.prog 59 #[.int .u8 (c.toNat : Int)] w fun e w' => e = .returned (.bool (Hst.okB c)) ∧ w = w' := by
  have hc : c.toNat < 256 := c.toNat_lt
  go_enter Tryz.func59, Tryz.ntmps59
  go_wp2
  all_goals
    go_ret
    exact ⟨ret_bool (by rw [Bool.eq_iff_iff]; simp [Hst.okB]; omega), rfl⟩
theorem alien_calls (c : UInt8) (w : World) :
    Calls Tryz.prog 58 #[.int .u8 (c.toNat : Int)] w fun e w' => e = .returned (.bool (!Hst.okB c)) ∧ w = w' := by
  go_enter Tryz.func58, Tryz.ntmps58
  go_wp2_with (go_at_call 59; refine (ofName_calls _ _).mono ?_; rintro e w' ⟨rfl, rfl⟩)
  go_ret
  exact ⟨rfl, rfl⟩
/-- Whether there is a place, and none behind it was told of before. -/
theorem any_hit {α : Type} {p : α → Bool} {l : List α} {k : Nat} {x : α} (h : l[k]? = some x) (hp : p x = true) : l.any p = true :=
  List.any_eq_true.2 ⟨x, List.mem_of_getElem? h, hp⟩
theorem any_miss {α : Type} {p : α → Bool} {l : List α} {k : Nat} (hk : l.length ≤ k) (h : ∀ x ∈ l.take k, p x = false) : l.any p = false := by
  rw [List.take_of_length_le hk] at h
  rw [List.any_eq_false]
  intro x hx
  rw [h x hx]; simp
theorem any_all {α : Type} (p : α → Bool) (l : List α) : (l.any fun x => !p x) = !l.all p := by
  induction l with
  | nil => rfl
  | cons a l ih => rw [List.any_cons, List.all_cons, ih, Bool.not_and]
set_option maxHeartbeats 1000000 in
theorem indexB_calls (w : World) (g n cap : Nat) (l : List UInt8) (hn : l.length = n) (hl : n ≤ 1099511627776) (hB : Bytes w g l) :
    Calls Tryz.prog 80 #[.slice (some ⟨g, 0, none⟩) n cap, .func (.func 58) #[] #[]] w fun e w' => (∃ r : Int, e = .returned (.int .i64 r) ∧ decide (0 ≤ r) = l.any (fun c => !Hst.okB c)) ∧ w = w' := by
  go_enter Tryz.func80, Tryz.ntmps80
  go_wp2
  go_loop [5, 8] (fun _ i => ∃ k : Nat, k ≤ n ∧ i = .int .i64 k ∧ ∀ c ∈ l.take k, (!Hst.okB c) = false) (fun _ i => n - (intOf i).toNat)
  case atStart => exact ⟨0, Nat.zero_le _, rfl, by simp⟩
  case round =>
    obtain ⟨k, hk, rfl, hall⟩ := hrel
    have HA := Lib.hid hall
    clear hall
    by_cases hlt : k < n
    · obtain ⟨c, hc⟩ : ∃ c, l[k]? = some c := ⟨_, List.getElem?_eq_getElem (by omega)⟩
      have hcell := hB.cell k c hc
      unfold byteV at hcell
      have HC := Lib.hid hc
      clear hc hB
      cases hq : Hst.okB c with
      | true =>
        go_wp2_with (go_at_call 58; refine (alien_calls _ _).mono ?_; rintro e w' ⟨rfl, rfl⟩; rw [hq])
        go_round
        case rel => exact ⟨k + 1, by omega, by go_num, Oct.take_more HA.out HC.out (by rw [hq]; rfl)⟩
        case measure => simp [intOf]; omega
      | false =>
        go_wp2_with (go_at_call 58; refine (alien_calls _ _).mono ?_; rintro e w' ⟨rfl, rfl⟩; rw [hq])
        go_ret
        exact ⟨⟨k, rfl, by rw [any_hit (p := fun c => !Hst.okB c) HC.out (by show (!Hst.okB c) = true; rw [hq]; rfl)]; simp⟩, rfl⟩
    · go_wp2
      go_ret
      exact ⟨⟨-1, rfl, by rw [any_miss (k := k) (by omega) HA.out]; rfl⟩, rfl⟩
theorem containsB_calls (w : World) (g n cap : Nat) (l : List UInt8) (hn : l.length = n) (hl : n ≤ 1099511627776) (hB : Bytes w g l) :
    Calls Tryz.prog 60 #[.slice (some ⟨g, 0, none⟩) n cap, .func (.func 58) #[] #[]] w fun e w' => e = .returned (.bool (l.any (fun c => !Hst.okB c))) ∧ w = w' := by
  have HC := Lib.hid (indexB_calls w g n cap l hn hl hB)
  go_enter Tryz.func60, Tryz.ntmps60
  go_wp2_with (go_at_call 80; refine HC.out.mono ?_; rintro e w' ⟨⟨r, rfl, hr⟩, rfl⟩)
  go_ret
  exact ⟨rfl, rfl⟩
set_option maxRecDepth 100000 in
set_option maxHeartbeats 1000000 in
theorem wrong_calls (s : ByteArray) (w : World) (hs : s.size ≤ 1099511627776) :
    Calls Tryz.prog 57 #[.string s] w fun e w' => e = .returned (.bool (!Hst.lab s.data.toList)) ∧ Below w.heap.size w w' := by
  have hcv := fun W => run_bytes_of_string (P := Tryz.prog) W 9 75 5 s Tryz.underlying9 Tryz.underlying75 Tryz.underlying5
  have HL := Lib.hid (Oct.length_bytes s)
  by_cases h0 : s.size = 0
  · have e0 : s.toList = [] := (Oct.nil_bytes s).2 ((Oct.nil_size s).2 h0)
    go_enter Tryz.func57, Tryz.ntmps57
    go_wp2
    go_ret
    exact ⟨ret_bool (by unfold Hst.lab; rw [HL.out]; simp [h0]), Below.refl _ _⟩
  · have e0 : s.toList.isEmpty = false := by
      cases e : s.toList with
      | nil => exact absurd ((Oct.nil_size s).1 ((Oct.nil_bytes s).1 e)) h0
      | cons => rfl
    by_cases h1 : s.size ≤ 63
    · have HB := Lib.hid (Bytes.new w s)
      generalize s.data.toList = l at *
      go_enter Tryz.func57, Tryz.ntmps57
      go_wp2_with (go_at_call 60; refine (containsB_calls _ w.heap.size s.size _ l HL.out (by omega) (HB.out _ _)).mono ?_; rintro e w' ⟨rfl, rfl⟩)
      go_ret
      exact ⟨ret_bool (by rw [decide_eq_false (show ¬ (63 : Int) < (s.size : Int) by omega), any_all]; unfold Hst.lab; rw [HL.out, decide_eq_true (show 1 ≤ s.size ∧ s.size ≤ 63 by omega)]; rfl), ((Below.refl _ w).alloc (Nat.le_refl _) _).drew⟩
    · go_enter Tryz.func57, Tryz.ntmps57
      go_wp2
      go_ret
      exact ⟨ret_bool (by unfold Hst.lab; rw [HL.out, decide_eq_false (show ¬ (1 ≤ s.size ∧ s.size ≤ 63) by omega)]; rfl), Below.refl _ _⟩
set_option maxHeartbeats 1000000 in
theorem indexS_calls (w : World) (B g n cap : Nat) (ps : List (List UInt8)) (hn : ps.length = n) (hl : n ≤ 1099511627776) (hz : ∀ p ∈ ps, p.length ≤ 1099511627776) (hown : w.ownsRow B 9 1 (.slice (some ⟨g, 0, none⟩) n cap) n (ps.map strV)) :
    Calls Tryz.prog 81 #[.slice (some ⟨g, 0, none⟩) n cap, .func (.func 57) #[] #[]] w fun e w' => (∃ r : Int, e = .returned (.int .i64 r) ∧ decide (0 ≤ r) = ps.any (fun p => !Hst.lab p)) ∧ Below w.heap.size w w' := by
  subst hn
  have HO := Lib.hid hown
  have HZ := Lib.hid hz
  clear hown hz
  go_enter Tryz.func81, Tryz.ntmps81
  go_wp2
  go_loopw [5, 8] (fun _ i wr => ∃ k : Nat, k ≤ ps.length ∧ i = .int .i64 k ∧ (∀ p ∈ ps.take k, (!Hst.lab p) = false) ∧ Below w.heap.size w wr) (fun _ i _ => ps.length - (intOf i).toNat)
  case atStart => exact ⟨0, Nat.zero_le _, rfl, by simp, Below.refl _ _⟩
  case round =>
    obtain ⟨k, hk, rfl, hall, hb⟩ := hrel
    have HA := Lib.hid hall
    clear hall
    by_cases hlt : k < ps.length
    · obtain ⟨p, s, hp, hcell, hd, _, hsz⟩ := own_cell (own_keep HO.out hb) hlt
      have hps := HZ.out p (List.mem_of_getElem? hp)
      have HP := Lib.hid hp
      have hw := fun W => wrong_calls s W (by omega)
      rw [hd] at hw
      clear hp hd
      cases hq : Hst.lab p with
      | true =>
        rw [hq] at hw
        have HW := Lib.hid hw
        clear hw
        go_wp2_with (go_at_call 57; refine (HW.out _).mono ?_; rintro e w' ⟨rfl, hb2⟩)
        go_roundw
        case rel => exact ⟨k + 1, by omega, by go_num, Oct.take_more HA.out HP.out (by rw [hq]; rfl), hb.trans (hb2.mono hb.size)⟩
        case measure => simp [intOf]; omega
      | false =>
        rw [hq] at hw
        have HW := Lib.hid hw
        clear hw
        go_wp2_with (go_at_call 57; refine (HW.out _).mono ?_; rintro e w' ⟨rfl, hb2⟩)
        go_ret
        exact ⟨⟨k, rfl, by rw [any_hit (p := fun p => !Hst.lab p) HP.out (by show (!Hst.lab p) = true; rw [hq]; rfl)]; simp⟩, hb.trans (hb2.mono hb.size)⟩
    · go_wp2
      go_ret
      exact ⟨⟨-1, rfl, by rw [any_miss (k := k) (by omega) HA.out]; rfl⟩, hb⟩
theorem containsS_calls (w : World) (B g n cap : Nat) (ps : List (List UInt8)) (hn : ps.length = n) (hl : n ≤ 1099511627776) (hz : ∀ p ∈ ps, p.length ≤ 1099511627776) (hown : w.ownsRow B 9 1 (.slice (some ⟨g, 0, none⟩) n cap) n (ps.map strV)) :
    Calls Tryz.prog 61 #[.slice (some ⟨g, 0, none⟩) n cap, .func (.func 57) #[] #[]] w fun e w' => e = .returned (.bool (ps.any (fun p => !Hst.lab p))) ∧ Below w.heap.size w w' := by
  have HC := Lib.hid (indexS_calls w B g n cap ps hn hl hz hown)
  clear hown
  go_enter Tryz.func61, Tryz.ntmps61
  go_wp2_with (go_at_call 81; refine HC.out.mono ?_; rintro e w' ⟨⟨r, rfl, hr⟩, hb⟩)
  go_ret
  exact ⟨rfl, hb⟩
theorem name_calls (w : World) (B g n cap : Nat) (ps : List (List UInt8)) (hn : ps.length = n) (hl : n ≤ 1099511627776) (hz : ∀ p ∈ ps, p.length ≤ 1099511627776) (hown : w.ownsRow B 9 1 (.slice (some ⟨g, 0, none⟩) n cap) n (ps.map strV)) :
    Calls Tryz.prog 36 #[.slice (some ⟨g, 0, none⟩) n cap] w fun e w' => e = .returned (.bool (ps.all Hst.lab)) ∧ Below w.heap.size w w' := by
  have HC := Lib.hid (containsS_calls w B g n cap ps hn hl hz hown)
  clear hown
  go_enter Tryz.func36, Tryz.ntmps36
  go_wp2_with (go_at_call 61; refine HC.out.mono ?_; rintro e w' ⟨rfl, hb⟩)
  go_ret
  exact ⟨ret_bool (by rw [any_all, Bool.not_not]), hb⟩
end Go.Proofs.YtjfipedcjahbkaaGreatDoor
