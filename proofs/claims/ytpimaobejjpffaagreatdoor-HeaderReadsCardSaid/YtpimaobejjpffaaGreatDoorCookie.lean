/- The walk of date's Cookie. -/
import Derived.Test.YtpimaobejjpffaaGreatDoorMoment
namespace Go.Proofs.YtpimaobejjpffaaGreatDoor
open Go.RowKit
theorem zeroTold : #[Value.bool false, .bool false, .bool false, .bool false, .int .i64 0, .int .i64 0, .int .i64 0, .int .i64 0, .int .i64 0, .int .i64 0] = toldA Dt.untold := by rfl
theorem cutP_size (u : ByteArray) : (Dt.cutP u.data.toList).1.length ≤ u.size ∧ (Dt.cutP u.data.toList).2.length ≤ u.size - 1 := by
  have := Dt.cutP_le u.data.toList
  rw [Oct.length_bytes] at this
  exact this
set_option maxRecDepth 100000 in
set_option maxHeartbeats 8000000 in
theorem cookie_calls (s : ByteArray) (w : World) (hw : Cal w) (hs : s.size ≤ maxLen) :
    Calls Tryz.prog 26 #[.string s] w (MomPost (Dt.cookie s.data.toList) w) := by
  have z0 := zeroTold
  have HPost : Hid (∀ T n b w', Dt.told s.data.toList = T → Dt.moment T = (n, b) → Below w.heap.size w w' → MomPost (Dt.cookie s.data.toList) w (.returned (.tuple #[.int .i64 n, .bool b])) w') := Lib.hid (fun T n b w' h1 h2 k => mom_post (by unfold Dt.cookie; rw [h1, h2]) k)
  generalize hpost : MomPost (Dt.cookie s.data.toList) w = post at *
  clear hpost
  have HT0 : Hid ((Dt.toks s.data.toList).foldl Dt.tell Dt.untold = Dt.told s.data.toList) := Lib.hid rfl
  generalize Dt.told s.data.toList = res at *
  have HS := Lib.hid hs
  have HW : Hid (∀ W, Below w.heap.size w W → Cal W) := Lib.hid (fun W h => hw.below h)
  clear hs hw
  go_enter Tryz.func26, Tryz.ntmps26
  go_wp2_with fail
  have R0 := Row.new w 65 (toldA Dt.untold)
  have K0 : KeptT w.heap.size Dt.untold w (w.alloc (.cells (toldA Dt.untold) 65)) := ⟨R0, (Below.refl w.heap.size w).alloc (Nat.le_refl _) _⟩
  generalize w.alloc (.cells (toldA Dt.untold) 65) = w0 at *
  clear R0
  go_loopw [5] (fun v wr => ∃ (u : ByteArray) (T : Dt.Told), v = .string u ∧ u.size ≤ s.size ∧ (Dt.toks u.data.toList).foldl Dt.tell T = res ∧ KeptT w.heap.size T w wr) (fun v _ => match v with | .string u => u.size | _ => 0)
  case atStart => exact ⟨s, _, rfl, Nat.le_refl _, HT0.out, K0⟩
  case round =>
    clear K0
    obtain ⟨u, T, rfl, hus, hT, K⟩ := hrel
    have hum : u.size ≤ maxLen := Nat.le_trans hus HS.out
    by_cases hu : u.size = 0
    · have hn : u.data.toList = [] := (Oct.nil_size u).2 hu
      rw [hn, Dt.fold_nil] at hT
      have hne : u.toList.isEmpty = true := by rw [Oct.bytes_data, hn]; rfl
      have HM := Lib.hid (moment_calls T w.heap.size wr (HW.out wr K.below) K.row)
      unfold MomPost at HM
      rcases hmo : Dt.moment T with ⟨n, b⟩
      rw [hmo] at HM
      have HR := Lib.hid (fun w' hb => HPost.out T n b w' hT.symm hmo hb)
      have B := K.below
      clear hmo hT hn hum
      go_wp2_with (go_at_call 52; refine HM.out.mono ?_; rintro e w2 ⟨rfl, b2⟩)
      have h := HR.out w2 (B.trans (b2.mono B.size))
      first | exact h | (go_ret2; exact h)
    · have HCut := Lib.hid (fun W => cutToken_calls u W hum)
      unfold TwoTexts at HCut
      obtain ⟨l1, l2⟩ := cutP_size u
      rw [Dt.fold_cutP] at hT
      obtain ⟨p, hp⟩ : ∃ x : ByteArray, (⟨(Dt.cutP u.data.toList).1.toArray⟩ : ByteArray) = x := ⟨_, rfl⟩
      obtain ⟨r, hr⟩ : ∃ x : ByteArray, (⟨(Dt.cutP u.data.toList).2.toArray⟩ : ByteArray) = x := ⟨_, rfl⟩
      have hpd : p.data.toList = (Dt.cutP u.data.toList).1 := by rw [← hp]
      have hrd : r.data.toList = (Dt.cutP u.data.toList).2 := by rw [← hr]
      rw [hp, hr] at HCut
      rw [← hpd, ← hrd] at hT
      rw [← hpd, Oct.length_bytes] at l1
      rw [← hrd, Oct.length_bytes] at l2
      have HTe := Lib.hid (fun g W hw0 hR => tell_calls T p g W hw0 hR (Nat.le_trans l1 hum))
      unfold TellPost at HTe
      generalize Dt.tell T p.data.toList = T2 at *
      have hne : u.toList.isEmpty = false := by
        rw [Oct.bytes_data, Bool.eq_false_iff]
        intro h
        exact hu ((Oct.nil_size u).1 (List.isEmpty_iff.1 h))
      clear hp hr hpd hrd hum
      have HT := Lib.hid hT
      clear hT
      go_wp2_with fail
      refine (HCut.out _).mono ?_
      rintro e w2 ⟨rfl, b2⟩
      have K2 := K.on b2
      go_wp2_with fail
      refine (HTe.out _ _ (fun W hW => HW.out W (K2.below.trans hW)) K2.row).mono ?_
      rintro e w3 ⟨rfl, k3⟩
      have K3 : KeptT w.heap.size T2 w w3 := ⟨k3.row, K2.below.trans k3.below⟩
      go_wp2
      go_roundw
      case rel => exact ⟨r, T2, rfl, by omega, HT.out, K3⟩
      case measure => simp; omega
end Go.Proofs.YtpimaobejjpffaaGreatDoor
