/- The walk of the reference's part. -/
import Derived.Test.YtcookddgaomkiaaGreatDoorRefGroup
import Derived.Test.YtcookddgaomkiaaGreatDoorPlains
import Derived.Test.YtcookddgaomkiaaGreatDoorArrays
namespace Go.Proofs.YtcookddgaomkiaaGreatDoor
open Go.RowKit
def PartText (a : List UInt8) (f t : Nat) (w : World) (e : Ending) (w' : World) : Prop := e = .returned (.string ⟨(Adr.pt (Adr.groups a) f t).toArray⟩) ∧ Below w.heap.size w w'
set_option maxRecDepth 100000 in
set_option maxHeartbeats 4000000 in
theorem refPart_calls (a : List UInt8) (ha : a.length = 16) (f t : Nat) (hft : f ≤ t) (ht : t ≤ 8) (w : World) :
    Calls Tryz.prog 58 #[.agg (bytesA a), .int .i64 (f : Int), .int .i64 (t : Int)] w (PartText a f t w) := by
  have HG := Lib.hid (fun k hk g hg W => refGroup_calls a ha k hk g hg W)
  have HZ := Lib.hid (show (bytesA a).size = 16 by rw [bytesA_size, ha])
  have HL := Lib.hid (Adr.groups_length 8 a ha)
  have HPT := Lib.hid (show True from trivial)
  obtain ⟨gs, hgs⟩ : ∃ gs, gs = Adr.groups a := ⟨_, rfl⟩
  have HR : Hid (PartText a f t w = fun e w' => e = .returned (.string ⟨(Adr.pt gs f t).toArray⟩) ∧ Below w.heap.size w w') := Lib.hid (by rw [hgs]; rfl)
  rw [HR.out]
  rw [← hgs] at HG HL
  clear hgs HPT HR ha
  have R0 := Row.new w 23 (bytesA a)
  have B0 := (Below.refl w.heap.size w).alloc (Nat.le_refl _) (.cells (bytesA a) 23)
  go_enter Tryz.func58, Tryz.ntmps58
  go_wp2_with fail
  generalize w.alloc (.cells (bytesA a) 23) = w0 at *
  go_loopw [7, 8] (fun v i wr => ∃ (k : Nat) (o : ByteArray), f ≤ k ∧ k ≤ t ∧ i = .int .i64 (k : Int) ∧ v = .string o ∧ Hid (o.data.toList = Adr.pt gs f k) ∧ o.size ≤ 40 ∧ Row wr w.heap.size 23 (bytesA a) ∧ Below w.heap.size w wr) (fun _ i _ => t - (intOf i).toNat)
  case atStart => exact ⟨f, ⟨#[]⟩, Nat.le_refl _, hft, rfl, rfl, (Adr.pt_start gs f).symm, by decide, R0, B0⟩
  case round =>
    clear R0 B0
    obtain ⟨k, o, hfk, hkt, rfl, rfl, HO, ho, R, hb⟩ := hrel
    by_cases hlt : k < t
    · obtain ⟨x, hx⟩ : ∃ x, gs[k]? = some x := ⟨_, List.getElem?_eq_getElem (by rw [HL.out]; omega)⟩
      have HC := Lib.hid (HG.out k (by omega) x hx)
      have HH := Lib.hid (fun W => refHex_calls x.toNat x.toNat_lt W)
      unfold HexDrawn at HH
      have hl4 := (Adr.hexT_length x.toNat).2
      obtain ⟨X, hX⟩ : ∃ X : ByteArray, X = ⟨(Adr.hexT x.toNat).toArray⟩ := ⟨_, rfl⟩
      have hXs : X.size ≤ 4 := by rw [hX]; show (List.toArray _).size ≤ 4; rw [List.size_toArray]; exact hl4
      rw [← hX] at HH
      have HPL := Lib.hid (Adr.pt_length gs f (k + 1) (by omega))
      have cs : (⟨#[58]⟩ : ByteArray).size = 1 := rfl
      by_cases hkf : f < k
      · have HN := Lib.hid (show (o ++ ⟨#[58]⟩ ++ X).data.toList = Adr.pt gs f (k + 1) by rw [Adr.pt_next hkf hx, ← HO.out, hX]; simp [ByteArray.data_append])
        have q0 : ¬ 9223372036854775807 < o.size + 1 := by omega
        have q1 : ¬ 9223372036854775807 < o.size + 1 + X.size := by omega
        clear hx hX HO hl4
        go_wp2_with (first
          | (refine at_slot 21 rfl ?_; refine load_row rfl 23 _ rfl w.heap.size rfl R Tryz.underlying23 rfl (by rw [HZ.out]; exact infoAddr) ?_)
          | (go_at_call 57; refine (HC.out _).mono ?_; rintro e w1 ⟨rfl, b1⟩)
          | (go_at_call 85; refine (HH.out _).mono ?_; rintro e w2 ⟨rfl, d2⟩))
        have R2 := (R.stays b1).stays (d2.below _)
        have B2 := hb.trans ((b1.trans ((d2.below _).mono b1.size)).mono hb.size)
        clear R hb b1 d2
        go_roundw
        case rel => exact ⟨k + 1, _, by omega, by omega, by go_num, rfl, HN.out, by rw [← Oct.length_bytes, HN.out]; exact HPL.out, R2, B2⟩
        case measure => simp [intOf]; omega
      · have hk : k = f := by omega
        subst hk
        have HN := Lib.hid (show (o ++ X).data.toList = Adr.pt gs k (k + 1) by rw [Adr.pt_first hx, ByteArray.data_append, Array.toList_append, HO.out, Adr.pt_start, hX]; rfl)
        have q1 : ¬ 9223372036854775807 < o.size + X.size := by omega
        clear hx hX HO hl4
        go_wp2_with (first
          | (refine at_slot 21 rfl ?_; refine load_row rfl 23 _ rfl w.heap.size rfl R Tryz.underlying23 rfl (by rw [HZ.out]; exact infoAddr) ?_)
          | (go_at_call 57; refine (HC.out _).mono ?_; rintro e w1 ⟨rfl, b1⟩)
          | (go_at_call 85; refine (HH.out _).mono ?_; rintro e w2 ⟨rfl, d2⟩))
        have R2 := (R.stays b1).stays (d2.below _)
        have B2 := hb.trans ((b1.trans ((d2.below _).mono b1.size)).mono hb.size)
        clear R hb b1 d2
        go_roundw
        case rel => exact ⟨k + 1, _, by omega, by omega, by go_num, rfl, HN.out, by rw [← Oct.length_bytes, HN.out]; exact HPL.out, R2, B2⟩
        case measure => simp [intOf]; omega
    · have hk : k = t := by omega
      subst hk
      go_wp2
      go_ret
      exact ⟨ret_str (by rw [← HO.out]), hb⟩
end Go.Proofs.YtcookddgaomkiaaGreatDoor
