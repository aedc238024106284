/- What the variables that are read here hold: the lengths and the names of months, the names of days; what of the library is called. -/
import Derived.Test.YtpimaobejjpffaaGreatDoorStd
import Derived.Test.YtpimaobejjpffaaGreatDoorCells
import Derived.Test.YtpimaobejjpffaaGreatDoorDateWays
import Derived.Lib.LaidTab
import Derived.Shelf.Strings.SlTrimAscii
import Derived.Lib.SmallJoins
namespace Go.Proofs.YtpimaobejjpffaaGreatDoor
open Go.RowKit Go.Lib
def monthTab : List Int := [31, 28, 31, 30, 31, 30, 31, 31, 30, 31, 30, 31]
structure Cal (w : World) : Prop where
  std : Std w
  lens : Lib.TabIs Tryz.prog w "cracknel/date.monthLengths" .i64 monthTab
  names : w.var? Tryz.prog "cracknel/date.monthNames" = some (textsA Dt.mnames)
  week : w.var? Tryz.prog "cracknel/date.weekDays" = some (textsA Dt.wdays)
theorem gLens : Tryz.prog.globalNamed "cracknel/date.monthLengths" = some 4 := by kernel_rfl
theorem gNames : Tryz.prog.globalNamed "cracknel/date.monthNames" = some 2 := by kernel_rfl
theorem gWeek : Tryz.prog.globalNamed "cracknel/date.weekDays" = some 1 := by kernel_rfl
theorem Cal.below {w w' : World} (h : Cal w) (hb : Below w.heap.size w w') : Cal w' :=
  ⟨h.std.below hb, Go.Joins.tab_stays gLens h.lens hb (Nat.le_refl _), Go.Joins.var_stays gNames h.names hb (Nat.le_refl _), Go.Joins.var_stays gWeek h.week hb (Nat.le_refl _)⟩
theorem Cal.len {w : World} (h : Cal w) (m : Nat) (h1 : 1 ≤ m) (h2 : m ≤ 12) : w.cell? ⟨4, m - 1, none⟩ = some (.int .i64 (Dt.len false m)) := by
  have hc := h.lens.cell gLens (m - 1) (by show m - 1 < 12; omega)
  rw [hc]
  have : m = 1 ∨ m = 2 ∨ m = 3 ∨ m = 4 ∨ m = 5 ∨ m = 6 ∨ m = 7 ∨ m = 8 ∨ m = 9 ∨ m = 10 ∨ m = 11 ∨ m = 12 := by omega
  rcases this with rfl | rfl | rfl | rfl | rfl | rfl | rfl | rfl | rfl | rfl | rfl | rfl <;> rfl
theorem Cal.name {w : World} (h : Cal w) {i : Nat} {s : List UInt8} (hs : Dt.mnames[i]? = some s) : w.cell? ⟨2, i, none⟩ = some (strV s) := by
  rw [World.var?_cell gNames h.names i, textsA_at, hs]; rfl
theorem Cal.day {w : World} (h : Cal w) {i : Nat} {s : List UInt8} (hs : Dt.wdays[i]? = some s) : w.cell? ⟨1, i, none⟩ = some (strV s) := by
  rw [World.var?_cell gWeek h.week i, textsA_at, hs]; rfl
theorem Cal.row {w : World} (h : Cal w) : ∃ t fr, w.heap[2]? = some (.cells (textsA Dt.mnames) t fr) := by
  have hn := h.names
  unfold World.var? at hn
  rw [gNames] at hn
  dsimp only [Option.bind] at hn
  split at hn
  · rename_i cs t fr hb
    cases hn
    exact ⟨t, fr, hb⟩
  · cases hn
/-- Leading digits are cut off. -/
theorem trimDigits_calls (s : ByteArray) (w : World) :
    Calls Tryz.prog 68 #[.string s, .string ⟨#[48, 49, 50, 51, 52, 53, 54, 55, 56, 57]⟩] w fun e w' => e = .returned (.string ⟨(s.data.toList.drop (Dt.lead s.data.toList)).toArray⟩) ∧ Below w.heap.size w w' := by
  refine (Any.strings_TrimLeft_laid Tryz.lays161 (by kernel_rfl) s ⟨#[48, 49, 50, 51, 52, 53, 54, 55, 56, 57]⟩ w (by decide) (ascii_of_all (by decide))).mono fun e w' ⟨h1, h2⟩ => ⟨?_, h2⟩
  rw [h1, Dt.drop_lead]
  have e : (fun c : UInt8 => [(48 : UInt8), 49, 50, 51, 52, 53, 54, 55, 56, 57].contains c) = Oct.digitB := by
    funext c
    have key : ∀ n, n < 256 → [(48 : UInt8), 49, 50, 51, 52, 53, 54, 55, 56, 57].contains (UInt8.ofNat n) = Oct.digitB (UInt8.ofNat n) := by decide +kernel
    have := key c.toNat c.toNat_lt
    rwa [UInt8.ofNat_toNat] at this
  unfold Lib.trimLeftS
  rw [← e]
theorem skipColon_calls (s : ByteArray) (w : World) :
    Calls Tryz.prog 29 #[.string s, .string ⟨#[58]⟩] w fun e w' => e = .returned (.string ⟨(Dt.skip s.data.toList).toArray⟩) ∧ w = w' :=
  (Tryz.strings_TrimPrefix s ⟨#[58]⟩ w).mono fun _ _ ⟨h1, h2⟩ => ⟨h1, h2.symm⟩
end Go.Proofs.YtpimaobejjpffaaGreatDoor
