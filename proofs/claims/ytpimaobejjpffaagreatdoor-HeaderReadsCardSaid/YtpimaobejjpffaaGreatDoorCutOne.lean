/- The walk of strings.Cut at one byte, of texts of any length. -/
import Derived.Test.YtpimaobejjpffaaGreatDoorStd
import Derived.Test.YtpimaobejjpffaaGreatDoorHeaders
import Derived.Shelf.Strings.Search2
import Derived.Shelf.Strings.Cut
namespace Go.Proofs.YtpimaobejjpffaaGreatDoor
open Go.RowKit
theorem indexOne_calls (s : ByteArray) (c : UInt8) (w : World) :
    Calls Tryz.prog 47 #[.string s, .string ⟨#[c]⟩] w fun e w' => e = .returned (.int .i64 (Lib.indexByte s.data.toList c)) ∧ w' = w :=
  Any.stringslite_Index_one { Tryz.lays145 with } s c w
theorem index_one_of (s : ByteArray) (c : UInt8) : Lib.indexByte s.data.toList c = Lib.indexB s ⟨#[c]⟩ := by
  show _ = Lib.index s.data.toList [c]
  rw [Lib.index_one]
def CutPost (s : ByteArray) (c : UInt8) (w : World) (e : Ending) (w' : World) : Prop := e = .returned (.tuple #[.string ⟨(Lib.cut s.data.toList [c]).1.toArray⟩, .string ⟨(Lib.cut s.data.toList [c]).2.1.toArray⟩, .bool (Lib.cut s.data.toList [c]).2.2]) ∧ Below w.heap.size w w'
theorem cut_post {s a b : ByteArray} {c : UInt8} {x : Bool} {w w' : World} (ha : (⟨(Lib.cut s.data.toList [c]).1.toArray⟩ : ByteArray) = a) (hb : (⟨(Lib.cut s.data.toList [c]).2.1.toArray⟩ : ByteArray) = b) (hx : (Lib.cut s.data.toList [c]).2.2 = x) (h : Below w.heap.size w w') :
    CutPost s c w (.returned (.tuple #[.string a, .string b, .bool x])) w' := by
  subst ha hb hx
  exact ⟨rfl, h⟩
set_option maxRecDepth 100000 in
set_option maxHeartbeats 2000000 in
theorem liteCut_calls (s : ByteArray) (c : UInt8) (w : World) (hs : s.size ≤ maxLen) :
    Calls Tryz.prog 23 #[.string s, .string ⟨#[c]⟩] w (CutPost s c w) := by
  unfold maxLen at hs
  have HI := Lib.hid (fun W => indexOne_calls s c W)
  have HE := Lib.hid (index_one_of s c)
  have hsz : (⟨#[c]⟩ : ByteArray).size = 1 := rfl
  rcases Lib.indexB_cases s ⟨#[c]⟩ with hix | ⟨i, hix, hroom⟩
  · obtain ⟨e1, e2, e3⟩ := Lib.cutB_miss s ⟨#[c]⟩ hix
    have HQ : Hid (∀ w', Below w.heap.size w w' → CutPost s c w (.returned (.tuple #[.string s, .string ByteArray.empty, .bool false])) w') := Lib.hid (fun w' h => cut_post e1 e2 e3 h)
    rw [HE.out, hix] at HI
    clear e1 e2 e3 hix HE
    generalize CutPost s c w = post at *
    go_enter Tryz.func23, Tryz.ntmps23
    go_wp2_with (go_at_call 47; refine (HI.out _).mono ?_; rintro e w' ⟨rfl, rfl⟩)
    have h := HQ.out _ (Below.refl _ _)
    first | exact h | (go_ret3; exact h)
  · obtain ⟨e1, e2, e3⟩ := Lib.cutB_hit s ⟨#[c]⟩ i hix
    rw [hsz] at hroom e2
    have HQ : Hid (∀ w', Below w.heap.size w w' → CutPost s c w (.returned (.tuple #[.string (s.extract 0 i), .string (s.extract (i + 1) s.size), .bool true])) w') := Lib.hid (fun w' h => cut_post e1 e2 e3 h)
    rw [HE.out, hix] at HI
    have c1 : (0 : Int) ≤ ↑i := by omega
    have c2 : (↑i : Int) ≤ ↑s.size := by omega
    have c3 : (0 : Int) ≤ ↑i + 1 := by omega
    have c4 : (↑i + 1 : Int) ≤ ↑s.size := by omega
    clear e1 e2 e3 hix HE
    generalize CutPost s c w = post at *
    go_enter Tryz.func23, Tryz.ntmps23
    go_wp2_with (go_at_call 47; refine (HI.out _).mono ?_; rintro e w' ⟨rfl, rfl⟩)
    go_region
    go_wp2
    have h := HQ.out _ (Below.refl _ _).drew
    first | exact h | (go_ret3; exact h)
set_option maxRecDepth 100000 in
set_option maxHeartbeats 1000000 in
/-- strings.Cut at one byte. -/
theorem cutOne_calls (s : ByteArray) (c : UInt8) (w : World) (hs : s.size ≤ maxLen) :
    Calls Tryz.prog 9 #[.string s, .string ⟨#[c]⟩] w (CutPost s c w) := by
  have HI := Lib.hid (fun W => liteCut_calls s c W hs)
  unfold CutPost at HI ⊢
  generalize (Lib.cut s.data.toList [c]).1 = a at *
  generalize (Lib.cut s.data.toList [c]).2.1 = b at *
  generalize (Lib.cut s.data.toList [c]).2.2 = x at *
  go_enter Tryz.func9, Tryz.ntmps9
  go_wp2_with (go_at_call 23; refine (HI.out _).mono ?_; rintro e w1 ⟨rfl, b1⟩)
  first | exact ⟨rfl, b1⟩ | (go_ret3; exact ⟨rfl, b1⟩)
end Go.Proofs.YtpimaobejjpffaaGreatDoor
