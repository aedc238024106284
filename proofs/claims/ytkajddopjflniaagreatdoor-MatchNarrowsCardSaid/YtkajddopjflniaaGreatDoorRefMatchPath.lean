/- The walks of the reference's calls of layer 9 on paths. -/
import Derived.Test.YtkajddopjflniaaGreatDoorMatchMore
import Derived.Test.YtkajddopjflniaaGreatDoorOctets
namespace Go.Proofs.YtkajddopjflniaaGreatDoor
open Go.RowKit
namespace Ma
theorem take_bytes {p f : ByteArray} : ((p.extract 0 f.size).toList == f.toList) = decide (p.data.toList.take f.data.toList.length = f.data.toList) := by
  rw [Oct.bytes_data, Oct.bytes_data, extract_take, Oct.length_bytes, Bool.eq_iff_iff]
  simp
theorem edge_bytes {p f : ByteArray} (h : f.size < p.size) : edge p.data.toList f.data.toList = (((p[f.size].toNat : Int) == 47) || decide (f.data.toList.getLast? = some 47)) := by
  have hl : f.data.toList.length < p.data.toList.length := by rw [Oct.length_bytes, Oct.length_bytes]; exact h
  rw [edge_byte hl]
  congr 1
  have e : p.data.toList[f.data.toList.length] = p[f.size] := by
    simp only [Oct.length_bytes]
    exact Oct.getElem_bytes p f.size h
  rw [e, Bool.eq_iff_iff, decide_eq_true_eq, beq_iff_eq]
  constructor
  · intro k; rw [k]; rfl
  · intro k; exact Oct.eq_of_toNat (by have : (47 : UInt8).toNat = 47 := rfl; omega)
theorem last_byte {f : ByteArray} (h : f.size - 1 < f.size) : decide (f.data.toList.getLast? = some 47) = ((f[f.size - 1].toNat : Int) == 47) := by
  rw [Oct.last_bytes f h, Bool.eq_iff_iff, decide_eq_true_eq, beq_iff_eq, Option.some.injEq]
  constructor
  · intro k; rw [k]; rfl
  · intro k; exact Oct.eq_of_toNat (by have : (47 : UInt8).toNat = 47 := rfl; omega)
end Ma
set_option maxHeartbeats 1000000 in
theorem refMPath_calls (p f : ByteArray) (w : World) (hfs : f.size ≤ 1099511627776) :
    Calls Tryz.prog 20 #[.string p, .string f] w fun e w' => e = .returned (.bool (Ma.path p.data.toList f.data.toList)) ∧ w = w' := by
  by_cases he : p = f
  · subst he
    have e1 : (p.toList == p.toList) = true := by simp
    have HR := Lib.hid (Ma.path_self p.data.toList)
    generalize Ma.path p.data.toList p.data.toList = B at *
    go_enter Tryz.func20, Tryz.ntmps20
    go_wp2
    go_ret
    exact ⟨ret_bool HR.out.symm, rfl⟩
  have hne : p.data.toList ≠ f.data.toList := fun k => he (by rw [← mk_bytes p, ← mk_bytes f, k])
  have e1 : (p.toList == f.toList) = false := by rw [Oct.bytes_data, Oct.bytes_data, beq_eq_false_iff_ne]; exact hne
  by_cases hl : p.size ≤ f.size
  · have HR := Lib.hid (Ma.path_short hne (by rw [Oct.length_bytes, Oct.length_bytes]; exact hl))
    have e2 : (p.size : Int) ≤ (f.size : Int) := by omega
    generalize Ma.path p.data.toList f.data.toList = B at *
    clear he hne hl
    go_enter Tryz.func20, Tryz.ntmps20
    go_wp2
    go_ret
    exact ⟨ret_bool HR.out.symm, rfl⟩
  have hlt : f.size < p.size := by omega
  have hlen : f.data.toList.length < p.data.toList.length := by rw [Oct.length_bytes, Oct.length_bytes]; exact hlt
  have e2 : ¬ (p.size : Int) ≤ (f.size : Int) := by omega
  have e3 : (f.size : Int) ≤ (p.size : Int) := by omega
  have e4 : (f.size : Int) < (p.size : Int) := by omega
  by_cases ht : p.data.toList.take f.data.toList.length = f.data.toList
  · have e5 : ((p.extract 0 f.size).toList == f.toList) = true := by rw [Ma.take_bytes, decide_eq_true ht]
    have HR := Lib.hid ((Ma.path_edge hlen ht).trans (Ma.edge_bytes hlt))
    generalize Ma.path p.data.toList f.data.toList = B at *
    clear he hne hl hlen ht
    cases hb : ((p[f.size].toNat : Int) == 47) with
    | true =>
      rw [hb] at HR
      go_enter Tryz.func20, Tryz.ntmps20
      go_wp2
      go_ret
      exact ⟨ret_bool HR.out.symm, rfl⟩
    | false =>
      rw [hb] at HR
      by_cases hz : f.size = 0
      · have hf : f.data.toList = [] := (Oct.nil_size f).2 hz
        have HR2 : Hid (B = false) := Lib.hid (by rw [HR.out, hf]; rfl)
        have e6 : ¬ (0 : Int) < (f.size : Int) := by omega
        clear HR hf hz
        go_enter Tryz.func20, Tryz.ntmps20
        go_wp2
        go_ret
        exact ⟨ret_bool HR2.out.symm, rfl⟩
      · have e6 : (0 : Int) < (f.size : Int) := by omega
        have e7 : ((f.size : Int) - 1).toNat = f.size - 1 := by omega
        have e8 : f.size - 1 < f.size := by omega
        rw [Ma.last_byte e8] at HR
        clear hz
        go_enter Tryz.func20, Tryz.ntmps20
        go_wp2
        go_ret
        exact ⟨ret_bool HR.out.symm, rfl⟩
  · have e5 : ((p.extract 0 f.size).toList == f.toList) = false := by rw [Ma.take_bytes, decide_eq_false ht]
    have HR := Lib.hid (Ma.path_other hlen ht)
    generalize Ma.path p.data.toList f.data.toList = B at *
    clear he hne hl hlen ht
    go_enter Tryz.func20, Tryz.ntmps20
    go_wp2
    go_ret
    exact ⟨ret_bool HR.out.symm, rfl⟩
end Go.Proofs.YtkajddopjflniaaGreatDoor
