/- Where a cookie stands: the walks of package match, and of the reference. -/
import Derived.Test.YtdfcnodlddeccaaMatchRow
import Derived.Test.YtdfcnodlddeccaaUrlRow
import Derived.Test.YtdfcnodlddeccaaCells
import Derived.Test.YtdfcnodlddeccaaQuiet
namespace Go.Proofs.Ytdfcnodlddeccaa
open Go.RowKit
theorem on_class {P : Program} {a b : World} {p : Ending → Prop} (hC : Below a.heap.size a b) {f : FuncId} {args : Array Value} (h : Calls P f args b fun e w' => p e ∧ Below b.heap.size b w') :
    Calls P f args b fun e w' => p e ∧ Below a.heap.size a w' :=
  h.mono fun _ _ ⟨h1, h2⟩ => ⟨h1, hC.trans (h2.mono hC.size)⟩
/-! ### Places as values -/
def placeA (c : Ma.Cookie) : Array Value := (strV c.name :: ((hostA c.host).toList ++ [.bool c.only, strV c.path])).toArray
theorem placeA_size (c : Ma.Cookie) (ha : c.host.addr.length = 16) : (placeA c).size = 21 := by
  unfold placeA
  rw [List.size_toArray, List.length_cons, List.length_append, hostA_list _ ha]; rfl
theorem placeA_one (c : Ma.Cookie) : (placeA c).all (·.oneCell') = true := by
  rw [Array.all_eq_true']
  intro v hv
  unfold placeA at hv
  rw [List.mem_toArray] at hv
  simp only [List.mem_cons, List.mem_append, List.not_mem_nil, or_false] at hv
  rcases hv with rfl | hv | rfl | rfl
  · rfl
  · exact hostA_ones _ v hv
  all_goals rfl
section
variable (c : Ma.Cookie) (ha : c.host.addr.length = 16)
include ha
theorem placeA_tail (i : Nat) : (placeA c)[19 + i]? = ([.bool c.only, strV c.path] : List Value)[i]? := by
  unfold placeA
  rw [List.getElem?_toArray, show 19 + i = (18 + i) + 1 by omega, List.getElem?_cons_succ]
  exact behind_host ha _ i
theorem placeA_only : (placeA c)[19]? = some (.bool c.only) := placeA_tail c ha 0
theorem placeA_path : (placeA c)[20]? = some (strV c.path) := placeA_tail c ha 1
theorem placeA_host : (placeA c).extract 1 19 = hostA c.host := by
  apply Array.ext'
  rw [Array.toList_extract]
  unfold placeA
  show List.take 18 ((hostA c.host).toList ++ _) = _
  exact take_host ha _
end
theorem placeA_name (c : Ma.Cookie) : (placeA c)[0]? = some (strV c.name) := rfl
def Ma.zero : Ma.Cookie := ⟨[], [], Hst.zero, false, [], false, false, 0, 0, 0, 0, 0⟩
theorem zeroPlace : #[Value.string ⟨#[]⟩, .int .i64 0, .string ⟨#[]⟩, .int .u8 0, .int .u8 0, .int .u8 0, .int .u8 0, .int .u8 0, .int .u8 0, .int .u8 0, .int .u8 0, .int .u8 0, .int .u8 0, .int .u8 0, .int .u8 0, .int .u8 0, .int .u8 0, .int .u8 0, .int .u8 0, .bool false, .string ⟨#[]⟩] = placeA Ma.zero := by rfl
theorem eq_placeFields {f0 f1 f2 f3 : Field} (n0 : f0.name ≠ "_") (n1 : f1.name ≠ "_") (n2 : f2.name ≠ "_") (n3 : f3.name ≠ "_") (o0 : f0.offset = 0) (o1 : f1.offset = 1) (o2 : f2.offset = 19) (o3 : f3.offset = 20)
    (t0 : f0.type = 9) (t1 : f1.type = 32) (t2 : f2.type = 4) (t3 : f3.type = 9)
    (u v : Ma.Cookie) (hu : u.host.addr.length = 16) (hv : v.host.addr.length = 16) (d : Nat) (W : World) :
    (Op.eqFields (d + 3) (placeA u) (placeA v) [f0, f1, f2, f3]).run Try.prog W = .ok (Ma.key u v) W := by
  obtain ⟨ih, hih⟩ := infoSomeH
  have a0 : (part f0.type (placeA u) f0.offset).run Try.prog W = .ok (strV u.name) W := run_part_plain W (by rw [t0]; kernel_rfl) (by rw [o0]; exact placeA_name u)
  have b0 : (part f0.type (placeA v) f0.offset).run Try.prog W = .ok (strV v.name) W := run_part_plain W (by rw [t0]; kernel_rfl) (by rw [o0]; exact placeA_name v)
  have a1 : (part f1.type (placeA u) f1.offset).run Try.prog W = .ok (.agg (hostA u.host)) W := by
    rw [t1, run_part_struct Try.underlying32 hih, cellsHost1, o1, placeA_host u hu]
  have b1 : (part f1.type (placeA v) f1.offset).run Try.prog W = .ok (.agg (hostA v.host)) W := by
    rw [t1, run_part_struct Try.underlying32 hih, cellsHost1, o1, placeA_host v hv]
  have a2 : (part f2.type (placeA u) f2.offset).run Try.prog W = .ok (.bool u.only) W := run_part_plain W (by rw [t2]; kernel_rfl) (by rw [o2]; exact placeA_only u hu)
  have b2 : (part f2.type (placeA v) f2.offset).run Try.prog W = .ok (.bool v.only) W := run_part_plain W (by rw [t2]; kernel_rfl) (by rw [o2]; exact placeA_only v hv)
  have a3 : (part f3.type (placeA u) f3.offset).run Try.prog W = .ok (strV u.path) W := run_part_plain W (by rw [t3]; kernel_rfl) (by rw [o3]; exact placeA_path u hu)
  have b3 : (part f3.type (placeA v) f3.offset).run Try.prog W = .ok (strV v.path) W := run_part_plain W (by rw [t3]; kernel_rfl) (by rw [o3]; exact placeA_path v hv)
  have qs : ∀ (t : TypeId), t = 9 → ∀ x y : List UInt8, (Op.equalIn (d + 3) t (strV x) (strV y)).run Try.prog W = .ok (decide (x = y)) W := fun t ht x y => by
    unfold strV
    rw [run_equalIn_string W (d + 2) t _ _ (by rw [ht]; exact Try.underlying9), Oct.bytes_data, Oct.bytes_data]
    refine congrArg (fun b => Result.ok b W) ?_
    rw [Bool.eq_iff_iff]
    simp
  have q0 := qs f0.type t0 u.name v.name
  have q1 : (Op.equalIn (d + 3) f1.type (.agg (hostA u.host)) (.agg (hostA v.host))).run Try.prog W = .ok (decide (u.host = v.host)) W := by
    rw [t1]; exact eq_host_at u.host v.host hu hv d W
  have q2 : (Op.equalIn (d + 3) f2.type (.bool u.only) (.bool v.only)).run Try.prog W = .ok (u.only == v.only) W := run_equalIn_bool W (d + 2) f2.type _ _ (by rw [t2]; exact Try.underlying4)
  have q3 := qs f3.type t3 u.path v.path
  have hd : Ma.key u v = (decide (u.name = v.name) && (decide (u.host = v.host) && ((u.only == v.only) && decide (u.path = v.path)))) := by
    unfold Ma.key
    rw [Bool.eq_iff_iff]
    simp only [decide_eq_true_eq, Bool.and_eq_true, beq_iff_eq, and_assoc]
  rw [hd]
  simp only [Op.eqFields, Sem.run_bind, a0, b0, a1, b1, a2, b2, a3, b3, q0, q1, q2, q3, Result.andThen_ok, Sem.run_ite, Sem.run_pure, ne_eq, n0, n1, n2, n3, not_false_eq_true, if_true]
  cases decide (u.name = v.name) <;> cases decide (u.host = v.host) <;> cases (u.only == v.only) <;> cases decide (u.path = v.path) <;> rfl
/-! ### The walks -/
end Go.Proofs.Ytdfcnodlddeccaa
