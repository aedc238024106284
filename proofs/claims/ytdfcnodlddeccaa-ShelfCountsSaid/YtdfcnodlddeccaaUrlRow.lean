/- URLs as values, and held against each other. -/
import Derived.Test.YtdfcnodlddeccaaCells
import Derived.Test.YtdfcnodlddeccaaPlains
import Derived.Laws.Small
namespace Go.Proofs.Ytdfcnodlddeccaa
open Go.RowKit
/-- A URL as a value. -/
def urlA (u : Ur.URL) : Array Value := (Value.bool u.secure :: Value.int .i64 u.host.kind :: strV u.host.name :: (u.host.addr.map byteV ++ [Value.int .i64 u.port, strV u.path])).toArray
theorem urlA_size (u : Ur.URL) (ha : u.host.addr.length = 16) : (urlA u).size = 21 := by simp [urlA, ha]
theorem urlA_one (u : Ur.URL) : (urlA u).all (·.oneCell') = true := by simp [urlA, byteV, strV, Value.oneCell']
theorem urlA_secure (u : Ur.URL) : (urlA u)[0]? = some (.bool u.secure) := rfl
theorem urlA_port (u : Ur.URL) (ha : u.host.addr.length = 16) : (urlA u)[19]? = some (.int .i64 u.port) := by
  unfold urlA
  rw [List.getElem?_toArray]
  show (u.host.addr.map byteV ++ [Value.int .i64 u.port, strV u.path])[16]? = _
  rw [List.getElem?_append_right (by simp [ha])]
  simp [ha]
theorem urlA_path (u : Ur.URL) (ha : u.host.addr.length = 16) : (urlA u)[20]? = some (strV u.path) := by
  unfold urlA
  rw [List.getElem?_toArray]
  show (u.host.addr.map byteV ++ [Value.int .i64 u.port, strV u.path])[17]? = _
  rw [List.getElem?_append_right (by simp [ha])]
  simp [ha]
theorem urlA_host (u : Ur.URL) (ha : u.host.addr.length = 16) : (urlA u).extract 1 19 = hostA u.host := by
  apply Array.ext'
  rw [Array.toList_extract]
  unfold urlA hostA
  have e : List.take 16 (List.map byteV u.host.addr ++ [Value.int .i64 u.port, strV u.path]) = List.map byteV u.host.addr := by
    rw [List.take_append_of_le_length (by simp [ha]), List.take_of_length_le (by simp [ha])]
  simp [List.extract, e]
theorem zeroURL : #[Value.bool false, .int .i64 0, .string ⟨#[]⟩, .int .u8 0, .int .u8 0, .int .u8 0, .int .u8 0, .int .u8 0, .int .u8 0, .int .u8 0, .int .u8 0, .int .u8 0, .int .u8 0, .int .u8 0, .int .u8 0, .int .u8 0, .int .u8 0, .int .u8 0, .int .u8 0, .int .i64 0, .string ⟨#[]⟩] = urlA Ur.zero := by rfl
/-! ### Two URLs -/
theorem run_part_struct {P : Program} {W : World} {t : TypeId} {fs : Array Field} {i : TypeInfo} {xs : Array Value} {off : Nat} (ht : P.underlying t = some (.struct fs)) (hi : P.info? t = some i) : (part t xs off).run P W = .ok (.agg (xs.extract off (off + P.cellsOf t))) W := by
  have hs := run_sizeOf (w := W) hi
  simp [part, isAgg, run_underlying ht, hs]
theorem eq_host_at (h g : Hst.Host) (hh : h.addr.length = 16) (hg : g.addr.length = 16) (d : Nat) (W : World) :
    (Op.equalIn (d + 3) 32 (.agg (hostA h)) (.agg (hostA g))).run Try.prog W = .ok (decide (h = g)) W := by
  obtain ⟨ie, hie⟩ := infoSome8
  obtain ⟨ia, hia⟩ := infoSomeA
  obtain ⟨f0, f1, f2, hf⟩ : ∃ f0 f1 f2, Try.prog.underlying 32 = some (.struct #[f0, f1, f2]) ∧ (f0.name ≠ "_" ∧ f1.name ≠ "_" ∧ f2.name ≠ "_") ∧ (f0.offset = 0 ∧ f1.offset = 1 ∧ f2.offset = 2) ∧ f0.type = 3 ∧ f1.type = 9 ∧ f2.type = 30 :=
    ⟨_, _, _, Try.underlying32, ⟨by decide, by decide, by decide⟩, ⟨rfl, rfl, rfl⟩, rfl, rfl, rfl⟩
  obtain ⟨hu, ⟨n0, n1, n2⟩, ⟨o0, o1, o2⟩, t0, t1, t2⟩ := hf
  have hl : Try.prog.fieldsOf 32 = #[f0, f1, f2] := by unfold Program.fieldsOf; rw [hu]
  rw [run_equalIn_struct W (d + 2) 32 _ _ (by rw [hl]; exact hu) (by kernel_rfl), hl]
  exact eq_fields n0 n1 n2 o0 o1 o2 (by rw [t0]; exact Try.underlying3) (by rw [t1]; exact Try.underlying9) (by rw [t2]; exact Try.underlying30) Try.underlying5
    (by rw [t0]; kernel_rfl) (by rw [t1]; kernel_rfl) (by kernel_rfl) (by rw [t2]; exact hia) hie (by kernel_rfl) (by rw [t2]; kernel_rfl) h g hh hg d W
theorem infoSomeH : ∃ i, Try.prog.info? 32 = some i := Option.isSome_iff_exists.1 (by kernel_rfl)
theorem cellsHost1 : Try.prog.cellsOf 32 = 18 := by kernel_rfl
theorem eq_urlFields {f0 f1 f2 f3 : Field} (n0 : f0.name ≠ "_") (n1 : f1.name ≠ "_") (n2 : f2.name ≠ "_") (n3 : f3.name ≠ "_") (o0 : f0.offset = 0) (o1 : f1.offset = 1) (o2 : f2.offset = 19) (o3 : f3.offset = 20)
    (t0 : f0.type = 4) (t1 : f1.type = 32) (t2 : f2.type = 3) (t3 : f3.type = 9)
    (u v : Ur.URL) (hu : u.host.addr.length = 16) (hv : v.host.addr.length = 16) (d : Nat) (W : World) :
    (Op.eqFields (d + 3) (urlA u) (urlA v) [f0, f1, f2, f3]).run Try.prog W = .ok (decide (u = v)) W := by
  obtain ⟨ih, hih⟩ := infoSomeH
  have a0 : (part f0.type (urlA u) f0.offset).run Try.prog W = .ok (.bool u.secure) W := run_part_plain W (by rw [t0]; kernel_rfl) (by rw [o0]; rfl)
  have b0 : (part f0.type (urlA v) f0.offset).run Try.prog W = .ok (.bool v.secure) W := run_part_plain W (by rw [t0]; kernel_rfl) (by rw [o0]; rfl)
  have a1 : (part f1.type (urlA u) f1.offset).run Try.prog W = .ok (.agg (hostA u.host)) W := by
    rw [t1, run_part_struct Try.underlying32 hih, cellsHost1, o1, urlA_host u hu]
  have b1 : (part f1.type (urlA v) f1.offset).run Try.prog W = .ok (.agg (hostA v.host)) W := by
    rw [t1, run_part_struct Try.underlying32 hih, cellsHost1, o1, urlA_host v hv]
  have a2 : (part f2.type (urlA u) f2.offset).run Try.prog W = .ok (.int .i64 u.port) W := run_part_plain W (by rw [t2]; kernel_rfl) (by rw [o2]; exact urlA_port u hu)
  have b2 : (part f2.type (urlA v) f2.offset).run Try.prog W = .ok (.int .i64 v.port) W := run_part_plain W (by rw [t2]; kernel_rfl) (by rw [o2]; exact urlA_port v hv)
  have a3 : (part f3.type (urlA u) f3.offset).run Try.prog W = .ok (strV u.path) W := run_part_plain W (by rw [t3]; kernel_rfl) (by rw [o3]; exact urlA_path u hu)
  have b3 : (part f3.type (urlA v) f3.offset).run Try.prog W = .ok (strV v.path) W := run_part_plain W (by rw [t3]; kernel_rfl) (by rw [o3]; exact urlA_path v hv)
  have q0 : (Op.equalIn (d + 3) f0.type (.bool u.secure) (.bool v.secure)).run Try.prog W = .ok (u.secure == v.secure) W := run_equalIn_bool W (d + 2) f0.type _ _ (by rw [t0]; exact Try.underlying4)
  have q1 : (Op.equalIn (d + 3) f1.type (.agg (hostA u.host)) (.agg (hostA v.host))).run Try.prog W = .ok (decide (u.host = v.host)) W := by
    rw [t1]; exact eq_host_at u.host v.host hu hv d W
  have q2 : (Op.equalIn (d + 3) f2.type (.int .i64 u.port) (.int .i64 v.port)).run Try.prog W = .ok (u.port == v.port) W := run_equalIn_int W (d + 2) f2.type .i64 .i64 _ _ (by rw [t2]; exact Try.underlying3)
  have q3 : (Op.equalIn (d + 3) f3.type (strV u.path) (strV v.path)).run Try.prog W = .ok (decide (u.path = v.path)) W := by
    unfold strV
    rw [run_equalIn_string W (d + 2) f3.type _ _ (by rw [t3]; exact Try.underlying9), Oct.bytes_data, Oct.bytes_data]
    refine congrArg (fun b => Result.ok b W) ?_
    rw [Bool.eq_iff_iff]
    simp
  have hd : decide (u = v) = ((u.secure == v.secure) && (decide (u.host = v.host) && ((u.port == v.port) && decide (u.path = v.path)))) := by
    rw [Bool.eq_iff_iff]
    simp only [decide_eq_true_eq, Bool.and_eq_true, beq_iff_eq]
    constructor
    · rintro rfl; exact ⟨rfl, rfl, rfl, rfl⟩
    · rintro ⟨e0, e1, e2, e3⟩
      cases u; cases v
      simp only at e0 e1 e2 e3
      rw [e0, e1, e2, e3]
  rw [hd]
  simp only [Op.eqFields, Sem.run_bind, a0, b0, a1, b1, a2, b2, a3, b3, q0, q1, q2, q3, Result.andThen_ok, Sem.run_ite, Sem.run_pure, ne_eq, n0, n1, n2, n3, not_false_eq_true, if_true]
  cases (u.secure == v.secure) <;> cases decide (u.host = v.host) <;> cases (u.port == v.port) <;> cases decide (u.path = v.path) <;> rfl
/-- A URL, and the error's number. -/
def NewURL (o : Int × Ur.URL) (w : World) (e : Ending) (w' : World) : Prop := e = .returned (.tuple #[.agg (urlA o.2), .int .i64 o.1]) ∧ Below w.heap.size w w'
end Go.Proofs.Ytdfcnodlddeccaa
