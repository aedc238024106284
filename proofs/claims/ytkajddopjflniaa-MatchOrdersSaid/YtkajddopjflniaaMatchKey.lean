/- Where a cookie stands: the walks of package match, and of the reference. -/
import Derived.Test.YtkajddopjflniaaMatchRow
import Derived.Test.YtkajddopjflniaaUrlRow
import Derived.Test.YtkajddopjflniaaCells
import Derived.Test.YtkajddopjflniaaQuiet
namespace Go.Proofs.Ytkajddopjflniaa
open Go.RowKit
theorem on_class {P : Program} {a b : World} {p : Ending → Prop} (hC : Below a.heap.size a b) {f : FuncId} {args : Array Value} (h : Calls P f args b fun e w' => p e ∧ Below b.heap.size b w') :
    Calls P f args b fun e w' => p e ∧ Below a.heap.size a w' :=
  h.mono fun _ _ ⟨h1, h2⟩ => ⟨h1, hC.trans (h2.mono hC.size)⟩
/-! ### Places as values -/
def placeA (c : Ma.Cookie) : Array Value := (strV c.name :: ((hostA c.host).toList ++ [.bool c.only, strV c.path])).toArray
theorem placeA_size (c : Ma.Cookie) (ha : c.host.addr.length = 16) : (placeA c).size = 21 := by
  unfold placeA
  rw [List.size_toArray, List.length_cons, List.length_append, hostA_list _ ha]; rfl
theorem placeA_one (c : Ma.Cookie) : (placeA c).all (·.oneCell') = true := by
  rw [Array.all_eq_true']
  intro v hv
  unfold placeA at hv
  rw [List.mem_toArray] at hv
  simp only [List.mem_cons, List.mem_append, List.not_mem_nil, or_false] at hv
  rcases hv with rfl | hv | rfl | rfl
  · rfl
  · exact hostA_ones _ v hv
  all_goals rfl
section
variable (c : Ma.Cookie) (ha : c.host.addr.length = 16)
include ha
theorem placeA_tail (i : Nat) : (placeA c)[19 + i]? = ([.bool c.only, strV c.path] : List Value)[i]? := by
  unfold placeA
  rw [List.getElem?_toArray, show 19 + i = (18 + i) + 1 by omega, List.getElem?_cons_succ]
  exact behind_host ha _ i
theorem placeA_only : (placeA c)[19]? = some (.bool c.only) := placeA_tail c ha 0
theorem placeA_path : (placeA c)[20]? = some (strV c.path) := placeA_tail c ha 1
theorem placeA_host : (placeA c).extract 1 19 = hostA c.host := by
  apply Array.ext'
  rw [Array.toList_extract]
  unfold placeA
  show List.take 18 ((hostA c.host).toList ++ _) = _
  exact take_host ha _
end
theorem placeA_name (c : Ma.Cookie) : (placeA c)[0]? = some (strV c.name) := rfl
def Ma.zero : Ma.Cookie := ⟨[], [], Hst.zero, false, [], false, false, 0, 0, 0, 0, 0⟩
theorem zeroPlace : #[Value.string ⟨#[]⟩, .int .i64 0, .string ⟨#[]⟩, .int .u8 0, .int .u8 0, .int .u8 0, .int .u8 0, .int .u8 0, .int .u8 0, .int .u8 0, .int .u8 0, .int .u8 0, .int .u8 0, .int .u8 0, .int .u8 0, .int .u8 0, .int .u8 0, .int .u8 0, .int .u8 0, .bool false, .string ⟨#[]⟩] = placeA Ma.zero := by rfl
theorem infoPlace : (Try.prog.info? 37).map (·.size) = some 21 := by kernel_rfl
theorem built_place (c : Ma.Cookie) (ha : c.host.addr.length = 16) : Try.prog.built 37 [(0, strV c.name), (1, .agg (hostA c.host)), (2, .bool c.only), (3, strV c.path)] = some (placeA c) := by
  obtain ⟨n, v, ⟨k, m, a⟩, o, p, s, h, sm, ex, bo, us, sq⟩ := c
  obtain ⟨x0, x1, x2, x3, x4, x5, x6, x7, x8, x9, x10, x11, x12, x13, x14, x15, rfl⟩ := sixteen ha
  kernel_rfl
theorem eq_placeFields {f0 f1 f2 f3 : Field} (n0 : f0.name ≠ "_") (n1 : f1.name ≠ "_") (n2 : f2.name ≠ "_") (n3 : f3.name ≠ "_") (o0 : f0.offset = 0) (o1 : f1.offset = 1) (o2 : f2.offset = 19) (o3 : f3.offset = 20)
    (t0 : f0.type = 9) (t1 : f1.type = 28) (t2 : f2.type = 4) (t3 : f3.type = 9)
    (u v : Ma.Cookie) (hu : u.host.addr.length = 16) (hv : v.host.addr.length = 16) (d : Nat) (W : World) :
    (Op.eqFields (d + 3) (placeA u) (placeA v) [f0, f1, f2, f3]).run Try.prog W = .ok (Ma.key u v) W := by
  obtain ⟨ih, hih⟩ := infoSomeH
  have a0 : (part f0.type (placeA u) f0.offset).run Try.prog W = .ok (strV u.name) W := run_part_plain W (by rw [t0]; kernel_rfl) (by rw [o0]; exact placeA_name u)
  have b0 : (part f0.type (placeA v) f0.offset).run Try.prog W = .ok (strV v.name) W := run_part_plain W (by rw [t0]; kernel_rfl) (by rw [o0]; exact placeA_name v)
  have a1 : (part f1.type (placeA u) f1.offset).run Try.prog W = .ok (.agg (hostA u.host)) W := by
    rw [t1, run_part_struct Try.underlying28 hih, cellsHost1, o1, placeA_host u hu]
  have b1 : (part f1.type (placeA v) f1.offset).run Try.prog W = .ok (.agg (hostA v.host)) W := by
    rw [t1, run_part_struct Try.underlying28 hih, cellsHost1, o1, placeA_host v hv]
  have a2 : (part f2.type (placeA u) f2.offset).run Try.prog W = .ok (.bool u.only) W := run_part_plain W (by rw [t2]; kernel_rfl) (by rw [o2]; exact placeA_only u hu)
  have b2 : (part f2.type (placeA v) f2.offset).run Try.prog W = .ok (.bool v.only) W := run_part_plain W (by rw [t2]; kernel_rfl) (by rw [o2]; exact placeA_only v hv)
  have a3 : (part f3.type (placeA u) f3.offset).run Try.prog W = .ok (strV u.path) W := run_part_plain W (by rw [t3]; kernel_rfl) (by rw [o3]; exact placeA_path u hu)
  have b3 : (part f3.type (placeA v) f3.offset).run Try.prog W = .ok (strV v.path) W := run_part_plain W (by rw [t3]; kernel_rfl) (by rw [o3]; exact placeA_path v hv)
  have qs : ∀ (t : TypeId), t = 9 → ∀ x y : List UInt8, (Op.equalIn (d + 3) t (strV x) (strV y)).run Try.prog W = .ok (decide (x = y)) W := fun t ht x y => by
    unfold strV
    rw [run_equalIn_string W (d + 2) t _ _ (by rw [ht]; exact Try.underlying9), Oct.bytes_data, Oct.bytes_data]
    refine congrArg (fun b => Result.ok b W) ?_
    rw [Bool.eq_iff_iff]
    simp
  have q0 := qs f0.type t0 u.name v.name
  have q1 : (Op.equalIn (d + 3) f1.type (.agg (hostA u.host)) (.agg (hostA v.host))).run Try.prog W = .ok (decide (u.host = v.host)) W := by
    rw [t1]; exact eq_host_at u.host v.host hu hv d W
  have q2 : (Op.equalIn (d + 3) f2.type (.bool u.only) (.bool v.only)).run Try.prog W = .ok (u.only == v.only) W := run_equalIn_bool W (d + 2) f2.type _ _ (by rw [t2]; exact Try.underlying4)
  have q3 := qs f3.type t3 u.path v.path
  have hd : Ma.key u v = (decide (u.name = v.name) && (decide (u.host = v.host) && ((u.only == v.only) && decide (u.path = v.path)))) := by
    unfold Ma.key
    rw [Bool.eq_iff_iff]
    simp only [decide_eq_true_eq, Bool.and_eq_true, beq_iff_eq, and_assoc]
  rw [hd]
  simp only [Op.eqFields, Sem.run_bind, a0, b0, a1, b1, a2, b2, a3, b3, q0, q1, q2, q3, Result.andThen_ok, Sem.run_ite, Sem.run_pure, ne_eq, n0, n1, n2, n3, not_false_eq_true, if_true]
  cases decide (u.name = v.name) <;> cases decide (u.host = v.host) <;> cases (u.only == v.only) <;> cases decide (u.path = v.path) <;> rfl
theorem eql_place (u v : Ma.Cookie) (hu : u.host.addr.length = 16) (hv : v.host.addr.length = 16) (W : World) :
    (binOp .eql 37 (.agg (placeA u)) (.agg (placeA v))).run Try.prog W = .ok (.bool (Ma.key u v)) W := by
  have h : (Op.equalIn 10000 37 (.agg (placeA u)) (.agg (placeA v))).run Try.prog W = .ok (Ma.key u v) W := by
    obtain ⟨f0, f1, f2, f3, hf⟩ : ∃ f0 f1 f2 f3, Try.prog.underlying 37 = some (.struct #[f0, f1, f2, f3]) ∧ (f0.name ≠ "_" ∧ f1.name ≠ "_" ∧ f2.name ≠ "_" ∧ f3.name ≠ "_") ∧ (f0.offset = 0 ∧ f1.offset = 1 ∧ f2.offset = 19 ∧ f3.offset = 20) ∧ f0.type = 9 ∧ f1.type = 28 ∧ f2.type = 4 ∧ f3.type = 9 :=
      ⟨_, _, _, _, Try.underlying37, ⟨by decide, by decide, by decide, by decide⟩, ⟨rfl, rfl, rfl, rfl⟩, rfl, rfl, rfl, rfl⟩
    obtain ⟨hh, ⟨n0, n1, n2, n3⟩, ⟨o0, o1, o2, o3⟩, t0, t1, t2, t3⟩ := hf
    have hl : Try.prog.fieldsOf 37 = #[f0, f1, f2, f3] := by unfold Program.fieldsOf; rw [hh]
    rw [run_equalIn_struct W 9999 37 _ _ (by rw [hl]; exact hh) (by kernel_rfl), hl]
    exact eq_placeFields n0 n1 n2 n3 o0 o1 o2 o3 t0 t1 t2 t3 u v hu hv 9996 W
  rw [run_eql_struct, h]; rfl
/-! ### The walks -/
set_option maxRecDepth 100000 in
set_option maxHeartbeats 2000000 in
theorem placeOf_calls (c : Ma.Cookie) (ha : c.host.addr.length = 16) (w : World) :
    Calls Try.prog 19 #[.agg (cookieA c)] w fun e w' => e = .returned (.agg (placeA c)) ∧ Below w.heap.size w w' := by
  have z0 := zeroPlace
  have HC := Lib.hid (cookieA_size c ha)
  have HP := Lib.hid (placeA_size c ha)
  have HP1 := Lib.hid (placeA_one c)
  have HZ := Lib.hid (placeA_size Ma.zero rfl)
  have HB := Lib.hid (built_place c ha)
  have HH := Lib.hid (cookieA_host c ha)
  have k0 := cookieA_name c
  have k20 := cookieA_only c ha
  have k21 := cookieA_path c ha
  unfold strV at HB k0 k21
  have R0 := Row.new w 30 (cookieA c)
  have B0 := (Below.refl w.heap.size w).alloc (Nat.le_refl _) (.cells (cookieA c) 30)
  generalize (⟨c.name.toArray⟩ : ByteArray) = n at *
  generalize (⟨c.path.toArray⟩ : ByteArray) = p at *
  generalize c.only = b at *
  generalize hostA c.host = H at *
  generalize placeA Ma.zero = Z at *
  have R1 := R0.alloc (.cells Z 37)
  have hN : (w.alloc (.cells (cookieA c) 30)).heap.size = w.heap.size + 1 := by simp
  have T1 := Row.new (w.alloc (.cells (cookieA c) 30)) 37 Z
  rw [hN] at T1
  have C1 := B0.alloc B0.size (.cells Z 37)
  have c0 := (R1.cell 0).trans k0
  have c20 := (R1.cell 20).trans k20
  have c21 := (R1.cell 21).trans k21
  have s0 : w.heap.size ≤ w.heap.size + 1 := by omega
  clear k0 k20 k21 hN R0 B0
  generalize cookieA c = X at *
  go_enter Try.func19, Try.ntmps19
  go_wp2_with (first
    | (refine at_slot 6 rfl ?_; refine load_part rfl 28 _ rfl w.heap.size 2 18 rfl R1 Try.underlying28 rfl infoHost (by rw [HC.out]; decide) H HH.out ?_)
    | (refine at_slot 11 rfl ?_; refine build_four_g rfl 37 0 1 2 3 _ _ _ _ rfl _ _ _ _ rfl rfl rfl rfl (placeA c) HB.out ?_)
    | (refine wpList_store_row rfl 37 _ _ rfl (w.heap.size + 1) (placeA c) rfl rfl 37 _ T1 (by rw [HP.out]; exact infoPlace) (by rw [HP.out, HZ.out]) HP1.out ?_))
  exact bodyPost_ret (v := .agg (placeA c)) (results_cell_row rfl _ _ _ _ _ _ _ rfl (T1.whole _) Try.underlying37 rfl (by rw [HP.out]; exact infoPlace)) rfl ⟨rfl, below_setRow C1 s0 _⟩
set_option maxRecDepth 100000 in
set_option maxHeartbeats 2000000 in
theorem mkey_calls (c d : Ma.Cookie) (ha : c.host.addr.length = 16) (hd : d.host.addr.length = 16) (w : World) :
    Calls Try.prog 12 #[.agg (cookieA c), .agg (cookieA d)] w fun e w' => e = .returned (.bool (Ma.key c d)) ∧ Below w.heap.size w w' := by
  have HC := Lib.hid (show (Try.prog.info? 30).map (·.size) = some (cookieA c).size by rw [cookieA_size c ha]; exact infoCookie)
  have HD := Lib.hid (show (Try.prog.info? 30).map (·.size) = some (cookieA d).size by rw [cookieA_size d hd]; exact infoCookie)
  have H1 := Lib.hid (fun W => placeOf_calls c ha W)
  have H2 := Lib.hid (fun W => placeOf_calls d hd W)
  have q := eql_place c d ha hd
  have R0 := Row.new w 30 (cookieA c)
  have B0 := (Below.refl w.heap.size w).alloc (Nat.le_refl _) (.cells (cookieA c) 30)
  have hN : (w.alloc (.cells (cookieA c) 30)).heap.size = w.heap.size + 1 := by simp
  have S0 := Row.new (w.alloc (.cells (cookieA c) 30)) 30 (cookieA d)
  rw [hN] at S0
  have R1 := R0.alloc (.cells (cookieA d) 30)
  have C1 := B0.alloc B0.size (.cells (cookieA d) 30)
  clear R0 B0 hN ha hd
  generalize Ma.key c d = k at *
  generalize placeA c = X at *
  generalize placeA d = Y at *
  generalize cookieA c = U at *
  generalize cookieA d = V at *
  go_enter Try.func12, Try.ntmps12
  go_wp2_with fail
  generalize (w.alloc (.cells U 30)).alloc (.cells V 30) = x0 at *
  have RR := Lib.hid (fun W (hC : Below x0.heap.size x0 W) => R1.stays hC)
  have SS := Lib.hid (fun W (hC : Below x0.heap.size x0 W) => S0.stays hC)
  have C2 := Lib.hid (fun W (hC : Below x0.heap.size x0 W) => on_class hC (H1.out W))
  have C3 := Lib.hid (fun W (hC : Below x0.heap.size x0 W) => on_class hC (H2.out W))
  clear H1 H2 R1 S0
  refine region_quiet (C := fun W => Below x0.heap.size x0 W) (by kernel_rfl) (by kernel_rfl) (Below.refl _ _).drew ?_
  refine q_yields (yields_row (by rfl) _ _ rfl _ rfl RR.out Try.underlying30 rfl HC.out) ?_
  simp only [Act.put, List.setIfInBounds_toArray, List.set_cons_zero, List.set_cons_succ]
  refine q_call (by rfl) (.agg X) (fun wq hC => by unfold Oper.quietAt; go_simp; exact C2.out wq hC) ?_
  simp only [Act.put, List.setIfInBounds_toArray, List.set_cons_zero, List.set_cons_succ]
  refine q_yields (yields_row (by rfl) _ _ rfl _ rfl SS.out Try.underlying30 rfl HD.out) ?_
  simp only [Act.put, List.setIfInBounds_toArray, List.set_cons_zero, List.set_cons_succ]
  refine q_call (by rfl) (.agg Y) (fun wq hC => by unfold Oper.quietAt; go_simp; exact C3.out wq hC) ?_
  simp only [Act.put, List.setIfInBounds_toArray, List.set_cons_zero, List.set_cons_succ]
  refine q_yields (v := ?_) (Or.inl ⟨by rfl, ?_⟩) ?_
  rotate_left
  · intro _ _; go_simp; with_reducible rfl
  simp only [Act.put, List.setIfInBounds_toArray, List.set_cons_zero, List.set_cons_succ]
  refine q_yields (v := ?_) (Or.inl ⟨by rfl, ?_⟩) ?_
  rotate_left
  · intro _ _; go_simp; with_reducible rfl
  simp only [Act.put, List.setIfInBounds_toArray, List.set_cons_zero, List.set_cons_succ]
  refine wpQuiet_nil ?_
  intro w' hC
  go_wp2
  go_ret
  exact ⟨rfl, C1.trans (hC.mono C1.size)⟩
end Go.Proofs.Ytkajddopjflniaa
