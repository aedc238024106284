/- Cookies as they are built, changed and held against themselves. -/
import Derived.Test.YtdfcnodlddeccaaMatchVar
import Derived.Test.YtdfcnodlddeccaaMatchKey
import Derived.Test.YtdfcnodlddeccaaEqFields
namespace Go.Proofs.Ytdfcnodlddeccaa
open Go.RowKit
theorem build_list {P : Program} {ops : Array Oper} {rest : List Oper} {o : Oper} {a : Act} {w : World} {Q : Exit → Act → World → Prop} (hg : o.guard = none) (t : TypeId) (ps : Array (Nat × Operand)) (ho : o.op = .build t ps) (vs : List (Nat × Value)) (hv : ps.toList.map (fun p => (p.1, a.eval p.2)) = vs) (cells : Array Value)
    (hc : P.built t vs = some cells) (h : wpList P ops Q rest (a.put o.dst (.agg cells)) w) : wpList P ops Q (o :: rest) a w := by
  have e : (ps.map fun (i, x) => (i, a.eval x)).toList = vs := by rw [Array.toList_map]; exact hv
  refine wpList_build hg t ps ho ?_ ?_
  · rw [e, hc]; rfl
  · rw [e, hc]; exact h
theorem built_zeroCookie : Try.prog.built 34 [] = some (cookieA Ma.zeroC) := by kernel_rfl
def cookieL (c : Ma.Cookie) : List (Nat × Value) := [(0, strV c.name), (1, strV c.value), (2, .agg (hostA c.host)), (3, .bool c.only), (4, strV c.path), (5, .bool c.secure), (6, .bool c.http), (7, .int .i64 c.same), (8, .int .i64 c.expires), (9, .int .i64 c.born), (10, .int .i64 c.used)]
theorem built_cookie (c : Ma.Cookie) (ha : c.host.addr.length = 16) (hs : c.seq = 0) : Try.prog.built 34 (cookieL c) = some (cookieA c) := by
  obtain ⟨n, v, ⟨k, m, a⟩, o, p, s, h, sm, ex, bo, us, sq⟩ := c
  obtain rfl : sq = 0 := hs
  obtain ⟨x0, x1, x2, x3, x4, x5, x6, x7, x8, x9, x10, x11, x12, x13, x14, x15, rfl⟩ := sixteen ha
  kernel_rfl
theorem cookieA_setPath (c : Ma.Cookie) (ha : c.host.addr.length = 16) (p : List UInt8) : (cookieA c).setIfInBounds 21 (.string ⟨p.toArray⟩) = cookieA { c with path := p } := cookieA_put c ha 1 (strV p)
theorem cookieA_setExpires (c : Ma.Cookie) (ha : c.host.addr.length = 16) (n : Int) : (cookieA c).setIfInBounds 25 (.int .i64 n) = cookieA { c with expires := n } := cookieA_put c ha 5 (.int .i64 n)
theorem cookieA_setHost (c : Ma.Cookie) (ha : c.host.addr.length = 16) (d : Hst.Host) (hd : d.addr.length = 16) : ((cookieA c).toList.take 2 ++ (hostA d).toList ++ (cookieA c).toList.drop (2 + (hostA d).size)).toArray = cookieA { c with host := d } := by
  rw [hostA_size d hd]
  have e : (cookieA c).toList = strV c.name :: strV c.value :: ((hostA c.host).toList ++ [.bool c.only, strV c.path, .bool c.secure, .bool c.http, .int .i64 c.same, .int .i64 c.expires, .int .i64 c.born, .int .i64 c.used, .int .i64 c.seq]) := rfl
  rw [e, show (2 + 18 : Nat) = 18 + 1 + 1 by omega, List.drop_succ_cons, List.drop_succ_cons, show (18 : Nat) = (hostA c.host).toList.length from (hostA_list _ ha).symm, List.drop_left]
  rfl
theorem eq_cookie (c : Ma.Cookie) (ha : c.host.addr.length = 16) (W : World) : (Op.equalIn 10000 34 (.agg (cookieA c)) (.agg (cookieA c))).run Try.prog W = .ok true W := by
  obtain ⟨ih, hih⟩ := infoSomeH
  have ks : ∀ a : List UInt8, (Op.equalIn 9999 9 (strV a) (strV a)).run Try.prog W = .ok true W := fun a => by
    unfold strV
    rw [run_equalIn_string W 9998 9 _ _ Try.underlying9]
    simp
  have kb : ∀ a : Bool, (Op.equalIn 9999 4 (.bool a) (.bool a)).run Try.prog W = .ok true W := fun a => by
    rw [run_equalIn_bool' W 9998 4 _ _ Try.underlying4]; simp
  have ki : ∀ a : Int, (Op.equalIn 9999 2 (.int .i64 a) (.int .i64 a)).run Try.prog W = .ok true W := fun a => by
    rw [run_equalIn_int W 9998 2 .i64 .i64 _ _ Try.underlying2]; simp
  have kn : ∀ a : Int, (Op.equalIn 9999 3 (.int .i64 a) (.int .i64 a)).run Try.prog W = .ok true W := fun a => by
    rw [run_equalIn_int W 9998 3 .i64 .i64 _ _ Try.underlying3]; simp
  have kh : (Op.equalIn 9999 32 (.agg (hostA c.host)) (.agg (hostA c.host))).run Try.prog W = .ok true W := by
    have := eq_host_at c.host c.host ha ha 9996 W
    rw [decide_eq_true rfl] at this
    exact this
  have ps : ∀ i v, (cookieA c)[i]? = some v → (part 9 (cookieA c) i).run Try.prog W = .ok v W := fun i v hv => run_part_plain W (by kernel_rfl) hv
  have pb : ∀ i v, (cookieA c)[i]? = some v → (part 4 (cookieA c) i).run Try.prog W = .ok v W := fun i v hv => run_part_plain W (by kernel_rfl) hv
  have pi : ∀ i v, (cookieA c)[i]? = some v → (part 2 (cookieA c) i).run Try.prog W = .ok v W := fun i v hv => run_part_plain W (by kernel_rfl) hv
  have pn : ∀ i v, (cookieA c)[i]? = some v → (part 3 (cookieA c) i).run Try.prog W = .ok v W := fun i v hv => run_part_plain W (by kernel_rfl) hv
  have ph : (part 32 (cookieA c) 2).run Try.prog W = .ok (.agg (hostA c.host)) W := by
    rw [run_part_struct Try.underlying32 hih, cellsHost1, cookieA_host c ha]
  obtain ⟨f0, f1, f2, f3, f4, f5, f6, f7, f8, f9, f10, f11, hs, hn, ⟨o0, o1, o2, o3, o4, o5, o6, o7, o8, o9, o10, o11⟩, ⟨t0, t1, t2, t3, t4, t5, t6, t7, t8, t9, t10, t11⟩⟩ : ∃ f0 f1 f2 f3 f4 f5 f6 f7 f8 f9 f10 f11 : Field, Try.prog.underlying 34 = some (.struct #[f0, f1, f2, f3, f4, f5, f6, f7, f8, f9, f10, f11]) ∧
      (f0.name ≠ "_" ∧ f1.name ≠ "_" ∧ f2.name ≠ "_" ∧ f3.name ≠ "_" ∧ f4.name ≠ "_" ∧ f5.name ≠ "_" ∧ f6.name ≠ "_" ∧ f7.name ≠ "_" ∧ f8.name ≠ "_" ∧ f9.name ≠ "_" ∧ f10.name ≠ "_" ∧ f11.name ≠ "_") ∧
      (f0.offset = 0 ∧ f1.offset = 1 ∧ f2.offset = 2 ∧ f3.offset = 20 ∧ f4.offset = 21 ∧ f5.offset = 22 ∧ f6.offset = 23 ∧ f7.offset = 24 ∧ f8.offset = 25 ∧ f9.offset = 26 ∧ f10.offset = 27 ∧ f11.offset = 28) ∧
      (f0.type = 9 ∧ f1.type = 9 ∧ f2.type = 32 ∧ f3.type = 4 ∧ f4.type = 9 ∧ f5.type = 4 ∧ f6.type = 4 ∧ f7.type = 3 ∧ f8.type = 2 ∧ f9.type = 2 ∧ f10.type = 2 ∧ f11.type = 3) :=
    ⟨_, _, _, _, _, _, _, _, _, _, _, _, Try.underlying34, ⟨by decide, by decide, by decide, by decide, by decide, by decide, by decide, by decide, by decide, by decide, by decide, by decide⟩, ⟨rfl, rfl, rfl, rfl, rfl, rfl, rfl, rfl, rfl, rfl, rfl, rfl⟩, ⟨rfl, rfl, rfl, rfl, rfl, rfl, rfl, rfl, rfl, rfl, rfl, rfl⟩⟩
  obtain ⟨n0, n1, n2, n3, n4, n5, n6, n7, n8, n9, n10, n11⟩ := hn
  have hl : Try.prog.fieldsOf 34 = #[f0, f1, f2, f3, f4, f5, f6, f7, f8, f9, f10, f11] := by unfold Program.fieldsOf; rw [hs]
  rw [run_equalIn_struct W 9999 34 _ _ (by rw [hl]; exact hs) (by kernel_rfl), hl]
  refine eqFields_same _ ?_
  intro q hq
  simp only [List.mem_cons, List.not_mem_nil, or_false] at hq
  rcases hq with rfl | rfl | rfl | rfl | rfl | rfl | rfl | rfl | rfl | rfl | rfl | rfl
  · rw [t0, o0]; exact ⟨n0, _, ps 0 _ (cookieA_name c), ks _⟩
  · rw [t1, o1]; exact ⟨n1, _, ps 1 _ (cookieA_value c), ks _⟩
  · rw [t2, o2]; exact ⟨n2, _, ph, kh⟩
  · rw [t3, o3]; exact ⟨n3, _, pb 20 _ (cookieA_only c ha), kb _⟩
  · rw [t4, o4]; exact ⟨n4, _, ps 21 _ (cookieA_path c ha), ks _⟩
  · rw [t5, o5]; exact ⟨n5, _, pb 22 _ (cookieA_secure c ha), kb _⟩
  · rw [t6, o6]; exact ⟨n6, _, pb 23 _ (cookieA_http c ha), kb _⟩
  · rw [t7, o7]; exact ⟨n7, _, pn 24 _ (cookieA_same c ha), kn _⟩
  · rw [t8, o8]; exact ⟨n8, _, pi 25 _ (cookieA_expires c ha), ki _⟩
  · rw [t9, o9]; exact ⟨n9, _, pi 26 _ (cookieA_born c ha), ki _⟩
  · rw [t10, o10]; exact ⟨n10, _, pi 27 _ (cookieA_used c ha), ki _⟩
  · rw [t11, o11]; exact ⟨n11, _, pn 28 _ (cookieA_seq c ha), kn _⟩
theorem eql_cookie (c : Ma.Cookie) (ha : c.host.addr.length = 16) (W : World) : (binOp .eql 34 (.agg (cookieA c)) (.agg (cookieA c))).run Try.prog W = .ok (.bool true) W := by
  rw [run_eql_struct, eq_cookie c ha W]; rfl
theorem neq_cookie (c : Ma.Cookie) (ha : c.host.addr.length = 16) (W : World) : (binOp .neq 34 (.agg (cookieA c)) (.agg (cookieA c))).run Try.prog W = .ok (.bool false) W := by
  rw [run_neq_struct, eq_cookie c ha W]; rfl
end Go.Proofs.Ytdfcnodlddeccaa
