/- Cookies and requests as the reader of a call's arguments has them: taken apart, and put together. -/
import Derived.Test.YtdfcnodlddeccaaUrlData
import Derived.Test.YtdfcnodlddeccaaMatchRow
namespace Go.Proofs.Ytdfcnodlddeccaa
open Go.ChangeShapes Go.WideShapes Go.ChangeAt Go.WideMaps Go.WideElems Go.RowKit Go.Deep
structure HostOk (h : Hst.Host) : Prop where
  addr : h.addr.length = 16
  kind : (Lit.int .i64 h.kind).wf = true
  name : h.name.length ≤ maxLen
structure CookieOk (c : Ma.Cookie) : Prop where
  host : HostOk c.host
  name : c.name.length ≤ maxLen
  value : c.value.length ≤ maxLen
  path : c.path.length ≤ maxLen
  same : (Lit.int .i64 c.same).wf = true
  expires : (Lit.int .i64 c.expires).wf = true
  born : (Lit.int .i64 c.born).wf = true
  used : (Lit.int .i64 c.used).wf = true
  seq : (Lit.int .i64 c.seq).wf = true
structure RequestOk (r : Ma.Request) : Prop where
  host : HostOk r.host
  path : r.path.length ≤ maxLen
  cross : (Lit.int .i64 r.cross).wf = true
section
variable {H : Type} {enc : TypeId × Value → H} {w : World} {base : Nat} {spare : Nat → Bool} {held : Bool}
def cookieD (c : Ma.Cookie) : DataW H := .agg [.lit (.string c.name), .lit (.string c.value), hostD c.host, .lit (.bool c.only), .lit (.string c.path), .lit (.bool c.secure), .lit (.bool c.http), .lit (.int .i64 c.same), .lit (.int .i64 c.expires), .lit (.int .i64 c.born), .lit (.int .i64 c.used), .lit (.int .i64 c.seq)]
def requestD (r : Ma.Request) : DataW H := .agg [.lit (.bool r.secure), hostD r.host, .lit (.string r.path), .lit (.int .i64 r.cross)]
theorem cellsInt64 : Try.prog.cellsOf 2 = 1 := by kernel_rfl
theorem cellsCookie : Try.prog.cellsOf 34 = 29 := by kernel_rfl
theorem trod_struct12 {t : TypeId} {f0 f1 f2 f3 f4 f5 f6 f7 f8 f9 f10 f11 : Field} {fuel : Nat} {cs : List Value} {x : DataW H × List MemPlace} (ht : Try.prog.underlying t = some (.struct #[f0, f1, f2, f3, f4, f5, f6, f7, f8, f9, f10, f11])) (h : DataW.trod enc Try.prog w base spare held fuel t cs = some x) :
    ∃ y0 y1 y2 y3 y4 y5 y6 y7 y8 y9 y10 y11 n, x = (.agg [y0.1, y1.1, y2.1, y3.1, y4.1, y5.1, y6.1, y7.1, y8.1, y9.1, y10.1, y11.1], y0.2 ++ (y1.2 ++ (y2.2 ++ (y3.2 ++ (y4.2 ++ (y5.2 ++ (y6.2 ++ (y7.2 ++ (y8.2 ++ (y9.2 ++ (y10.2 ++ (y11.2)))))))))))) ∧ cs.length = Try.prog.cellsOf t ∧ DataW.trod enc Try.prog w base spare held n f0.type ((cs.drop f0.offset).take (Try.prog.cellsOf f0.type)) = some y0 ∧
      DataW.trod enc Try.prog w base spare held n f1.type ((cs.drop f1.offset).take (Try.prog.cellsOf f1.type)) = some y1 ∧
      DataW.trod enc Try.prog w base spare held n f2.type ((cs.drop f2.offset).take (Try.prog.cellsOf f2.type)) = some y2 ∧
      DataW.trod enc Try.prog w base spare held n f3.type ((cs.drop f3.offset).take (Try.prog.cellsOf f3.type)) = some y3 ∧
      DataW.trod enc Try.prog w base spare held n f4.type ((cs.drop f4.offset).take (Try.prog.cellsOf f4.type)) = some y4 ∧
      DataW.trod enc Try.prog w base spare held n f5.type ((cs.drop f5.offset).take (Try.prog.cellsOf f5.type)) = some y5 ∧
      DataW.trod enc Try.prog w base spare held n f6.type ((cs.drop f6.offset).take (Try.prog.cellsOf f6.type)) = some y6 ∧
      DataW.trod enc Try.prog w base spare held n f7.type ((cs.drop f7.offset).take (Try.prog.cellsOf f7.type)) = some y7 ∧
      DataW.trod enc Try.prog w base spare held n f8.type ((cs.drop f8.offset).take (Try.prog.cellsOf f8.type)) = some y8 ∧
      DataW.trod enc Try.prog w base spare held n f9.type ((cs.drop f9.offset).take (Try.prog.cellsOf f9.type)) = some y9 ∧
      DataW.trod enc Try.prog w base spare held n f10.type ((cs.drop f10.offset).take (Try.prog.cellsOf f10.type)) = some y10 ∧
      DataW.trod enc Try.prog w base spare held n f11.type ((cs.drop f11.offset).take (Try.prog.cellsOf f11.type)) = some y11 := by
  obtain ⟨xs, n, _, rfl, hl, hlen, hf⟩ := DataW.trod_struct ht h
  match xs, hlen with
  | [y0, y1, y2, y3, y4, y5, y6, y7, y8, y9, y10, y11], _ => exact ⟨y0, y1, y2, y3, y4, y5, y6, y7, y8, y9, y10, y11, n, by simp, hl, by simpa using hf 0 f0 rfl, by simpa using hf 1 f1 rfl, by simpa using hf 2 f2 rfl, by simpa using hf 3 f3 rfl, by simpa using hf 4 f4 rfl, by simpa using hf 5 f5 rfl, by simpa using hf 6 f6 rfl, by simpa using hf 7 f7 rfl, by simpa using hf 8 f8 rfl, by simpa using hf 9 f9 rfl, by simpa using hf 10 f10 rfl, by simpa using hf 11 f11 rfl⟩
theorem cookie_fields : ∃ f0 f1 f2 f3 f4 f5 f6 f7 f8 f9 f10 f11, Try.prog.underlying 34 = some (.struct #[f0, f1, f2, f3, f4, f5, f6, f7, f8, f9, f10, f11]) ∧ (f0.offset = 0 ∧ f1.offset = 1 ∧ f2.offset = 2 ∧ f3.offset = 20 ∧ f4.offset = 21 ∧ f5.offset = 22 ∧ f6.offset = 23 ∧ f7.offset = 24 ∧ f8.offset = 25 ∧ f9.offset = 26 ∧ f10.offset = 27 ∧ f11.offset = 28) ∧ (f0.type = 9 ∧ f1.type = 9 ∧ f2.type = 32 ∧ f3.type = 4 ∧ f4.type = 9 ∧ f5.type = 4 ∧ f6.type = 4 ∧ f7.type = 3 ∧ f8.type = 2 ∧ f9.type = 2 ∧ f10.type = 2 ∧ f11.type = 3) :=
  ⟨_, _, _, _, _, _, _, _, _, _, _, _, Try.underlying34, ⟨rfl, rfl, rfl, rfl, rfl, rfl, rfl, rfl, rfl, rfl, rfl, rfl⟩, ⟨rfl, rfl, rfl, rfl, rfl, rfl, rfl, rfl, rfl, rfl, rfl, rfl⟩⟩
theorem cookie_parts {α : Type} {l : List α} (h : l.length = 29) {a0 a1 a3 a4 a5 a6 a7 a8 a9 a10 a11 : α} {r : List α} (h0 : (l.drop 0).take 1 = [a0]) (h1 : (l.drop 1).take 1 = [a1]) (h2 : (l.drop 2).take 18 = r) (h3 : (l.drop 20).take 1 = [a3]) (h4 : (l.drop 21).take 1 = [a4]) (h5 : (l.drop 22).take 1 = [a5]) (h6 : (l.drop 23).take 1 = [a6]) (h7 : (l.drop 24).take 1 = [a7]) (h8 : (l.drop 25).take 1 = [a8]) (h9 : (l.drop 26).take 1 = [a9]) (h10 : (l.drop 27).take 1 = [a10]) (h11 : (l.drop 28).take 1 = [a11]) : l = a0 :: a1 :: (r ++ [a3, a4, a5, a6, a7, a8, a9, a10, a11]) := by
  match l, h with
  | [x0, x1, x2, x3, x4, x5, x6, x7, x8, x9, x10, x11, x12, x13, x14, x15, x16, x17, x18, x19, x20, x21, x22, x23, x24, x25, x26, x27, x28], _ =>
    simp at h0 h1 h2 h3 h4 h5 h6 h7 h8 h9 h10 h11
    subst h0; subst h1; subst h2; subst h3; subst h4; subst h5; subst h6; subst h7; subst h8; subst h9; subst h10; subst h11; rfl
set_option maxRecDepth 100000 in
set_option maxHeartbeats 1000000 in
theorem open_cookie {r : Reach} {b0 : Nat} {v : Value} {d : DataW H} {p : List MemPlace} (hv : Value.okWide Try.prog w r b0 34 v) (h : DataW.Trod enc Try.prog w base spare held 34 v d p) :
    ∃ x : Ma.Cookie, v = .agg (cookieA x) ∧ d = cookieD x ∧ p = [] ∧ CookieOk x := by
  obtain ⟨f0, f1, f2, f3, f4, f5, f6, f7, f8, f9, f10, f11, hs, ⟨o0, o1, o2, o3, o4, o5, o6, o7, o8, o9, o10, o11⟩, ⟨t0, t1, t2, t3, t4, t5, t6, t7, t8, t9, t10, t11⟩⟩ := cookie_fields
  obtain ⟨cs, rfl, hsz⟩ := okWide_struct hs hv
  obtain ⟨fuel, hf⟩ := h
  obtain ⟨y0, y1, y2, y3, y4, y5, y6, y7, y8, y9, y10, y11, n, hx, hl, h0, h1, h2, h3, h4, h5, h6, h7, h8, h9, h10, h11⟩ := trod_struct12 hs hf
  rw [o0, t0, cellsString] at h0
  rw [o1, t1, cellsString] at h1
  rw [o2, t2, cellsHost] at h2
  rw [o3, t3, cellsBool] at h3
  rw [o4, t4, cellsString] at h4
  rw [o5, t5, cellsBool] at h5
  rw [o6, t6, cellsBool] at h6
  rw [o7, t7, cellsInt] at h7
  rw [o8, t8, cellsInt64] at h8
  rw [o9, t9, cellsInt64] at h9
  rw [o10, t10, cellsInt64] at h10
  rw [o11, t11, cellsInt] at h11
  obtain ⟨s0, e0, rfl, w0⟩ := DataW.trod_string Try.underlying9 h0
  obtain ⟨s1, e1, rfl, w1⟩ := DataW.trod_string Try.underlying9 h1
  obtain ⟨s2, ha, e2, rfl, wk, wn⟩ := open_hostCells h2
  obtain ⟨s3, e3, rfl⟩ := DataW.trod_bool Try.underlying4 h3
  obtain ⟨s4, e4, rfl, w4⟩ := DataW.trod_string Try.underlying9 h4
  obtain ⟨s5, e5, rfl⟩ := DataW.trod_bool Try.underlying4 h5
  obtain ⟨s6, e6, rfl⟩ := DataW.trod_bool Try.underlying4 h6
  obtain ⟨s7, e7, rfl, w7⟩ := DataW.trod_int Try.underlying3 h7
  obtain ⟨s8, e8, rfl, w8⟩ := DataW.trod_int Try.underlying2 h8
  obtain ⟨s9, e9, rfl, w9⟩ := DataW.trod_int Try.underlying2 h9
  obtain ⟨s10, e10, rfl, w10⟩ := DataW.trod_int Try.underlying2 h10
  obtain ⟨s11, e11, rfl, w11⟩ := DataW.trod_int Try.underlying3 h11
  rw [cellsCookie] at hl
  have hc : (Value.agg cs).cells.toList = cs.toList := rfl
  rw [hc] at hl e0 e1 e2 e3 e4 e5 e6 e7 e8 e9 e10 e11
  have he := cookie_parts hl e0 e1 e2 e3 e4 e5 e6 e7 e8 e9 e10 e11
  simp only [Prod.mk.injEq] at hx
  refine ⟨⟨s0.data.toList, s1.data.toList, s2, s3, s4.data.toList, s5, s6, s7, s8, s9, s10, s11⟩, ?_, hx.1, ?_, ⟨⟨ha, wk, wn⟩, (by rw [Oct.length_bytes]; exact w0), (by rw [Oct.length_bytes]; exact w1), (by rw [Oct.length_bytes]; exact w4), w7, w8, w9, w10, w11⟩⟩
  · congr 1
    apply Array.ext'
    rw [he]
    unfold cookieA strV
    simp only [mk_bytes]
  · rw [hx.2]; rfl
set_option maxRecDepth 100000 in
set_option maxHeartbeats 1000000 in
theorem shut_cookie {x : Ma.Cookie} (hx : CookieOk x) : DataW.Trod enc Try.prog w base spare held 34 (.agg (cookieA x)) (cookieD x) [] := by
  obtain ⟨f0, f1, f2, f3, f4, f5, f6, f7, f8, f9, f10, f11, hs, ⟨o0, o1, o2, o3, o4, o5, o6, o7, o8, o9, o10, o11⟩, ⟨t0, t1, t2, t3, t4, t5, t6, t7, t8, t9, t10, t11⟩⟩ := cookie_fields
  obtain ⟨m0, g0⟩ := Go.ChangeMaps.shut_string (enc := enc) (P := Try.prog) (w := w) (base := base) (sp := spare) (held := held) (s := ⟨x.name.toArray⟩) Try.underlying9 (Nat.le_trans (Nat.le_of_eq (List.size_toArray ..)) hx.name)
  obtain ⟨m1, g1⟩ := Go.ChangeMaps.shut_string (enc := enc) (P := Try.prog) (w := w) (base := base) (sp := spare) (held := held) (s := ⟨x.value.toArray⟩) Try.underlying9 (Nat.le_trans (Nat.le_of_eq (List.size_toArray ..)) hx.value)
  obtain ⟨m2, g2⟩ := shut_hostCells (enc := enc) (w := w) (base := base) (spare := spare) (held := held) hx.host.addr hx.host.kind hx.host.name
  obtain ⟨m3, g3⟩ := shut_bool (enc := enc) (P := Try.prog) (w := w) (base := base) (spare := spare) (held := held) Try.underlying4 x.only
  obtain ⟨m4, g4⟩ := Go.ChangeMaps.shut_string (enc := enc) (P := Try.prog) (w := w) (base := base) (sp := spare) (held := held) (s := ⟨x.path.toArray⟩) Try.underlying9 (Nat.le_trans (Nat.le_of_eq (List.size_toArray ..)) hx.path)
  obtain ⟨m5, g5⟩ := shut_bool (enc := enc) (P := Try.prog) (w := w) (base := base) (spare := spare) (held := held) Try.underlying4 x.secure
  obtain ⟨m6, g6⟩ := shut_bool (enc := enc) (P := Try.prog) (w := w) (base := base) (spare := spare) (held := held) Try.underlying4 x.http
  obtain ⟨m7, g7⟩ := shut_int (enc := enc) (P := Try.prog) (w := w) (base := base) (spare := spare) (held := held) Try.underlying3 hx.same
  obtain ⟨m8, g8⟩ := shut_int (enc := enc) (P := Try.prog) (w := w) (base := base) (spare := spare) (held := held) Try.underlying2 hx.expires
  obtain ⟨m9, g9⟩ := shut_int (enc := enc) (P := Try.prog) (w := w) (base := base) (spare := spare) (held := held) Try.underlying2 hx.born
  obtain ⟨m10, g10⟩ := shut_int (enc := enc) (P := Try.prog) (w := w) (base := base) (spare := spare) (held := held) Try.underlying2 hx.used
  obtain ⟨m11, g11⟩ := shut_int (enc := enc) (P := Try.prog) (w := w) (base := base) (spare := spare) (held := held) Try.underlying3 hx.seq
  obtain ⟨T, hT⟩ : ∃ T : List Value, T = [.bool x.only, strV x.path, .bool x.secure, .bool x.http, .int .i64 x.same, .int .i64 x.expires, .int .i64 x.born, .int .i64 x.used, .int .i64 x.seq] := ⟨_, rfl⟩
  obtain ⟨X, hX⟩ : ∃ X : List Value, X = strV x.name :: strV x.value :: ((hostA x.host).toList ++ T) := ⟨_, rfl⟩
  have hc : (Value.agg (cookieA x)).cells.toList = X := by rw [hX, hT]; rfl
  have hlen : X.length = Try.prog.cellsOf 34 := by
    rw [hX, cellsCookie, List.length_cons, List.length_cons, List.length_append, hostA_list _ hx.host.addr, hT]; rfl
  have hd : ∀ k, X.drop (20 + k) = T.drop k := fun k => by
    rw [hX, show 20 + k = (18 + k) + 1 + 1 by omega, List.drop_succ_cons, List.drop_succ_cons, ← List.drop_drop, show (18 : Nat) = (hostA x.host).toList.length from (hostA_list _ hx.host.addr).symm, List.drop_left]
  have q0 : (X.drop 0).take 1 = [strV x.name] := by rw [hX]; rfl
  have q1 : (X.drop 1).take 1 = [strV x.value] := by rw [hX]; rfl
  have q2 : (X.drop 2).take 18 = (hostA x.host).toList := by rw [hX, List.drop_succ_cons, List.drop_succ_cons, List.drop_zero]; exact take_host hx.host.addr _
  have q3 : (X.drop 20).take 1 = [.bool x.only] := by
    have h := congrArg (List.take 1) (hd 0)
    rw [hT] at h
    exact h
  have q4 : (X.drop 21).take 1 = [strV x.path] := by
    have h := congrArg (List.take 1) (hd 1)
    rw [hT] at h
    exact h
  have q5 : (X.drop 22).take 1 = [.bool x.secure] := by
    have h := congrArg (List.take 1) (hd 2)
    rw [hT] at h
    exact h
  have q6 : (X.drop 23).take 1 = [.bool x.http] := by
    have h := congrArg (List.take 1) (hd 3)
    rw [hT] at h
    exact h
  have q7 : (X.drop 24).take 1 = [.int .i64 x.same] := by
    have h := congrArg (List.take 1) (hd 4)
    rw [hT] at h
    exact h
  have q8 : (X.drop 25).take 1 = [.int .i64 x.expires] := by
    have h := congrArg (List.take 1) (hd 5)
    rw [hT] at h
    exact h
  have q9 : (X.drop 26).take 1 = [.int .i64 x.born] := by
    have h := congrArg (List.take 1) (hd 6)
    rw [hT] at h
    exact h
  have q10 : (X.drop 27).take 1 = [.int .i64 x.used] := by
    have h := congrArg (List.take 1) (hd 7)
    rw [hT] at h
    exact h
  have q11 : (X.drop 28).take 1 = [.int .i64 x.seq] := by
    have h := congrArg (List.take 1) (hd 8)
    rw [hT] at h
    exact h
  clear hd hX hT
  obtain ⟨M, hM⟩ : ∃ M, M = m0 + m1 + m2 + m3 + m4 + m5 + m6 + m7 + m8 + m9 + m10 + m11 := ⟨_, rfl⟩
  have k0 : DataW.trod enc Try.prog w base spare held M f0.type ((X.drop f0.offset).take (Try.prog.cellsOf f0.type)) = some (.lit (.string x.name), []) := by
    rw [o0, t0, cellsString, q0]
    exact DataW.trod_le (by omega) g0
  have k1 : DataW.trod enc Try.prog w base spare held M f1.type ((X.drop f1.offset).take (Try.prog.cellsOf f1.type)) = some (.lit (.string x.value), []) := by
    rw [o1, t1, cellsString, q1]
    exact DataW.trod_le (by omega) g1
  have k2 : DataW.trod enc Try.prog w base spare held M f2.type ((X.drop f2.offset).take (Try.prog.cellsOf f2.type)) = some (hostD x.host, []) := by
    rw [o2, t2, cellsHost, q2]
    exact DataW.trod_le (by omega) g2
  have k3 : DataW.trod enc Try.prog w base spare held M f3.type ((X.drop f3.offset).take (Try.prog.cellsOf f3.type)) = some (.lit (.bool x.only), []) := by
    rw [o3, t3, cellsBool, q3]
    exact DataW.trod_le (by omega) g3
  have k4 : DataW.trod enc Try.prog w base spare held M f4.type ((X.drop f4.offset).take (Try.prog.cellsOf f4.type)) = some (.lit (.string x.path), []) := by
    rw [o4, t4, cellsString, q4]
    exact DataW.trod_le (by omega) g4
  have k5 : DataW.trod enc Try.prog w base spare held M f5.type ((X.drop f5.offset).take (Try.prog.cellsOf f5.type)) = some (.lit (.bool x.secure), []) := by
    rw [o5, t5, cellsBool, q5]
    exact DataW.trod_le (by omega) g5
  have k6 : DataW.trod enc Try.prog w base spare held M f6.type ((X.drop f6.offset).take (Try.prog.cellsOf f6.type)) = some (.lit (.bool x.http), []) := by
    rw [o6, t6, cellsBool, q6]
    exact DataW.trod_le (by omega) g6
  have k7 : DataW.trod enc Try.prog w base spare held M f7.type ((X.drop f7.offset).take (Try.prog.cellsOf f7.type)) = some (.lit (.int .i64 x.same), []) := by
    rw [o7, t7, cellsInt, q7]
    exact DataW.trod_le (by omega) g7
  have k8 : DataW.trod enc Try.prog w base spare held M f8.type ((X.drop f8.offset).take (Try.prog.cellsOf f8.type)) = some (.lit (.int .i64 x.expires), []) := by
    rw [o8, t8, cellsInt64, q8]
    exact DataW.trod_le (by omega) g8
  have k9 : DataW.trod enc Try.prog w base spare held M f9.type ((X.drop f9.offset).take (Try.prog.cellsOf f9.type)) = some (.lit (.int .i64 x.born), []) := by
    rw [o9, t9, cellsInt64, q9]
    exact DataW.trod_le (by omega) g9
  have k10 : DataW.trod enc Try.prog w base spare held M f10.type ((X.drop f10.offset).take (Try.prog.cellsOf f10.type)) = some (.lit (.int .i64 x.used), []) := by
    rw [o10, t10, cellsInt64, q10]
    exact DataW.trod_le (by omega) g10
  have k11 : DataW.trod enc Try.prog w base spare held M f11.type ((X.drop f11.offset).take (Try.prog.cellsOf f11.type)) = some (.lit (.int .i64 x.seq), []) := by
    rw [o11, t11, cellsInt, q11]
    exact DataW.trod_le (by omega) g11
  refine ⟨M + 1, ?_⟩
  rw [hc]
  have := trod_struct_mk (enc := enc) (w := w) (base := base) (spare := spare) (held := held) (n := M) (xs := [(.lit (.string x.name), []), (.lit (.string x.value), []), (hostD x.host, []), (.lit (.bool x.only), []), (.lit (.string x.path), []), (.lit (.bool x.secure), []), (.lit (.bool x.http), []), (.lit (.int .i64 x.same), []), (.lit (.int .i64 x.expires), []), (.lit (.int .i64 x.born), []), (.lit (.int .i64 x.used), []), (.lit (.int .i64 x.seq), [])]) hs hlen (by simp [k0, k1, k2, k3, k4, k5, k6, k7, k8, k9, k10, k11])
  simpa [cookieD] using this
end
end Go.Proofs.Ytdfcnodlddeccaa
