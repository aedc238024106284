/- Places as keys of a map: cookies in their places, in memory. -/
import Derived.Test.YtdfcnodlddeccaaShelfRow
import Derived.Maps.RangeWalk
import Derived.DeepKeys4
namespace Go.Proofs.Ytdfcnodlddeccaa
open Go.RowKit Go.Maps
/-! ### What a place reads as -/
theorem laidOutS : laidOutB Try.prog = true := by kernel_rfl
theorem placeLaw : Keyed Try.prog 72 := Keyed.of_law (deep_law_laid laidOutS (m := 9) (by omega) (of_decide_eq_true (by kernel_rfl)) (by kernel_rfl) (by kernel_rfl))
theorem placeKeyType : Try.prog.keyType 72 = true := by kernel_rfl
theorem cellsPlaceS : Try.prog.cellsOf 72 = 21 := by kernel_rfl
theorem cellsByteS : Try.prog.cellsOf 5 = 1 := by kernel_rfl
theorem cellsIntS : Try.prog.cellsOf 3 = 1 := by kernel_rfl
theorem cellsStrS : Try.prog.cellsOf 9 = 1 := by kernel_rfl
theorem cellsBoolS : Try.prog.cellsOf 4 = 1 := by kernel_rfl
theorem cellsAddrS : Try.prog.cellsOf 30 = 16 := by kernel_rfl
theorem typesFour : ∃ n, Try.prog.types.size = n + 4 := ⟨Try.prog.types.size - 4, by have : 4 ≤ Try.prog.types.size := of_decide_eq_true (by kernel_rfl); omega⟩
theorem kl_string (n : Nat) (s : List UInt8) (h : s.length ≤ maxLen) : Try.prog.keyLits (n + 1) 9 [strV s] = some [.string s] := by
  have hs : (⟨s.toArray⟩ : ByteArray).size ≤ maxLen := by show (List.toArray _).size ≤ _; simp; exact h
  simp [Program.keyLits, Try.underlying9, strV, hs]
theorem kl_bool (n : Nat) (b : Bool) : Try.prog.keyLits (n + 1) 4 [.bool b] = some [.bool b] := by simp [Program.keyLits, Try.underlying4]
theorem kl_int (n : Nat) (k : Int) (h : (Lit.int .i64 k).wf = true) : Try.prog.keyLits (n + 1) 3 [.int .i64 k] = some [.int .i64 k] := by simp [Program.keyLits, Try.underlying3, h]
theorem kl_byte (n : Nat) (c : UInt8) : Try.prog.keyLits (n + 1) 5 [byteV c] = some [.int .u8 (c.toNat : Int)] := by
  have h : (Lit.int .u8 (c.toNat : Int)).wf = true := WalkArith.wf_u8 (by have := c.toNat_lt; omega)
  simp [Program.keyLits, Try.underlying5, byteV, h]
def byteLs (a : List UInt8) : List Lit := a.map fun c => .int .u8 (c.toNat : Int)
theorem kl_addr (n : Nat) (a : List UInt8) (ha : a.length = 16) : Try.prog.keyLits (n + 2) 30 (a.map byteV) = some (byteLs a) := by
  have hm := mapM_range (fun i => Try.prog.keyLits (n + 1) 5 (((a.map byteV).drop (i * 1)).take 1)) (fun i => [Lit.int .u8 ((a.getD i 0).toNat : Int)]) 16 (fun i hi => by
    have hl : i < (a.map byteV).length := by simp; omega
    have hl2 : i < a.length := by omega
    rw [Nat.mul_one, List.drop_eq_getElem_cons hl, List.take_succ_cons, List.take_zero, List.getElem_map, List.getD_eq_getElem?_getD, List.getElem?_eq_getElem hl2]
    exact kl_byte n _)
  unfold Program.keyLits
  rw [Try.underlying30]
  simp only [cellsAddrS, cellsByteS, List.length_map, ha, if_true, hm]
  obtain ⟨x0, x1, x2, x3, x4, x5, x6, x7, x8, x9, x10, x11, x12, x13, x14, x15, rfl⟩ := sixteen ha
  rfl
def hostLs (h : Hst.Host) : List Lit := .int .i64 h.kind :: .string h.name :: byteLs h.addr
theorem kl_host (n : Nat) (h : Hst.Host) (ho : HostOk h) : Try.prog.keyLits (n + 3) 32 (hostA h).toList = some (hostLs h) := by
  obtain ⟨f0, f1, f2, hu, ⟨n0, n1, n2⟩, ⟨o0, o1, o2⟩, t0, t1, t2⟩ : ∃ f0 f1 f2, Try.prog.underlying 32 = some (.struct #[f0, f1, f2]) ∧ (f0.name ≠ "_" ∧ f1.name ≠ "_" ∧ f2.name ≠ "_") ∧ (f0.offset = 0 ∧ f1.offset = 1 ∧ f2.offset = 2) ∧ f0.type = 3 ∧ f1.type = 9 ∧ f2.type = 30 :=
    ⟨_, _, _, Try.underlying32, ⟨by decide, by decide, by decide⟩, ⟨rfl, rfl, rfl⟩, rfl, rfl, rfl⟩
  have hls := kl_addr n h.addr ho.addr
  have k0 := kl_int (n + 1) h.kind ho.kind
  have k1 := kl_string (n + 1) h.name ho.name
  have hl : (hostA h).toList = Value.int .i64 h.kind :: strV h.name :: h.addr.map byteV := rfl
  have ht : (h.addr.map byteV).take 16 = h.addr.map byteV := List.take_of_length_le (by simp [ho.addr])
  unfold Program.keyLits
  rw [hu, hl]
  simp [cellsHost1, cellsIntS, cellsStrS, cellsAddrS, n0, n1, n2, o0, o1, o2, t0, t1, t2, k0, k1, ho.addr, ht, hls, hostLs]
/-- What a place reads as, as a key. -/
def placeLs (c : Ma.Cookie) : List Lit := .string c.name :: (hostLs c.host ++ [.bool c.only, .string c.path])
def placeK (c : Ma.Cookie) : Lit := .string (keyBytes (placeLs c))
theorem place_key (c : Ma.Cookie) (h : PlaceOk c) : keyOf Try.prog 72 (.agg (placeA c)) = some (placeK c) := by
  obtain ⟨f0, f1, f2, f3, hu, ⟨n0, n1, n2, n3⟩, ⟨o0, o1, o2, o3⟩, t0, t1, t2, t3⟩ : ∃ f0 f1 f2 f3, Try.prog.underlying 72 = some (.struct #[f0, f1, f2, f3]) ∧ (f0.name ≠ "_" ∧ f1.name ≠ "_" ∧ f2.name ≠ "_" ∧ f3.name ≠ "_") ∧ (f0.offset = 0 ∧ f1.offset = 1 ∧ f2.offset = 19 ∧ f3.offset = 20) ∧ f0.type = 9 ∧ f1.type = 32 ∧ f2.type = 4 ∧ f3.type = 9 :=
    ⟨_, _, _, _, Try.underlying72, ⟨by decide, by decide, by decide, by decide⟩, ⟨rfl, rfl, rfl, rfl⟩, rfl, rfl, rfl, rfl⟩
  obtain ⟨n, hn⟩ := typesFour
  have ha := h.host.addr
  have hls := kl_host (n + 1) c.host h.host
  have k0 := kl_string (n + 3) c.name h.name
  have k2 := kl_bool (n + 3) c.only
  have k3 := kl_string (n + 3) c.path h.path
  have hl : (Value.agg (placeA c)).cells.toList = strV c.name :: ((hostA c.host).toList ++ [.bool c.only, strV c.path]) := rfl
  have hlen : ((hostA c.host).toList ++ [Value.bool c.only, strV c.path]).length = 20 := by rw [List.length_append, hostA_list _ ha]; rfl
  have ht := take_host ha [Value.bool c.only, strV c.path]
  have hd : ∀ k, ((hostA c.host).toList ++ [Value.bool c.only, strV c.path]).drop (18 + k) = ([Value.bool c.only, strV c.path] : List Value).drop k := fun k => by
    rw [← List.drop_drop, show (18 : Nat) = (hostA c.host).toList.length from (hostA_list _ ha).symm, List.drop_left]
  have d18 : ((hostA c.host).toList ++ [Value.bool c.only, strV c.path]).drop 18 = [Value.bool c.only, strV c.path] := hd 0
  have d19 : ((hostA c.host).toList ++ [Value.bool c.only, strV c.path]).drop 19 = [strV c.path] := hd 1
  have hform : (Value.agg (placeA c)).formed Try.prog 72 = true := by
    simp [Value.formed, hu, cellsPlaceS, placeA_size c ha]
  have hk : Try.prog.keyLits (n + 4 + 1) 72 (strV c.name :: ((hostA c.host).toList ++ [.bool c.only, strV c.path])) = some (placeLs c) := by
    generalize (hostA c.host).toList ++ [Value.bool c.only, strV c.path] = X at *
    unfold Program.keyLits
    rw [hu]
    simp [cellsPlaceS, cellsHost1, cellsBoolS, cellsStrS, n0, n1, n2, n3, o0, o1, o2, o3, t0, t1, t2, t3, k0, k2, k3, hlen, ht, d18, d19, hls, placeLs]
  unfold keyOf
  rw [hu]
  simp only [placeKeyType, hform, Bool.and_self, if_true]
  rw [hn, hl, hk]
  rfl
theorem hostA_inj {a b : Hst.Host} (h : hostA a = hostA b) : a = b := by
  have e := congrArg Array.toList h
  have e : Value.int .i64 a.kind :: strV a.name :: a.addr.map byteV = Value.int .i64 b.kind :: strV b.name :: b.addr.map byteV := e
  obtain ⟨e0, e⟩ := List.cons.inj e
  obtain ⟨e1, e2⟩ := List.cons.inj e
  have e2 : a.addr = b.addr := List.map_inj_right (fun x y hxy => byteV_inj hxy) |>.1 e2
  have e0 : a.kind = b.kind := (Value.int.inj e0).2
  have e1 : a.name = b.name := by
    unfold strV at e1
    have := congrArg (fun b : ByteArray => b.data.toList) (Value.string.inj e1)
    simpa using this
  cases a; cases b
  simp only at e0 e1 e2
  rw [e0, e1, e2]
theorem strV_inj {a b : List UInt8} (h : strV a = strV b) : a = b := by
  unfold strV at h
  have := congrArg (fun b : ByteArray => b.data.toList) (Value.string.inj h)
  simpa using this
theorem placeK_iff {a b : Ma.Cookie} (ha : PlaceOk a) (hb : PlaceOk b) : placeK a = placeK b ↔ Ma.key a b = true := by
  constructor
  · intro h
    have e := placeLaw.inj (place_key a ha) (h ▸ place_key b hb)
    have e : placeA a = placeA b := Value.agg.inj e
    refine Sh.key_iff.2 ⟨?_, ?_, ?_, ?_⟩
    · have := congrArg (fun c => c[0]?) e
      simp only [placeA_name, Option.some.injEq] at this
      exact strV_inj this
    · have := congrArg (fun c => c.extract 1 19) e
      simp only [placeA_host _ ha.host.addr, placeA_host _ hb.host.addr] at this
      exact hostA_inj this
    · have := congrArg (fun c => c[19]?) e
      simp only [placeA_only _ ha.host.addr, placeA_only _ hb.host.addr, Option.some.injEq, Value.bool.injEq] at this
      exact this
    · have := congrArg (fun c => c[20]?) e
      simp only [placeA_path _ ha.host.addr, placeA_path _ hb.host.addr, Option.some.injEq] at this
      exact strV_inj this
  · intro h
    obtain ⟨e0, e1, e2, e3⟩ := Sh.key_iff.1 h
    have e : placeLs a = placeLs b := by unfold placeLs; rw [e0, e1, e2, e3]
    unfold placeK
    rw [e]
theorem placeK_lit {c : Ma.Cookie} (h : PlaceOk c) : WideAt.IsKeyLit (placeK c) := placeLaw.key (place_key c h)
theorem placeK_same {a b : Ma.Cookie} (ha : PlaceOk a) (hb : PlaceOk b) : (placeK a).sameKey (placeK b) = Ma.key a b := by
  rw [Bool.eq_iff_iff, ← placeK_iff ha hb]
  exact ⟨WideAt.sameKey_eq, fun e => by rw [e]; exact WideAt.sameKey_self (placeK_lit hb)⟩
/-! ### The map -/
/-- How an element reads: as itself. -/
def eltR (v : Value) : Option (DataW Value × List MemPlace) := some (.held v, [])
def entK (k : Sh.Kept) : Lit × DataW Value := (placeK k.c, .held (.agg (keptA k)))
def Apart (L : List Sh.Kept) : Prop := L.Pairwise fun a b => Ma.key a.c b.c = false
def AllOk (L : List Sh.Kept) : Prop := ∀ k ∈ L, KeptOk k
/-- The datum holds just these. -/
def Tied (D : DataW Value) (L : List Sh.Kept) : Prop := ∃ es, D = .map es ∧ es.Perm (L.map entK)
theorem Apart.perm {L L' : List Sh.Kept} (h : Apart L) (hp : L.Perm L') : Apart L' :=
  (hp.pairwise_iff (fun {a b} h => by rw [Sh.key_symm]; exact h)).1 h
theorem AllOk.perm {L L' : List Sh.Kept} (h : AllOk L) (hp : L.Perm L') : AllOk L' := fun k hk => h k (hp.mem_iff.2 hk)
theorem entK_apart {L : List Sh.Kept} (h : Apart L) (ho : AllOk L) : (L.map entK).Pairwise fun p q => p.1 ≠ q.1 := by
  rw [List.pairwise_map]
  have : L.Pairwise fun a b => Ma.key a.c b.c = false ∧ a ∈ L ∧ b ∈ L := by
    refine List.Pairwise.imp_of_mem ?_ h
    intro a b ha hb hab
    exact ⟨hab, ha, hb⟩
  refine this.imp ?_
  rintro a b ⟨hab, ha, hb⟩ e
  have := (placeK_iff (ho a ha).cookie (ho b hb).cookie).1 e
  rw [hab] at this
  cases this
theorem Tied.apart {D : DataW Value} {L : List Sh.Kept} (h : Tied D L) (ha : Apart L) (ho : AllOk L) : ∃ es, D = .map es ∧ es.Perm (L.map entK) ∧ es.Pairwise fun p q => p.1 ≠ q.1 := by
  obtain ⟨es, hD, hp⟩ := h
  exact ⟨es, hD, hp, (hp.pairwise_iff (fun {a b} h => Ne.symm h)).2 (entK_apart ha ho)⟩
theorem Tied.at_ {D : DataW Value} {L : List Sh.Kept} (h : Tied D L) (ha : Apart L) (ho : AllOk L) {k : Sh.Kept} (hk : k ∈ L) (z : DataW Value) : D.atKey (placeK k.c) z = .held (.agg (keptA k)) := by
  obtain ⟨es, rfl, hp, hap⟩ := h.apart ha ho
  exact WideAt.atKey_mem z (placeK_lit (ho k hk).cookie) hap (hp.mem_iff.2 (List.mem_map.2 ⟨k, hk, rfl⟩))
theorem Tied.has_ {D : DataW Value} {L : List Sh.Kept} (h : Tied D L) (ho : AllOk L) {c : Ma.Cookie} (hc : PlaceOk c) : Maps.has D (placeK c) = L.any (Sh.hit c) := by
  obtain ⟨es, rfl, hp⟩ := h
  rw [Bool.eq_iff_iff, has_eq, List.any_eq_true, List.any_eq_true]
  constructor
  · rintro ⟨p, hpm, hs⟩
    obtain ⟨k, hk, rfl⟩ := List.mem_map.1 (hp.mem_iff.1 hpm)
    exact ⟨k, hk, by
      have : (placeK k.c).sameKey (placeK c) = true := hs
      rw [placeK_same (ho k hk).cookie hc] at this
      exact this⟩
  · rintro ⟨k, hk, hh⟩
    exact ⟨entK k, hp.mem_iff.2 (List.mem_map.2 ⟨k, hk, rfl⟩), by
      show (placeK k.c).sameKey (placeK c) = true
      rw [placeK_same (ho k hk).cookie hc]; exact hh⟩
theorem Tied.look {D : DataW Value} {L : List Sh.Kept} (h : Tied D L) (ha : Apart L) (ho : AllOk L) {c : Ma.Cookie} (hc : PlaceOk c) :
    Maps.has D (placeK c) = (L.find? (Sh.hit c)).isSome ∧ D.atKey (placeK c) (.held (.agg (keptA Sh.zeroK))) = .held (.agg (keptA ((L.find? (Sh.hit c)).getD Sh.zeroK))) := by
  have h1 := h.has_ ho hc
  have hf : (L.find? (Sh.hit c)).isSome = L.any (Sh.hit c) := by
    rw [Bool.eq_iff_iff, List.find?_isSome, List.any_eq_true]
  refine ⟨by rw [h1, hf], ?_⟩
  cases e : L.find? (Sh.hit c) with
  | some k =>
    have hk := List.mem_of_find?_eq_some e
    have hh : Sh.hit c k = true := List.find?_some e
    rw [← (placeK_iff (ho k hk).cookie hc).2 hh]
    exact h.at_ ha ho hk _
  | none =>
    have h2 : Maps.has D (placeK c) = false := by rw [h1, ← hf, e]; rfl
    obtain ⟨es, rfl, hp⟩ := h
    exact atKey_of_not_has h2 _
theorem filter_ent {L : List Sh.Kept} (ho : AllOk L) {c : Ma.Cookie} (hc : PlaceOk c) : (L.map entK).filter (fun p => !p.1.sameKey (placeK c)) = (L.filter fun k => !Sh.hit c k).map entK := by
  rw [List.filter_map]
  congr 1
  refine List.filter_congr fun k hk => ?_
  show (!(placeK k.c).sameKey (placeK c)) = _
  rw [placeK_same (ho k hk).cookie hc]
  rfl
theorem Tied.put {D : DataW Value} {L L' : List Sh.Kept} (h : Tied D L) (ho : AllOk L) {c : Ma.Cookie} (hc : PlaceOk c) {k : Sh.Kept} (hk : placeK k.c = placeK c) (hp : L'.Perm (k :: L.filter fun k => !Sh.hit c k)) : Tied (D.put (placeK c) (.held (.agg (keptA k)))) L' := by
  obtain ⟨es, rfl, he⟩ := h
  refine ⟨_, rfl, ?_⟩
  refine (Go.WideShapes.insert_perm _ _).trans (List.Perm.trans ?_ (hp.map entK).symm)
  rw [List.map_cons]
  have e : entK k = (placeK c, .held (.agg (keptA k))) := by unfold entK; rw [hk]
  rw [e]
  refine List.Perm.cons _ ?_
  rw [← filter_ent ho hc]
  exact he.filter _
theorem Tied.del {D : DataW Value} {L L' : List Sh.Kept} (h : Tied D L) (ho : AllOk L) {c : Ma.Cookie} (hc : PlaceOk c) (hp : L'.Perm (L.filter fun k => !Sh.hit c k)) : Tied (D.del (placeK c)) L' := by
  obtain ⟨es, rfl, he⟩ := h
  refine ⟨_, rfl, ?_⟩
  refine List.Perm.trans ?_ (hp.map entK).symm
  rw [← filter_ent ho hc]
  exact he.filter _
theorem Tied.size {D : DataW Value} {L : List Sh.Kept} (h : Tied D L) : Maps.size D = L.length := by
  obtain ⟨es, rfl, hp⟩ := h
  rw [size_eq, hp.length_eq, List.length_map]
theorem ownsMap_least {H : Type} {P : Program} {k : TypeId} {R : Value → Option (DataW H × List MemPlace)} {w : World} {b n : Nat} {D : DataW H} (h : w.ownsMap P k R b n D) : w.ownsMap P k R b (Maps.size D) D := by
  obtain ⟨es, clock, hb, F, hs, rfl⟩ := h
  exact ⟨es, clock, hb, F, by simp [Maps.size, length_sorted], rfl⟩
/-- Block mb is a map of just these. -/
def MapAt (w : World) (mb : Nat) (L : List Sh.Kept) : Prop := ∃ D, w.ownsMap Try.prog 72 eltR mb L.length D ∧ Tied D L
theorem MapAt.of {w : World} {mb n : Nat} {L : List Sh.Kept} {D : DataW Value} (h : w.ownsMap Try.prog 72 eltR mb n D) (ht : Tied D L) : MapAt w mb L := ⟨D, by rw [← ht.size]; exact ownsMap_least h, ht⟩
theorem MapAt.lt {w : World} {mb : Nat} {L : List Sh.Kept} (h : MapAt w mb L) : mb < w.heap.size := by
  obtain ⟨D, h1, _⟩ := h
  exact h1.lt
theorem MapAt.kept {w w' : World} {mb : Nat} {L : List Sh.Kept} {row : Option Nat} (h : MapAt w mb L) (hg : w.grownBy w' row) (hne : some mb ≠ row) : MapAt w' mb L := by
  obtain ⟨D, h1, h2⟩ := h
  exact ⟨D, h1.kept hg hne, h2⟩
theorem below_grown {w w' : World} (hb : Below w.heap.size w w') : w.grownBy w' none := ⟨hb.os, hb.tape, hb.output, hb.size, fun i hi _ => hb.block i hi⟩
theorem MapAt.stays {w w' : World} {mb : Nat} {L : List Sh.Kept} (h : MapAt w mb L) (hb : Below w.heap.size w w') : MapAt w' mb L := h.kept (below_grown hb) (by simp)
theorem zeroKeptV (w : World) : (zeroValue 75).run Try.prog w = .ok (.agg (keptA Sh.zeroK)) w := by kernel_rfl
theorem run_look {w : World} {mb : Nat} {L : List Sh.Kept} (h : MapAt w mb L) (ha : Apart L) (ho : AllOk L) {c : Ma.Cookie} (hc : PlaceOk c) :
    (Instr.lookup 54 (.map (some mb)) (.agg (placeA c)) true).run Try.prog w = .ok (.tuple #[.agg (keptA ((L.find? (Sh.hit c)).getD Sh.zeroK)), .bool (L.find? (Sh.hit c)).isSome]) w := by
  obtain ⟨D, h1, h2⟩ := h
  obtain ⟨v, ps, hrun, hv⟩ := h1.look_ok placeLaw Try.underlying54 (zeroKeptV w) (show eltR (.agg (keptA Sh.zeroK)) = some (.held (.agg (keptA Sh.zeroK)), []) from rfl) (place_key c hc)
  obtain ⟨e1, e2⟩ := h2.look ha ho hc
  rw [e2] at hv
  have hv : v = .agg (keptA ((L.find? (Sh.hit c)).getD Sh.zeroK)) := by
    have := congrArg Prod.fst (Option.some.inj hv)
    exact DataW.held.inj this
  rw [hrun, hv, e1]
theorem run_store {w : World} {mb : Nat} {L L' : List Sh.Kept} (h : MapAt w mb L) (ho : AllOk L) {c : Ma.Cookie} (hc : PlaceOk c) {k : Sh.Kept} (hk : Ma.key k.c c = true) (hko : PlaceOk k.c) (hp : L'.Perm (k :: L.filter fun k => !Sh.hit c k)) (hn : L.length ≤ 1048576) :
    ∃ w', (Instr.mapUpdate 54 (.map (some mb)) (.agg (placeA c)) (.agg (keptA k))).run Try.prog w = .ok () w' ∧ MapAt w' mb L' ∧ w.mapTurned w' mb := by
  obtain ⟨D, h1, h2⟩ := h
  obtain ⟨w', r1, r2, r3⟩ := h1.store placeLaw Try.underlying54 (by unfold maxLen; omega) (place_key c hc) (show eltR (.agg (keptA k)) = some (.held (.agg (keptA k)), []) from rfl)
  exact ⟨w', r1, .of r2 (h2.put ho hc ((placeK_iff hko hc).2 hk) hp), r3⟩
theorem run_drop {w : World} {mb : Nat} {L L' : List Sh.Kept} (h : MapAt w mb L) (ho : AllOk L) {c : Ma.Cookie} (hc : PlaceOk c) (hp : L'.Perm (L.filter fun k => !Sh.hit c k)) (ty : TypeId) :
    ∃ w', (Builtin.delete_ #[54, 72] ty #[.map (some mb), .agg (placeA c)]).run Try.prog w = .ok (.tuple #[]) w' ∧ MapAt w' mb L' ∧ w.mapTurned w' mb := by
  obtain ⟨D, h1, h2⟩ := h
  obtain ⟨w', r1, r2, r3⟩ := h1.drop placeLaw Try.underlying54 (place_key c hc) ty
  exact ⟨w', r1, .of r2 (h2.del ho hc hp), r3⟩
/-! ### The map gone through -/
/-- A loop over the map is under way: it is a map of the things L; T of them are still to come. -/
def Rng (w : World) (mb rb n : Nat) (L T : List Sh.Kept) : Prop :=
  ∃ D left cnt, w.ranges Try.prog 72 eltR mb rb n D left cnt ∧ Tied D L ∧ Apart L ∧ AllOk L ∧ Apart T ∧ (∀ k ∈ T, k ∈ L) ∧ (∀ kl, left kl = true → ∃ k ∈ T, placeK k.c = kl) ∧ ∀ k ∈ T, left (placeK k.c) = true
theorem Rng.map {w : World} {mb rb n : Nat} {L T : List Sh.Kept} (h : Rng w mb rb n L T) : MapAt w mb L := by
  obtain ⟨D, left, cnt, h1, h2, _⟩ := h
  exact .of h1.owns h2
theorem Rng.kept {w w' : World} {mb rb n : Nat} {L T : List Sh.Kept} {row : Option Nat} (h : Rng w mb rb n L T) (hg : w.grownBy w' row) (hm : some mb ≠ row) (hr : some rb ≠ row) : Rng w' mb rb n L T := by
  obtain ⟨D, left, cnt, h1, r⟩ := h
  exact ⟨D, left, cnt, h1.kept hg hm hr, r⟩
theorem Rng.stays {w w' : World} {mb rb n : Nat} {L T : List Sh.Kept} (h : Rng w mb rb n L T) (hb : Below w.heap.size w w') : Rng w' mb rb n L T := h.kept (below_grown hb) (by simp) (by simp)
theorem rangeLeft_kept {w w' : World} {mb rb n : Nat} {L T : List Sh.Kept} {row : Option Nat} (h : Rng w mb rb n L T) (hg : w.grownBy w' row) (hm : some mb ≠ row) (hr : some rb ≠ row) : w'.rangeLeft mb rb = w.rangeLeft mb rb := by
  obtain ⟨D, left, cnt, h1, _⟩ := h
  rw [h1.left_eq, (h1.kept hg hm hr).left_eq]
theorem Rng.lt {w : World} {mb rb n : Nat} {L T : List Sh.Kept} (h : Rng w mb rb n L T) : rb < w.heap.size := by
  obtain ⟨D, left, cnt, h1, _⟩ := h
  exact h1.lt
section
variable {w : World} {ops : Array Oper} {rest : List Oper} {o : Oper} {a : Act} {Q : Exit → Act → World → Prop}
theorem range_shelf (hg : o.guard = none) (m : Operand) (hop : o.op = Op.range 54 m) {mb : Nat} {L : List Sh.Kept} (hm : a.eval m = .map (some mb)) (h : MapAt w mb L) (ha : Apart L) (ho : AllOk L)
    (hK : ∀ w', Rng w' mb w.heap.size L.length L L → w.grownBy w' none → w'.heap.size = w.heap.size + 1 → wpList Try.prog ops Q rest (a.put o.dst (.pointer (some ⟨w.heap.size, 0, none⟩))) w') : wpList Try.prog ops Q (o :: rest) a w := by
  obtain ⟨D, h1, h2⟩ := h
  refine wpList_range_own w hg m 54 hop 72 75 placeLaw Try.underlying54 eltR mb L.length D hm h1 fun w' r1 r2 r3 => hK w' ⟨D, _, _, r1, h2, ha, ho, ha, fun k hk => hk, fun kl hkl => ?_, fun k hk => ?_⟩ r2 r3
  · obtain ⟨es, rfl, hp⟩ := h2
    obtain ⟨p, hpm, hs⟩ := List.any_eq_true.1 hkl
    obtain ⟨k, hk, rfl⟩ := List.mem_map.1 (hp.mem_iff.1 hpm)
    exact ⟨k, hk, WideAt.sameKey_eq hs⟩
  · rw [h2.has_ ho (ho k hk).cookie, List.any_eq_true]
    exact ⟨k, hk, Ma.key_self k.c⟩
theorem next_shelf (hg : o.guard = none) (it : Operand) (hop : o.op = Op.next it false) {mb rb n : Nat} {L T : List Sh.Kept} (hit : a.eval it = .pointer (some ⟨rb, 0, none⟩)) (h : Rng w mb rb n L T)
    (hDone : T = [] → wpList Try.prog ops Q rest (a.put o.dst (.tuple #[.bool false])) w)
    (hMore : ∀ (k : Sh.Kept) (T' : List Sh.Kept) (w' : World), T.Perm (k :: T') → Rng w' mb rb n L T' → w'.rangeLeft mb rb < w.rangeLeft mb rb → w.grownBy w' (some rb) → w'.heap.size = w.heap.size →
      (Instr.entry (.pointer (some ⟨rb, 0, none⟩))).run Try.prog w' = .ok (.tuple #[.agg (placeA k.c), .agg (keptA k)]) w' → wpList Try.prog ops Q rest (a.put o.dst (.tuple #[.bool true, .agg (placeA k.c), .agg (keptA k)])) w') : wpList Try.prog ops Q (o :: rest) a w := by
  obtain ⟨D, left, cnt, h1, h2, h3, h4, h5, h6, h7, h8⟩ := h
  refine wpList_next_ranges (α := Value) (β := Value) w hg it hop 72 placeLaw eltR id id (fun key _ _ => ⟨key, rfl⟩) (fun v _ _ => ⟨v, rfl⟩) mb rb n D left cnt hit h1 (fun _ hl => hDone ?_) ?_
  · cases T with
    | nil => rfl
    | cons k T => have := h8 k (by simp); rw [hl] at this; cases this
  · intro x v kl y w' cnt' hkey hlk hv hat hrg hlt hgr hsz hen
    obtain ⟨k, hk, rfl⟩ := h7 kl hlk
    have hko := (h4 k (h6 k hk)).cookie
    have hx : x = .agg (placeA k.c) := placeLaw.inj hkey (place_key k.c hko)
    have hv : v = .agg (keptA k) := by
      have e1 := hat .nil
      rw [h2.at_ h3 h4 (h6 k hk)] at e1
      have e2 := congrArg Prod.fst (Option.some.inj hv)
      rw [← e1] at e2
      exact DataW.held.inj e2
    have hp := List.perm_cons_erase hk
    have hap := h5.perm hp
    obtain ⟨p1, p2⟩ := List.pairwise_cons.1 hap
    simp only [id] at hen ⊢
    rw [hx, hv] at hen ⊢
    refine hMore k (T.erase k) w' hp ⟨D, _, cnt', hrg, h2, h3, h4, p2, fun z hz => h6 z (List.mem_of_mem_erase hz), fun kl hkl => ?_, fun z hz => ?_⟩ (by rw [hrg.left_eq, h1.left_eq]; exact hlt) hgr hsz hen
    · simp only [Bool.and_eq_true, Bool.not_eq_true'] at hkl
      obtain ⟨z, hz, rfl⟩ := h7 kl hkl.1
      refine ⟨z, ?_, rfl⟩
      rcases List.mem_cons.1 (hp.mem_iff.1 hz) with e | e
      · rw [e, WideAt.sameKey_self (placeK_lit hko)] at hkl
        cases hkl.2
      · exact e
    · have hzo := (h4 z (h6 z (List.mem_of_mem_erase hz))).cookie
      show (left (placeK z.c) && !(placeK z.c).sameKey (placeK k.c)) = true
      rw [h8 z (List.mem_of_mem_erase hz), placeK_same hzo hko, Sh.key_symm, p1 z hz]
      rfl
end
/-- One that has come is dropped. -/
theorem Rng.drop {w : World} {mb rb n : Nat} {L T L' : List Sh.Kept} (h : Rng w mb rb n L T) {k : Sh.Kept} (hk : k ∈ L) (hp : L.Perm (k :: L')) (hT : ∀ z ∈ T, Ma.key z.c k.c = false) (ty : TypeId) :
    ∃ w', (Builtin.delete_ #[54, 72] ty #[.map (some mb), .agg (placeA k.c)]).run Try.prog w = .ok (.tuple #[]) w' ∧ Rng w' mb rb n L' T ∧ w'.rangeLeft mb rb ≤ w.rangeLeft mb rb ∧ w.mapTurned w' mb := by
  obtain ⟨D, left, cnt, h1, h2, h3, h4, h5, h6, h7, h8⟩ := h
  have hko := (h4 k hk).cookie
  obtain ⟨w', cnt', r1, r2, r3, r4⟩ := h1.drop placeLaw Try.underlying54 (place_key k.c hko) ty
  have hap := h3.perm hp
  have hao := h4.perm hp
  obtain ⟨p1, p2⟩ := List.pairwise_cons.1 hap
  have hf : L'.Perm (L.filter fun z => !Sh.hit k.c z) := by
    refine List.Perm.trans ?_ (hp.filter _).symm
    have e1 : (!Sh.hit k.c k) = false := by unfold Sh.hit; rw [Ma.key_self]; rfl
    rw [List.filter_cons_of_neg (by rw [e1]; simp)]
    rw [List.filter_eq_self.2]
    intro z hz
    show (!Ma.key z.c k.c) = true
    rw [Sh.key_symm, p1 z hz]
    rfl
  refine ⟨w', r1, ⟨D.del (placeK k.c), _, cnt', r2, h2.del h4 hko hf, p2, fun z hz => hao z (by simp [hz]), h5, fun z hz => ?_, fun kl hkl => ?_, fun z hz => ?_⟩, by rw [r2.left_eq, h1.left_eq]; exact r3, r4⟩
  · rcases List.mem_cons.1 (hp.mem_iff.1 (h6 z hz)) with e | e
    · have := hT z hz
      rw [e, Ma.key_self] at this
      cases this
    · exact e
  · simp only [Bool.and_eq_true] at hkl
    exact h7 kl hkl.1
  · show (left (placeK z.c) && !(placeK z.c).sameKey (placeK k.c)) = true
    rw [h8 z hz, placeK_same (h4 z (h6 z hz)).cookie hko, hT z hz]
    rfl
end Go.Proofs.Ytdfcnodlddeccaa
