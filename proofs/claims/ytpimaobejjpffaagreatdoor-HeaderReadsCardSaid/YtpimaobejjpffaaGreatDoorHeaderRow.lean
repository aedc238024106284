/- Headers as values, in memory, and held against themselves; what the table of the four words holds. -/
import Derived.Test.YtpimaobejjpffaaGreatDoorCal
import Derived.Test.YtpimaobejjpffaaGreatDoorHeaders
import Derived.Laws.StructEq
namespace Go.Proofs.YtpimaobejjpffaaGreatDoor
open Go.RowKit
/-- A header as a value. -/
def headA (h : Hd.Head) : Array Value := #[strV h.name, strV h.value, strV h.domain, strV h.path, .bool h.exp.isSome, .int .i64 (h.exp.getD 0), .bool h.age.isSome, .int .i64 ((h.age.getD 0 : Nat) : Int), .bool h.secure, .bool h.only, .int .i64 (h.same : Int)]
theorem headA_size (h : Hd.Head) : (headA h).size = 11 := rfl
theorem headA_one (h : Hd.Head) : (headA h).all (·.oneCell') = true := by simp [headA, strV, Value.oneCell']
theorem infoHead : (Tryz.prog.info? 24).map (·.size) = some 11 := by kernel_rfl
theorem zeroHead : #[Value.string ⟨#[]⟩, .string ⟨#[]⟩, .string ⟨#[]⟩, .string ⟨#[]⟩, .bool false, .int .i64 0, .bool false, .int .i64 0, .bool false, .bool false, .int .i64 0] = headA Hd.zero := rfl
theorem built_zeroHead : Tryz.prog.built 24 [] = some (headA Hd.zero) := by kernel_rfl
theorem built_head (n v : ByteArray) : Tryz.prog.built 24 [(0, .string n), (1, .string v)] = some (headA { Hd.zero with name := n.data.toList, value := v.data.toList }) := by kernel_rfl
/-! ### Held against itself -/
theorem eqFields_same {P : Program} {d : Nat} {cs : Array Value} {W : World} : ∀ fs : List Field, (∀ f ∈ fs, f.name ≠ "_" ∧ ∃ v, (part f.type cs f.offset).run P W = .ok v W ∧ (Op.equalIn d f.type v v).run P W = .ok true W) → (Op.eqFields d cs cs fs).run P W = .ok true W
  | [], _ => by simp [Op.eqFields]
  | f :: fs, h => by
    obtain ⟨h1, v, h2, h3⟩ := h f (by simp)
    have ih := eqFields_same (P := P) (d := d) (cs := cs) (W := W) fs (fun g hg => h g (by simp [hg]))
    simp only [Op.eqFields, Sem.run_bind, h1, h2, h3, Result.andThen_ok, Sem.run_ite, Sem.run_pure, ne_eq, not_false_eq_true, if_true, ih]
    rfl
theorem eq_head (h : Hd.Head) (W : World) : (Op.equalIn 10000 24 (.agg (headA h)) (.agg (headA h))).run Tryz.prog W = .ok true W := by
  obtain ⟨fs, hf, hall⟩ : ∃ fs : Array Field, Tryz.prog.underlying 24 = some (.struct fs) ∧ ∀ f ∈ fs.toList, f.name ≠ "_" ∧ ∃ v, (part f.type (headA h) f.offset).run Tryz.prog W = .ok v W ∧ (Op.equalIn 9999 f.type v v).run Tryz.prog W = .ok true W := by
    refine ⟨_, Tryz.underlying24, ?_⟩
    have ks : ∀ s : List UInt8, (Op.equalIn 9999 9 (strV s) (strV s)).run Tryz.prog W = .ok true W := fun s => by
      unfold strV
      rw [run_equalIn_string W 9998 9 _ _ Tryz.underlying9]
      simp
    have kb : ∀ b : Bool, (Op.equalIn 9999 4 (.bool b) (.bool b)).run Tryz.prog W = .ok true W := fun b => by
      rw [run_equalIn_bool' W 9998 4 _ _ Tryz.underlying4]
      simp
    have ki : ∀ b : Int, (Op.equalIn 9999 2 (.int .i64 b) (.int .i64 b)).run Tryz.prog W = .ok true W := fun b => by
      rw [run_equalIn_int W 9998 2 .i64 .i64 _ _ Tryz.underlying2]
      simp
    have kn : ∀ b : Int, (Op.equalIn 9999 3 (.int .i64 b) (.int .i64 b)).run Tryz.prog W = .ok true W := fun b => by
      rw [run_equalIn_int W 9998 3 .i64 .i64 _ _ Tryz.underlying3]
      simp
    have ps : ∀ i v, (headA h)[i]? = some v → (part 9 (headA h) i).run Tryz.prog W = .ok v W := fun i v hv => run_part_plain W (by kernel_rfl) hv
    have pb : ∀ i v, (headA h)[i]? = some v → (part 4 (headA h) i).run Tryz.prog W = .ok v W := fun i v hv => run_part_plain W (by kernel_rfl) hv
    have pi : ∀ i v, (headA h)[i]? = some v → (part 2 (headA h) i).run Tryz.prog W = .ok v W := fun i v hv => run_part_plain W (by kernel_rfl) hv
    have pn : ∀ i v, (headA h)[i]? = some v → (part 3 (headA h) i).run Tryz.prog W = .ok v W := fun i v hv => run_part_plain W (by kernel_rfl) hv
    intro f hfm
    simp only [List.mem_cons, List.not_mem_nil, or_false] at hfm
    rcases hfm with rfl | rfl | rfl | rfl | rfl | rfl | rfl | rfl | rfl | rfl | rfl
    · exact ⟨by decide, _, ps 0 _ rfl, ks _⟩
    · exact ⟨by decide, _, ps 1 _ rfl, ks _⟩
    · exact ⟨by decide, _, ps 2 _ rfl, ks _⟩
    · exact ⟨by decide, _, ps 3 _ rfl, ks _⟩
    · exact ⟨by decide, _, pb 4 _ rfl, kb _⟩
    · exact ⟨by decide, _, pi 5 _ rfl, ki _⟩
    · exact ⟨by decide, _, pb 6 _ rfl, kb _⟩
    · exact ⟨by decide, _, pi 7 _ rfl, ki _⟩
    · exact ⟨by decide, _, pb 8 _ rfl, kb _⟩
    · exact ⟨by decide, _, pb 9 _ rfl, kb _⟩
    · exact ⟨by decide, _, pn 10 _ rfl, kn _⟩
  have hl : Tryz.prog.fieldsOf 24 = fs := by unfold Program.fieldsOf; rw [hf]
  rw [run_equalIn_struct W 9999 24 _ _ (by rw [hl]; exact hf) (by kernel_rfl), hl]
  exact eqFields_same fs.toList hall
theorem eql_head (h : Hd.Head) (W : World) : (binOp .eql 24 (.agg (headA h)) (.agg (headA h))).run Tryz.prog W = .ok (.bool true) W := by
  rw [run_eql_struct, eq_head h W]; rfl
/-! ### In a variable -/
structure KeptH (g : Nat) (h : Hd.Head) (w w' : World) : Prop where
  row : Row w' g 24 (headA h)
  below : Below g w w'
section
variable {g : Nat} {h h' : Hd.Head} {w w' w'' : World}
theorem KeptH.on (k : KeptH g h w w') (hb : Below w'.heap.size w' w'') : KeptH g h w w'' := ⟨k.row.stays hb, k.below.trans (hb.mono (Nat.le_of_lt k.row.lt))⟩
theorem KeptH.cell (k : KeptH g h w w') (i : Nat) : w'.cell? ⟨g, i, none⟩ = (headA h)[i]? := k.row.cell i
theorem KeptH.free (k : KeptH g h w w') (i : Nat) : w'.frozen? ⟨g, i, none⟩ = false := k.row.free i
theorem KeptH.one (k : KeptH g h w w') {i : Nat} {u : Value} (e : (headA h).setIfInBounds i u = headA h') : KeptH g h' w (w'.setCell ⟨g, i, none⟩ u) :=
  ⟨by have := k.row.set i u; rw [e] at this; exact this, k.below.setCell (p := ⟨g, i, none⟩) (Nat.le_refl _) u⟩
theorem KeptH.two (k : KeptH g h w w') {i j : Nat} {u v : Value} (e : ((headA h).setIfInBounds i u).setIfInBounds j v = headA h') : KeptH g h' w ((w'.setCell ⟨g, i, none⟩ u).setCell ⟨g, j, none⟩ v) :=
  ⟨by have := (k.row.set i u).set j v; rw [e] at this; exact this, (k.below.setCell (p := ⟨g, i, none⟩) (Nat.le_refl _) u).setCell (p := ⟨g, j, none⟩) (Nat.le_refl _) v⟩
end
theorem head_exp (h : Hd.Head) (n : Int) : ((headA h).setIfInBounds 4 (.bool true)).setIfInBounds 5 (.int .i64 n) = headA { h with exp := some n } := rfl
theorem head_age (h : Hd.Head) (n : Nat) : ((headA h).setIfInBounds 6 (.bool true)).setIfInBounds 7 (.int .i64 (n : Int)) = headA { h with age := some n } := rfl
theorem head_dom (h : Hd.Head) (d : List UInt8) : (headA h).setIfInBounds 2 (.string ⟨d.toArray⟩) = headA { h with domain := d } := rfl
theorem head_path (h : Hd.Head) (d : List UInt8) : (headA h).setIfInBounds 3 (.string ⟨d.toArray⟩) = headA { h with path := d } := rfl
theorem head_sec (h : Hd.Head) : (headA h).setIfInBounds 8 (.bool true) = headA { h with secure := true } := rfl
theorem head_only (h : Hd.Head) : (headA h).setIfInBounds 9 (.bool true) = headA { h with only := true } := rfl
theorem head_same (h : Hd.Head) (n : Nat) : (headA h).setIfInBounds 10 (.int .i64 (n : Int)) = headA { h with same := n } := rfl
/-- A header, and the error's number. -/
def NewHead (o : Int × Hd.Head) (w : World) (e : Ending) (w' : World) : Prop := e = .returned (.tuple #[.agg (headA o.2), .int .i64 o.1]) ∧ Below w.heap.size w w'
/-! ### The four words -/
structure Hal (w : World) : Prop where
  cal : Cal w
  same : w.var? Tryz.prog "cracknel/header.sameNames" = some (textsA Hd.words4)
theorem gSame : Tryz.prog.globalNamed "cracknel/header.sameNames" = some 0 := by kernel_rfl
theorem Hal.below {w w' : World} (h : Hal w) (hb : Below w.heap.size w w') : Hal w' := ⟨h.cal.below hb, Go.Joins.var_stays gSame h.same hb (Nat.le_refl _)⟩
theorem Hal.word {w : World} (h : Hal w) {i : Nat} {s : List UInt8} (hs : Hd.words4[i]? = some s) : w.cell? ⟨0, i, none⟩ = some (strV s) := by
  rw [World.var?_cell gSame h.same i, textsA_at, hs]; rfl
theorem Hal.row {w : World} (h : Hal w) : ∃ t fr, w.heap[0]? = some (.cells (textsA Hd.words4) t fr) := by
  have hn := h.same
  unfold World.var? at hn
  rw [gSame] at hn
  dsimp only [Option.bind] at hn
  split at hn
  · rename_i cs t fr hb
    cases hn
    exact ⟨t, fr, hb⟩
  · cases hn
end Go.Proofs.YtpimaobejjpffaaGreatDoor
