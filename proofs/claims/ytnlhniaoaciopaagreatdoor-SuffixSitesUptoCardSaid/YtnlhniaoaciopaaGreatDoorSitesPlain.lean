/- Plain facts on a host that a text says, and on its site. No program is named here. -/
import Derived.Test.YtnlhniaoaciopaaGreatDoorSufPlain
import Derived.Test.YtnlhniaoaciopaaGreatDoorPlains
namespace Go.Proofs.YtnlhniaoaciopaaGreatDoor
namespace Hst
theorem dec_digits (c : UInt8) : Oct.digits (Lib.decDigits c.toNat) = true ∧ ∀ d ∈ Lib.decDigits c.toNat, d ≠ 46 := by
  have hc : c.toNat < 256 := by have := c.toNat_lt; omega
  rw [Adr.decE_eq _ hc]
  obtain ⟨h1, _, h3⟩ := Adr.decE_facts c.toNat hc
  refine ⟨?_, fun d hd => ?_⟩
  · unfold Adr.okNum Oct.isNum at h1
    simp only [Bool.and_eq_true] at h1
    exact h1.1.1.1
  · have := List.all_eq_true.1 h3 d hd; simpa using this
theorem v4_four {s q : List UInt8} (h : Adr.v4 s = some q) : q.length = 4 := by
  unfold Adr.v4 at h
  split at h
  · rename_i k
    rw [← Option.some.inj h, List.length_map]; exact k.1
  · cases h
theorem tx4_facts {q : List UInt8} (hq : q.length = 4) : (Adr.tx4 q).length ≤ 20 ∧ (Adr.tx4 q).head? ≠ some 91 ∧ Oct.digits (last (Adr.tx4 q)) = true := by
  obtain ⟨a, b, c, d, rfl⟩ : ∃ a b c d, q = [a, b, c, d] := by
    match q, hq with
    | [a, b, c, d], _ => exact ⟨a, b, c, d, rfl⟩
  have hs : Oct.split 46 (Adr.tx4 [a, b, c, d]) = [a, b, c, d].map fun c => Lib.decDigits c.toNat := Adr.split_join 46 _ (by simp) (by
    intro p hp
    obtain ⟨x, _, rfl⟩ := List.mem_map.1 hp
    exact (dec_digits x).2)
  refine ⟨?_, ?_, ?_⟩
  · have h1 := Adr.join_length [46] rfl 3 ([a, b, c, d].map fun c => Lib.decDigits c.toNat) (Adr.decs_small _)
    have h2 : ([a, b, c, d].map fun c => Lib.decDigits c.toNat).length = 4 := rfl
    rw [h2] at h1
    unfold Adr.tx4
    omega
  · have h1 := (dec_digits a).1
    have he : Adr.tx4 [a, b, c, d] = Lib.decDigits a.toNat ++ 46 :: Lib.join ([b, c, d].map fun c => Lib.decDigits c.toNat) [46] := Adr.join_step _ _ _ _
    rw [he]
    unfold Oct.digits at h1
    cases hl : Lib.decDigits a.toNat with
    | nil => rw [hl] at h1; exact absurd h1 (by decide)
    | cons x r =>
      rw [hl] at h1
      intro e
      have e : x = 91 := by simpa using e
      subst e
      simp at h1
      exact absurd h1.1 (by decide)
  · unfold last
    rw [hs]
    exact (dec_digits d).1
theorem tx6_few {g : List UInt16} (hg : g.length = 8) : (Adr.tx6 g).length ≤ 100 := by
  have h1 := Adr.rowT_length g
  have h2 := Adr.rowT_length (g.take (Adr.nf g))
  have h3 := Adr.rowT_length (g.drop (Adr.nt g))
  rw [List.length_take] at h2
  rw [List.length_drop] at h3
  unfold Adr.tx6
  split
  · omega
  · rw [List.length_append, List.length_cons, List.length_cons]; omega
/-- What a text says can be. -/
theorem parse_can {l : List UInt8} {h : Host} (hp : parse l = some h) : can h = true := by
  by_cases hk : h.kind = 1
  · obtain ⟨hg, e, _⟩ := parse_good hp hk
    rw [can_right hk, e]; exact good_right hg
  · unfold can
    refine decide_eq_true ?_
    unfold parse at hp
    split at hp
    · cases hp
    · split at hp
      · unfold v6part at hp
        split at hp
        · cases hv : Adr.v6 l.tail.dropLast with
          | none => rw [hv] at hp; cases hp
          | some g =>
            rw [hv] at hp
            have e : (⟨3, [], Adr.from_ g⟩ : Host) = h := Option.some.inj hp
            have hg := Adr.v6_length hv
            subst e
            have et : text ⟨3, [], Adr.from_ g⟩ = 91 :: (Adr.tx6 g ++ [93]) := by
              unfold text
              rw [if_neg (by show ¬ (3 : Int) = 1; omega), if_neg (by show ¬ (3 : Int) = 2; omega), if_pos rfl, Adr.groups_from]
            rw [et]
            have hl := tx6_few hg
            unfold parse
            rw [if_neg (by simp; omega), if_pos (show (91 :: (Adr.tx6 g ++ [93])).head? = some 91 from rfl)]
            show v6part (Adr.tx6 g ++ [93]) = _
            unfold v6part
            rw [if_pos (by simp), List.dropLast_concat, Adr.v6_tx6 hg]; rfl
        · cases hp
      · split at hp
        · unfold v4part at hp
          cases hv : Adr.v4 l with
          | none => rw [hv] at hp; cases hp
          | some q =>
            rw [hv] at hp
            have e : (⟨2, [], Adr.addr4 (some q)⟩ : Host) = h := Option.some.inj hp
            have hq := v4_four hv
            subst e
            have et : text ⟨2, [], Adr.addr4 (some q)⟩ = Adr.tx4 q := by
              unfold text
              rw [if_neg (by show ¬ (2 : Int) = 1; omega), if_pos rfl]
              rfl
            rw [et]
            obtain ⟨h1, h2, h3⟩ := tx4_facts hq
            unfold parse
            rw [if_neg (by omega), if_neg h2, if_pos h3]
            unfold v4part
            rw [Adr.v4_tx4 hq]; rfl
        · split at hp
          · exfalso
            have := congrArg Host.kind (Option.some.inj hp)
            exact hk this.symm
          · cases hp
end Hst
namespace Sx
open Hst
theorem sites_addr {l : List UInt8} {h : Host} (hp : Hst.parse l = some h) (hk : h.kind ≠ 1) (rs : List Ru.Rule) : suffix (new rs) h = 0 ∧ isPublic 0 h = false ∧ site 0 h = Hst.text h := by
  have hl : Hst.labels h = [] := by unfold Hst.labels; rw [if_neg (fun k => hk k.1)]
  refine ⟨suffix_none hl, ?_, ?_⟩
  · unfold isPublic; rw [hl]; rfl
  · unfold site; rw [if_neg hk, if_pos (parse_can hp)]
theorem sites_name {l : List UInt8} {h : Host} (hp : Hst.parse l = some h) (hk : h.kind = 1) (rs : List Ru.Rule) :
    (isPublic (suffix (new rs) h) h = true → site (suffix (new rs) h) h = []) ∧
    (isPublic (suffix (new rs) h) h = false → (Hst.labels ⟨1, site (suffix (new rs) h) h, Hst.nil16⟩).length = suffix (new rs) h + 1 ∧ ((⟨1, site (suffix (new rs) h) h, Hst.nil16⟩ : Host) = h ∨ Hst.under h ⟨1, site (suffix (new rs) h) h, Hst.nil16⟩ = true) ∧ (site (suffix (new rs) h) h).length ≤ 253) := by
  obtain ⟨hg, e, _⟩ := parse_good hp hk
  have hr : Hst.right h = true := by rw [e]; exact good_right hg
  have hl : Hst.labels h ≠ [] := by
    unfold Hst.labels
    rw [if_pos ⟨hk, hr⟩]
    intro k
    have := Oct.split_pos 46 h.name
    rw [k] at this
    simp at this
  have hlp := List.length_pos_iff.2 hl
  obtain ⟨h1, h2⟩ := suffix_few (rs := rs) hl
  generalize suffix (new rs) h = n at *
  refine ⟨fun k => site_public hk ?_, fun k => ?_⟩
  · unfold isPublic at k
    simp at k
    omega
  · have hn : n < (Hst.labels h).length := by
      unfold isPublic at k
      simp at k
      omega
    obtain ⟨e1, e2, e3⟩ := site_name hk hn
    refine ⟨e2, e3, ?_⟩
    have hd : Hst.labels ⟨1, site n h, Hst.nil16⟩ ≠ [] := by intro e; rw [e] at e2; simp at e2
    exact (labels_good hd).2.1.few
end Sx
end Go.Proofs.YtnlhniaoaciopaaGreatDoor
