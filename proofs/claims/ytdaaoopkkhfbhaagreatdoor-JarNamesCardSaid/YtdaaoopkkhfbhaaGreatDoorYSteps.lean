/- Steps of a walk through a region whose order is open: what each asks for is paid by the same tactics everywhere. -/
import Derived.Deep.Quiet
import Derived.OrdersHeld
import Derived.Lib.Hide
import Derived.Deep.RegionHeld
namespace Go.Proofs.YtdaaoopkkhfbhaaGreatDoor
abbrev zA1:=@List.setIfInBounds_toArray
abbrev zA2:=@List.set_cons_succ
abbrev zA3:=@List.set_cons_zero
abbrev zA4:=@List.getElem_cons_zero
abbrev zA5:=@List.getElem_cons_succ
abbrev zA6:=@List.getElem_toArray
abbrev zA7:=@Lib.hid
abbrev zA8:=@decide_eq_false
abbrev zA9:=@decide_eq_true
abbrev zB1:=@of_decide_eq_true
abbrev zB2:=@Option.some.inj
abbrev zB3:=@Nat.le_refl
abbrev zB4:=@List.length_append
abbrev zB5:=@List.length_cons
end Go.Proofs.YtdaaoopkkhfbhaaGreatDoor
namespace Go.Proofs.YtdaaoopkkhfbhaaGreatDoor
section
variable {P:Program} {ops:Array Oper} {Q:Exit->Act->World->Prop} {md:Region.Mode} {S:World->Prop} {fuel:Nat} {listed l':Array Bool} {a a':Act} {w:World} {v:Value} {oi:Oper}
theorem bG {i:Nat}(hi:ops[i]? =some oi)(hy:YieldsIf P ops S oi v a)(h:wpAnyH P md ops Q S fuel l' a' w)
  (hs:Region.noSelect ops=true:=by kernel_rfl)(hf:Region.free md ops listed i=true:=by kernel_rfl)(hr:(Region.ready md ops listed).contains i=true:=by kernel_rfl)
  (hQ: ∀c a w,Q (.panic c) (a.put oi.dst v) w->Q (.panic c) a w:=by exact fun _ _ _ h=>h)(hS:S w:=by assumption)
  (hl:listed.setIfInBounds i true=l':=by first|(simp only[zA1,zA3,zA2];exact rfl)|exact rfl)
  (ha:a.put oi.dst v=a':=by simp only[Act.put,zA1,zA3,zA2,zA6,zA4,zA5];exact rfl):
  wpAnyH P md ops Q S (fuel+1) listed a w:=by
 subst hl ha
 exact wpAnyH_take hi hs hf hr hQ hy hS h
theorem lA {i:Nat}(hi:ops[i]? =some oi)(h:wpAnyH P md ops Q S fuel l' a' w)(hw:Region.wanted oi (yielded ops a.tmps)=true:=by rfl)
  (hv: ∀w,S w->(execOp a.eval oi).run P w= .ok (.value v) w:=by intro _ _;go_simp;with_reducible rfl)
  (hs:Region.noSelect ops=true:=by kernel_rfl)(hf:Region.free md ops listed i=true:=by kernel_rfl)(hr:(Region.ready md ops listed).contains i=true:=by kernel_rfl)
  (hQ: ∀c a w,Q (.panic c) (a.put oi.dst v) w->Q (.panic c) a w:=by exact fun _ _ _ h=>h)(hS:S w:=by assumption)
  (hl:listed.setIfInBounds i true=l':=by first|(simp only[zA1,zA3,zA2];exact rfl)|exact rfl)
  (ha:a.put oi.dst v=a':=by simp only[Act.put,zA1,zA3,zA2,zA6,zA4,zA5];exact rfl):
  wpAnyH P md ops Q S (fuel+1) listed a w:=by
 subst hl ha
 exact wpAnyH_take hi hs hf hr hQ (Or.inl ⟨hw,hv⟩) hS h
theorem QA {i:Nat}(h: ∀K':Act->World->Prop,Shut (∀a w,S w->(S w->wpAnyH P md ops Q S fuel (listed.setIfInBounds i true) a w)->K' a w)->Oper.wp P oi a w K' Q)
  (hr:Region.ready md ops listed= [i]:=by kernel_rfl)(ho:ops[i]? =some oi:=by rfl)(hw:Region.wanted oi (yielded ops a.tmps)=true:=by rfl):
  wpAnyH P md ops Q S (fuel+1) listed a w:=
 wpAnyH_ready hr (by simp) (AllReadyH.cons ho (fun K hK=>by rw[if_pos hw];exact h K hK) AllReadyH.nil)
end
section
variable {P:Program} {ops:Array Oper} {C:World->Prop} {Q:Act->Prop} {a a':Act} {o:Oper} {rest:List Oper} {v:Value}
theorem nAO(hy:YieldsIf P ops C o v a)(h:wpQuiet P ops C Q rest (a.put o.dst v)):wpQuiet P ops C Q (o::rest) a:=by
 refine wpQuiet_step fun K hK=>?_
 rcases hy with⟨hw,hr⟩|⟨hw,hv⟩
 ·rw[if_pos hw]
  exact⟨v,fun w hC=>by unfold Oper.quietAt;rw[hr w hC];exact⟨rfl,rfl⟩,hK _ h⟩
 ·rw[if_neg (by rw[hw];decide),<-hv]
  exact hK _ h
theorem WB(hy:YieldsIf P ops C o v a)(h:wpQuiet P ops C Q rest a')
  (ha:a.put o.dst v=a':=by simp only[Act.put,zA1,zA3,zA2];exact rfl):wpQuiet P ops C Q (o::rest) a:=by
 subst ha
 exact nAO hy h
theorem kA(h:wpQuiet P ops C Q rest a')(hw:Region.wanted o (yielded ops a.tmps)=true:=by rfl)
  (hv: ∀w,C w->(execOp a.eval o).run P w= .ok (.value v) w:=by intro _ _;go_simp;with_reducible rfl)
  (ha:a.put o.dst v=a':=by simp only[Act.put,zA1,zA3,zA2];exact rfl):wpQuiet P ops C Q (o::rest) a:=by
 subst ha
 exact nAO (Or.inl ⟨hw,hv⟩) h
theorem rC(v:Value)(hc: ∀w,C w->o.quietAt P a C w v)(h:wpQuiet P ops C Q rest a')(hw:Region.wanted o (yielded ops a.tmps)=true:=by rfl)
  (ha:a.put o.dst v=a':=by simp only[Act.put,zA1,zA3,zA2];exact rfl):wpQuiet P ops C Q (o::rest) a:=by
 subst ha
 refine wpQuiet_step fun K hK=>?_
 rw[if_pos hw]
 exact⟨v,hc,hK _ h⟩
end
end Go.Proofs.YtdaaoopkkhfbhaaGreatDoor
