/- The wraps for rows that hold where what they read is of some bulk at most, and that list variables. -/
import Derived.JoinedCond
import Derived.Test.YtabgoobcliijeaaGreatDoorY16
set_option maxHeartbeats 2000000
set_option maxRecDepth 100000
namespace Go.Proofs.YtabgoobcliijeaaGreatDoor
open Go.ChangeShapes Go.WideShapes Go.ChangeAt Go.WideMaps Go.WideElems Go.RowKit
section
variable {H:Type} {enc:TypeId×Value->H}
theorem pU {a:Assume}{C:Checked}{os:Os}{f:FuncId}{fn:Func}{s:OpenSpec}{k:(H:Type)->List (DataW H)->Bool}(hk:s.cond=some k){F:Stop.Interp}{conds:List PathCond}{apart fresh handsOn again:Bool}{X:World->Array Value->Prop}
  (hX: ∀(w w':World)(args:Array Value),w.heap=w'.heap->X w args->X w' args)
  (own:ownKnob C.prog.godebug=none)(started:os.Started)(noInit:C.prog.inits.idxOf? f=none)(hfn:C.prog.funcs[f]? =some fn)
  (witness: ∃(w:World)(tape:Tape)(i:Input),w.os=os/\(w.forCall tape i).Shaped C.prog/\i.vars= []/\Input.okWide C.prog (w.forCall tape i) .any w.heap.size f i/\
   ((s.pre enc C.prog fn conds apart (w.forCall tape i).memory i.args/\X (w.forCall tape i).memory i.args)/\sizedMet enc C.prog fn s apart (w.forCall tape i).memory i.args)/\a.holds C.prog (lone (Frame.enter C.prog f i.args .normal) [] (w.forCall tape i)))
  (contract: ∀(W:World)(base:Nat)(args:Array Value)(ds gs:List (DataW H))(before:List MemPlace),
   (∀(j:Nat) t v,fn.params[j]? =some t->args[j]? =some v->Value.okWide C.prog W .any base t v)->
   DataW.Whole enc C.prog fn.params.toList s.vars apart W args.toList ds gs before->k H (ds++gs)=true->
   X W args->W.ShapedOpen C.prog->
   Calls C.prog f args W fun e W'=> ∃v,e= .returned v/\(s.at F).post enc C.prog fn apart fresh handsOn again W args v W'):
  ReturnsInHanded a C os f .any (fun w args=>(s.pre enc C.prog fn conds apart w args/\X w args)/\sizedMet enc C.prog fn s apart w args) ((s.at F).post enc C.prog fn apart fresh handsOn again):=by
 refine returnsInHanded_of_calls own started noInit witness ?_
 intro w tape i _ hsh _ hok hpre _
 obtain⟨_,_,_,fn',hfn',_,_,_,_,hval⟩:=hok
 have e:fn'=fn:=zB2 (hfn'.symm.trans hfn)
 subst e
 obtain⟨⟨hp,hx⟩,_⟩:=hpre
 obtain⟨ds,gs,before,hw,_,hkk⟩:=(OpenSpec.pre_some hk conds apart _ _).1 hp
 have hw':=DataW.Whole.of_heap (w':=w.forCall tape i) (by rfl) hw
 refine(contract (w.forCall tape i) w.heap.size i.args ds gs before hval hw' hkk (hX _ _ _ (by rfl) hx) hsh).mono fun e W' ⟨v,he,hp⟩=>?_
 subst he
 exact ChangeSpec.post_blind hp
theorem RW {C:Checked}{os:Os}{f:FuncId}{fn:Func}{s:OpenSpec}{k:(H:Type)->List (DataW H)->Bool}(hk:s.cond=some k){conds:List PathCond}{apart:Bool}{X:World->Array Value->Prop}(modest:Bool)(w0:World)(args:Array Value)(fuel:Nat)(hos:w0.os=os)
  (hsh:(w0.forCall (fun _ _=>0) ⟨#[],args,[]⟩).Shaped C.prog)
  (hok:Input.okWideB C.prog (w0.forCall (fun _ _=>0) ⟨#[],args,[]⟩) f ⟨#[],args,[]⟩=true)
  {x:List (DataW H)×List (DataW H)×List MemPlace}(hx:DataW.whole enc C.prog (w0.forCall (fun _ _=>0) ⟨#[],args,[]⟩).memory fn.params.toList s.vars apart args.toList fuel=some x)
  (hconds:conds.all (PathCond.test C.prog ⟨fn.params.toList,x.1,s.bare.plain.varTypes C.prog,x.2.1⟩)=true)(hkk:k H (x.1++x.2.1)=true)
  (hsz:s.bare.sizedB enc C.prog fn apart (w0.forCall (fun _ _=>0) ⟨#[],args,[]⟩).memory args fuel=true)
  (hX:X (w0.forCall (fun _ _=>0) ⟨#[],args,[]⟩).memory args):
  ∃(w:World)(tape:Tape)(i:Input),w.os=os/\(w.forCall tape i).Shaped C.prog/\i.vars= []/\Input.okWide C.prog (w.forCall tape i) .any w.heap.size f i/\
   ((s.pre enc C.prog fn conds apart (w.forCall tape i).memory i.args/\X (w.forCall tape i).memory i.args)/\sizedMet enc C.prog fn s apart (w.forCall tape i).memory i.args)/\({modest:=modest} :Assume).holds C.prog (lone (Frame.enter C.prog f i.args .normal) [] (w.forCall tape i)):=
 ⟨w0,fun _ _=>0,⟨#[],args,[]⟩,hos,hsh,(Input.okWide_of_okWideB (base:=0) hok).1,(Input.okWide_of_okWideB hok).2,
  ⟨⟨(OpenSpec.pre_some hk conds apart _ _).2 ⟨x.1,x.2.1,x.2.2,DataW.Whole_of_whole hx,hconds,hkk⟩,hX⟩,sizedMet_of_sizedB hsz⟩,by
  simp only[Assume.holds]
  exact⟨by simp,by simp,fun _=>Modest.zero,by simp,by simp⟩⟩
end
theorem oAd {H:Type}{d:DataW H}{s t:List UInt8}(h:Rows.uptoSmall H ([d,.lit (.string s),.lit (.string t)]++ [])=true):s.length<=1048576/\t.length<=1048576:=by
 have h:=zB1 h
 simp[Rows.uptoBulkAll,Rows.uptoBulk]at h
 omega
end Go.Proofs.YtabgoobcliijeaaGreatDoor
namespace Go.Proofs.YtabgoobcliijeaaGreatDoor
open Go.ChangeShapes Go.WideShapes Go.ChangeAt Go.WideMaps Go.WideElems Go.RowKit Go.Deep
section
variable {H:Type} {enc:TypeId×Value->H} {w:World} {base:Nat} {spare:Nat->Bool} {held:Bool}
def eF(x y:ByteArray):Array Value:= #[.string x,.string y]
def fO(x y:ByteArray):DataW H:= .agg [.lit (.string x.data.toList),.lit (.string y.data.toList)]
theorem aZ:Tryz.prog.cellsOf 44=2:=by kernel_rfl
theorem open_pair {r:Reach}{b0:Nat}{v:Value}{d:DataW H}{p:List MemPlace}(hv:Value.okWide Tryz.prog w r b0 44 v)(h:DataW.Trod enc Tryz.prog w base spare held 44 v d p):
  ∃x y:ByteArray,v= .agg (eF x y)/\d=fO x y/\p= []/\x.size<=maxLen/\y.size<=maxLen:=by
 have ht:=Tryz.underlying44
 simp only[Value.okWide,ht]at hv
 obtain⟨cs,rfl,hsz,_⟩:=hv
 obtain⟨fuel,hf⟩:=h
 obtain⟨xs,m,_,hx,hlen,hxl,hat⟩:=DataW.trod_array ht hf
 have hc:(Value.agg cs).cells.toList=cs.toList:=rfl
 rw[hc]at hlen hat
 rw[oF]at hat
 rw[aZ]at hlen
 obtain⟨c0,c1,hcs⟩: ∃c0 c1,cs.toList= [c0,c1]:=by
  match cs.toList,hlen with
  | [c0,c1],_=>exact⟨c0,c1,rfl⟩
 obtain⟨y0,y1,hys⟩: ∃y0 y1,xs= [y0,y1]:=by
  match xs,hxl with
  | [y0,y1],_=>exact⟨y0,y1,rfl⟩
 subst hys
 rw[hcs]at hat
 have h0:DataW.trod enc Tryz.prog w base spare held m 9 [c0]=some y0:=by simpa using hat 0 (by omega)
 have h1:DataW.trod enc Tryz.prog w base spare held m 9 [c1]=some y1:=by simpa using hat 1 (by omega)
 obtain⟨s,e0,rfl,w0⟩:=DataW.trod_string Tryz.underlying9 h0
 obtain⟨t,e1,rfl,w1⟩:=DataW.trod_string Tryz.underlying9 h1
 obtain⟨rfl,_⟩:=List.cons.inj e0
 obtain⟨rfl,_⟩:=List.cons.inj e1
 simp only[Prod.mk.injEq]at hx
 refine⟨s,t,?_,hx.1,?_,w0,w1⟩
 ·congr 1
  apply Array.ext'
  rw[hcs];rfl
 ·rw[hx.2];rfl
theorem shut_pair {x y:ByteArray}(hx:x.size<=maxLen)(hy:y.size<=maxLen):DataW.Trod enc Tryz.prog w base spare held 44 (.agg (eF x y)) (fO x y) []:=by
 obtain⟨m0,g0⟩:=Go.ChangeMaps.shut_string (enc:=enc) (P:=Tryz.prog) (w:=w) (base:=base) (sp:=spare) (held:=held) (s:=x) Tryz.underlying9 hx
 obtain⟨m1,g1⟩:=Go.ChangeMaps.shut_string (enc:=enc) (P:=Tryz.prog) (w:=w) (base:=base) (sp:=spare) (held:=held) (s:=y) Tryz.underlying9 hy
 refine⟨max m0 m1+1,?_⟩
 have hc:(Value.agg (eF x y)).cells.toList= [.string x,.string y]:=rfl
 have k0:DataW.trod enc Tryz.prog w base spare held (max m0 m1) 9 [.string x]=some (.lit (.string x.data.toList),[]):=DataW.trod_le (by omega) g0
 have k1:DataW.trod enc Tryz.prog w base spare held (max m0 m1) 9 [.string y]=some (.lit (.string y.data.toList),[]):=DataW.trod_le (by omega) g1
 have r2:List.range 2= [0,1]:=rfl
 rw[hc]
 unfold DataW.trod
 simp only[Tryz.underlying44]
 rw[if_pos (by rw[aZ];rfl),oF]
 simp[r2,k0,k1,fO]
structure YS(r:Hd.Raw):Prop where
 name:r.name.length<=maxLen
 value:r.value.length<=maxLen
 domain:r.domain.length<=maxLen
 path:r.path.length<=maxLen
 exp:(Lit.int .i64 r.exp).wf=true
 age:(Lit.int .i64 r.age).wf=true
 same:(Lit.int .i64 r.same).wf=true
def zU(r:Hd.Raw):DataW H:= .agg [.lit (.string r.name),.lit (.string r.value),.lit (.string r.domain),.lit (.string r.path),.lit (.bool r.ZE),.lit (.int .i64 r.exp),.lit (.bool r.BE),.lit (.int .i64 r.age),.lit (.bool r.secure),.lit (.bool r.only),.lit (.int .i64 r.same)]
theorem ZY:Tryz.prog.cellsOf 35=11:=by kernel_rfl
theorem I9: ∃f0 f1 f2 f3 f4 f5 f6 f7 f8 f9 f10,Tryz.prog.underlying 35=some (.struct #[f0,f1,f2,f3,f4,f5,f6,f7,f8,f9,f10])/\(f0.offset=0/\f1.offset=1/\f2.offset=2/\f3.offset=3/\f4.offset=4/\f5.offset=5/\f6.offset=6/\f7.offset=7/\f8.offset=8/\f9.offset=9/\f10.offset=10)/\(f0.type=9/\f1.type=9/\f2.type=9/\f3.type=9/\f4.type=4/\f5.type=2/\f6.type=4/\f7.type=2/\f8.type=4/\f9.type=4/\f10.type=3):=
 ⟨_,_,_,_,_,_,_,_,_,_,_,Tryz.underlying35,⟨rfl,rfl,rfl,rfl,rfl,rfl,rfl,rfl,rfl,rfl,rfl⟩,⟨rfl,rfl,rfl,rfl,rfl,rfl,rfl,rfl,rfl,rfl,rfl⟩⟩
theorem iAR {α:Type}{l:List α}(h:l.length=11){a0 a1 a2 a3 a4 a5 a6 a7 a8 a9 CJ:α}(h0:(l.drop 0).take 1= [a0])(h1:(l.drop 1).take 1= [a1])(h2:(l.drop 2).take 1= [a2])(h3:(l.drop 3).take 1= [a3])(h4:(l.drop 4).take 1= [a4])(h5:(l.drop 5).take 1= [a5])(h6:(l.drop 6).take 1= [a6])(h7:(l.drop 7).take 1= [a7])(h8:(l.drop 8).take 1= [a8])(h9:(l.drop 9).take 1= [a9])(h10:(l.drop 10).take 1= [CJ]):l= [a0,a1,a2,a3,a4,a5,a6,a7,a8,a9,CJ]:=by
 match l,h with
 | [x0,x1,x2,x3,x4,x5,x6,x7,x8,x9,x10],_=>
  simp at h0 h1 h2 h3 h4 h5 h6 h7 h8 h9 h10
  subst h0;subst h1;subst h2;subst h3;subst h4;subst h5;subst h6;subst h7;subst h8;subst h9;subst h10;rfl
theorem pAw {t:TypeId}{f0 f1 f2 f3 f4 f5 f6 f7 f8 f9 f10:Field}{fuel:Nat}{cs:List Value}{x:DataW H×List MemPlace}(ht:Tryz.prog.underlying t=some (.struct #[f0,f1,f2,f3,f4,f5,f6,f7,f8,f9,f10]))(h:DataW.trod enc Tryz.prog w base spare held fuel t cs=some x):
  ∃y0 y1 y2 y3 y4 y5 y6 y7 y8 y9 lM n,x=(.agg [y0.1,y1.1,y2.1,y3.1,y4.1,y5.1,y6.1,y7.1,y8.1,y9.1,lM.1],y0.2++(y1.2++(y2.2++(y3.2++(y4.2++(y5.2++(y6.2++(y7.2++(y8.2++(y9.2++(lM.2)))))))))))/\cs.length=Tryz.prog.cellsOf t/\DataW.trod enc Tryz.prog w base spare held n f0.type ((cs.drop f0.offset).take (Tryz.prog.cellsOf f0.type))=some y0/\
   DataW.trod enc Tryz.prog w base spare held n f1.type ((cs.drop f1.offset).take (Tryz.prog.cellsOf f1.type))=some y1/\
   DataW.trod enc Tryz.prog w base spare held n f2.type ((cs.drop f2.offset).take (Tryz.prog.cellsOf f2.type))=some y2/\
   DataW.trod enc Tryz.prog w base spare held n f3.type ((cs.drop f3.offset).take (Tryz.prog.cellsOf f3.type))=some y3/\
   DataW.trod enc Tryz.prog w base spare held n f4.type ((cs.drop f4.offset).take (Tryz.prog.cellsOf f4.type))=some y4/\
   DataW.trod enc Tryz.prog w base spare held n f5.type ((cs.drop f5.offset).take (Tryz.prog.cellsOf f5.type))=some y5/\
   DataW.trod enc Tryz.prog w base spare held n f6.type ((cs.drop f6.offset).take (Tryz.prog.cellsOf f6.type))=some y6/\
   DataW.trod enc Tryz.prog w base spare held n f7.type ((cs.drop f7.offset).take (Tryz.prog.cellsOf f7.type))=some y7/\
   DataW.trod enc Tryz.prog w base spare held n f8.type ((cs.drop f8.offset).take (Tryz.prog.cellsOf f8.type))=some y8/\
   DataW.trod enc Tryz.prog w base spare held n f9.type ((cs.drop f9.offset).take (Tryz.prog.cellsOf f9.type))=some y9/\
   DataW.trod enc Tryz.prog w base spare held n f10.type ((cs.drop f10.offset).take (Tryz.prog.cellsOf f10.type))=some lM:=by
 obtain⟨xs,n,_,rfl,hl,hlen,hf⟩:=DataW.trod_struct ht h
 match xs,hlen with
 | [y0,y1,y2,y3,y4,y5,y6,y7,y8,y9,lM],_=>exact⟨y0,y1,y2,y3,y4,y5,y6,y7,y8,y9,lM,n,by simp,hl,by simpa using hf 0 f0 rfl,by simpa using hf 1 f1 rfl,by simpa using hf 2 f2 rfl,by simpa using hf 3 f3 rfl,by simpa using hf 4 f4 rfl,by simpa using hf 5 f5 rfl,by simpa using hf 6 f6 rfl,by simpa using hf 7 f7 rfl,by simpa using hf 8 f8 rfl,by simpa using hf 9 f9 rfl,by simpa using hf 10 f10 rfl⟩
theorem lAx {r:Reach}{b0:Nat}{v:Value}{d:DataW H}{p:List MemPlace}(hv:Value.okWide Tryz.prog w r b0 35 v)(h:DataW.Trod enc Tryz.prog w base spare held 35 v d p):
  ∃x:Hd.Raw,v= .agg (uA x)/\d=zU x/\p= []/\YS x:=by
 obtain⟨f0,f1,f2,f3,f4,f5,f6,f7,f8,f9,f10,hs,⟨o0,o1,o2,o3,o4,o5,o6,o7,o8,o9,iK⟩,⟨t0,t1,t2,t3,t4,t5,t6,t7,t8,t9,t10⟩⟩:=I9
 obtain⟨cs,rfl,hsz⟩:=okWide_struct hs hv
 obtain⟨fuel,hf⟩:=h
 obtain⟨y0,y1,y2,y3,y4,y5,y6,y7,y8,y9,lM,n,hx,hl,h0,h1,h2,h3,h4,h5,h6,h7,h8,h9,h10⟩:=pAw hs hf
 rw[o0,t0,oF]at h0
 rw[o1,t1,oF]at h1
 rw[o2,t2,oF]at h2
 rw[o3,t3,oF]at h3
 rw[o4,t4,iH]at h4
 rw[o5,t5,KP]at h5
 rw[o6,t6,iH]at h6
 rw[o7,t7,KP]at h7
 rw[o8,t8,iH]at h8
 rw[o9,t9,iH]at h9
 rw[iK,t10,LJ]at h10
 obtain⟨s0,e0,rfl,w0⟩:=DataW.trod_string Tryz.underlying9 h0
 obtain⟨s1,e1,rfl,w1⟩:=DataW.trod_string Tryz.underlying9 h1
 obtain⟨s2,e2,rfl,w2⟩:=DataW.trod_string Tryz.underlying9 h2
 obtain⟨s3,e3,rfl,w3⟩:=DataW.trod_string Tryz.underlying9 h3
 obtain⟨s4,e4,rfl⟩:=DataW.trod_bool Tryz.underlying4 h4
 obtain⟨s5,e5,rfl,w5⟩:=DataW.trod_int Tryz.underlying2 h5
 obtain⟨s6,e6,rfl⟩:=DataW.trod_bool Tryz.underlying4 h6
 obtain⟨s7,e7,rfl,w7⟩:=DataW.trod_int Tryz.underlying2 h7
 obtain⟨s8,e8,rfl⟩:=DataW.trod_bool Tryz.underlying4 h8
 obtain⟨s9,e9,rfl⟩:=DataW.trod_bool Tryz.underlying4 h9
 obtain⟨s10,e10,rfl,OW⟩:=DataW.trod_int Tryz.underlying3 h10
 rw[ZY]at hl
 have hc:(Value.agg cs).cells.toList=cs.toList:=rfl
 rw[hc]at hl e0 e1 e2 e3 e4 e5 e6 e7 e8 e9 e10
 have he:=iAR hl e0 e1 e2 e3 e4 e5 e6 e7 e8 e9 e10
 simp only[Prod.mk.injEq]at hx
 refine⟨⟨s0.data.toList,s1.data.toList,s2.data.toList,s3.data.toList,s4,s5,s6,s7,s8,s9,s10⟩,?_,hx.1,?_,⟨(by rw[Oct.nA];exact w0),(by rw[Oct.nA];exact w1),(by rw[Oct.nA];exact w2),(by rw[Oct.nA];exact w3),w5,w7,OW⟩⟩
 ·congr 1
  apply Array.ext'
  rw[he]
  unfold uA lA
  simp only[gE]
 ·rw[hx.2];rfl
theorem nAY {x:Hd.Raw}(hx:YS x):DataW.Trod enc Tryz.prog w base spare held 35 (.agg (uA x)) (zU x) []:=by
 obtain⟨f0,f1,f2,f3,f4,f5,f6,f7,f8,f9,f10,hs,⟨o0,o1,o2,o3,o4,o5,o6,o7,o8,o9,iK⟩,⟨t0,t1,t2,t3,t4,t5,t6,t7,t8,t9,t10⟩⟩:=I9
 obtain⟨m0,g0⟩:=Go.ChangeMaps.shut_string (enc:=enc) (P:=Tryz.prog) (w:=w) (base:=base) (sp:=spare) (held:=held) (s:=⟨x.name.toArray⟩) Tryz.underlying9 (Nat.le_trans (Nat.le_of_eq (List.size_toArray ..)) hx.name)
 obtain⟨m1,g1⟩:=Go.ChangeMaps.shut_string (enc:=enc) (P:=Tryz.prog) (w:=w) (base:=base) (sp:=spare) (held:=held) (s:=⟨x.value.toArray⟩) Tryz.underlying9 (Nat.le_trans (Nat.le_of_eq (List.size_toArray ..)) hx.value)
 obtain⟨m2,g2⟩:=Go.ChangeMaps.shut_string (enc:=enc) (P:=Tryz.prog) (w:=w) (base:=base) (sp:=spare) (held:=held) (s:=⟨x.domain.toArray⟩) Tryz.underlying9 (Nat.le_trans (Nat.le_of_eq (List.size_toArray ..)) hx.domain)
 obtain⟨m3,g3⟩:=Go.ChangeMaps.shut_string (enc:=enc) (P:=Tryz.prog) (w:=w) (base:=base) (sp:=spare) (held:=held) (s:=⟨x.path.toArray⟩) Tryz.underlying9 (Nat.le_trans (Nat.le_of_eq (List.size_toArray ..)) hx.path)
 obtain⟨m4,g4⟩:=shut_bool (enc:=enc) (P:=Tryz.prog) (w:=w) (base:=base) (spare:=spare) (held:=held) Tryz.underlying4 x.ZE
 obtain⟨m5,g5⟩:=shut_int (enc:=enc) (P:=Tryz.prog) (w:=w) (base:=base) (spare:=spare) (held:=held) Tryz.underlying2 hx.exp
 obtain⟨m6,g6⟩:=shut_bool (enc:=enc) (P:=Tryz.prog) (w:=w) (base:=base) (spare:=spare) (held:=held) Tryz.underlying4 x.BE
 obtain⟨m7,g7⟩:=shut_int (enc:=enc) (P:=Tryz.prog) (w:=w) (base:=base) (spare:=spare) (held:=held) Tryz.underlying2 hx.age
 obtain⟨m8,g8⟩:=shut_bool (enc:=enc) (P:=Tryz.prog) (w:=w) (base:=base) (spare:=spare) (held:=held) Tryz.underlying4 x.secure
 obtain⟨m9,g9⟩:=shut_bool (enc:=enc) (P:=Tryz.prog) (w:=w) (base:=base) (spare:=spare) (held:=held) Tryz.underlying4 x.only
 obtain⟨m10,g10⟩:=shut_int (enc:=enc) (P:=Tryz.prog) (w:=w) (base:=base) (spare:=spare) (held:=held) Tryz.underlying3 hx.same
 obtain⟨M,hM⟩: ∃M,M=m0+m1+m2+m3+m4+m5+m6+m7+m8+m9+m10:=⟨_,rfl⟩
 have k0:DataW.trod enc Tryz.prog w base spare held M f0.type (((uA x).toList.drop f0.offset).take (Tryz.prog.cellsOf f0.type))=some (.lit (.string x.name),[]):=by
  rw[o0,t0,oF]
  exact DataW.trod_le (by omega) g0
 have k1:DataW.trod enc Tryz.prog w base spare held M f1.type (((uA x).toList.drop f1.offset).take (Tryz.prog.cellsOf f1.type))=some (.lit (.string x.value),[]):=by
  rw[o1,t1,oF]
  exact DataW.trod_le (by omega) g1
 have k2:DataW.trod enc Tryz.prog w base spare held M f2.type (((uA x).toList.drop f2.offset).take (Tryz.prog.cellsOf f2.type))=some (.lit (.string x.domain),[]):=by
  rw[o2,t2,oF]
  exact DataW.trod_le (by omega) g2
 have k3:DataW.trod enc Tryz.prog w base spare held M f3.type (((uA x).toList.drop f3.offset).take (Tryz.prog.cellsOf f3.type))=some (.lit (.string x.path),[]):=by
  rw[o3,t3,oF]
  exact DataW.trod_le (by omega) g3
 have k4:DataW.trod enc Tryz.prog w base spare held M f4.type (((uA x).toList.drop f4.offset).take (Tryz.prog.cellsOf f4.type))=some (.lit (.bool x.ZE),[]):=by
  rw[o4,t4,iH]
  exact DataW.trod_le (by omega) g4
 have k5:DataW.trod enc Tryz.prog w base spare held M f5.type (((uA x).toList.drop f5.offset).take (Tryz.prog.cellsOf f5.type))=some (.lit (.int .i64 x.exp),[]):=by
  rw[o5,t5,KP]
  exact DataW.trod_le (by omega) g5
 have k6:DataW.trod enc Tryz.prog w base spare held M f6.type (((uA x).toList.drop f6.offset).take (Tryz.prog.cellsOf f6.type))=some (.lit (.bool x.BE),[]):=by
  rw[o6,t6,iH]
  exact DataW.trod_le (by omega) g6
 have k7:DataW.trod enc Tryz.prog w base spare held M f7.type (((uA x).toList.drop f7.offset).take (Tryz.prog.cellsOf f7.type))=some (.lit (.int .i64 x.age),[]):=by
  rw[o7,t7,KP]
  exact DataW.trod_le (by omega) g7
 have k8:DataW.trod enc Tryz.prog w base spare held M f8.type (((uA x).toList.drop f8.offset).take (Tryz.prog.cellsOf f8.type))=some (.lit (.bool x.secure),[]):=by
  rw[o8,t8,iH]
  exact DataW.trod_le (by omega) g8
 have k9:DataW.trod enc Tryz.prog w base spare held M f9.type (((uA x).toList.drop f9.offset).take (Tryz.prog.cellsOf f9.type))=some (.lit (.bool x.only),[]):=by
  rw[o9,t9,iH]
  exact DataW.trod_le (by omega) g9
 have k10:DataW.trod enc Tryz.prog w base spare held M f10.type (((uA x).toList.drop f10.offset).take (Tryz.prog.cellsOf f10.type))=some (.lit (.int .i64 x.same),[]):=by
  rw[iK,t10,LJ]
  exact DataW.trod_le (by omega) g10
 have hc:(Value.agg (uA x)).cells.toList=(uA x).toList:=rfl
 have hlen:(uA x).toList.length=Tryz.prog.cellsOf 35:=by rw[ZY];rfl
 refine⟨M+1,?_⟩
 rw[hc]
 have:=trod_struct_mk (enc:=enc) (w:=w) (base:=base) (spare:=spare) (held:=held) (n:=M) (xs:= [(.lit (.string x.name),[]),(.lit (.string x.value),[]),(.lit (.string x.domain),[]),(.lit (.string x.path),[]),(.lit (.bool x.ZE),[]),(.lit (.int .i64 x.exp),[]),(.lit (.bool x.BE),[]),(.lit (.int .i64 x.age),[]),(.lit (.bool x.secure),[]),(.lit (.bool x.only),[]),(.lit (.int .i64 x.same),[])]) hs hlen (by simp[k0,k1,k2,k3,k4,k5,k6,k7,k8,k9,k10])
 simpa[zU]using this
end
theorem cAW {H:Type}{d e:DataW H}{x y:ByteArray}(h:Rows.uptoSmall H ([d,fO x y,e]++ [])=true):x.size<=1048576/\y.size<=1048576:=by
 have h:=zB1 h
 simp[Rows.uptoBulkAll,Rows.uptoBulk,fO]at h
 omega
end Go.Proofs.YtabgoobcliijeaaGreatDoor
namespace Go.Proofs.YtabgoobcliijeaaGreatDoor
open Go.RowKit
namespace Hd
def cutAt(l:List UInt8):Nat:=(l.takeWhile MB).length
theorem lZ(l:List UInt8):cutAt l<=l.length:=(List.takeWhile_prefix _).length_le
theorem OP: ∀l:List UInt8,l.take (cutAt l)=l.takeWhile MB/\l.drop (cutAt l)=l.dropWhile MB
 | []=>⟨rfl,rfl⟩
 |c::l=>by
  obtain⟨h1,h2⟩:=OP l
  unfold cutAt at h1 h2⊢
  cases h:MB c with
  |true=>
   rw[List.takeWhile_cons_of_pos h,List.dropWhile_cons_of_pos h,zB5,List.take_succ_cons,List.drop_succ_cons,h1,h2]
   exact⟨rfl,rfl⟩
  |false=>
   rw[List.takeWhile_cons_of_neg (by rw[h];simp),List.dropWhile_cons_of_neg (by rw[h];simp)]
   exact⟨rfl,rfl⟩
theorem nZ: ∀ {l:List UInt8}{k:Nat}(h:k<l.length),(∀c∈l.take k,MB c=true)->MB l[k]=false->cutAt l=k
 |c::l,0,h,_,hc=>by
  unfold cutAt
  rw[List.takeWhile_cons_of_neg (by rw[show MB c=false from hc];simp)];rfl
 |c::l,k+1,h,ha,hc=>by
  have ih:=nZ (l:=l) (k:=k) (by simpa using h) (fun x hx=>ha x (by rw[List.take_succ_cons];exact List.mem_cons_of_mem _ hx)) (by simpa using hc)
  have h0:MB c=true:=ha c (by rw[List.take_succ_cons];exact List.mem_cons_self)
  unfold cutAt at ih⊢
  rw[List.takeWhile_cons_of_pos h0,zB5,ih]
theorem mZ {l:List UInt8}(h: ∀c∈l,MB c=true):cutAt l=l.length:=by
 unfold cutAt
 rw[(vW fun c hc=>(NL c).1 (h c hc)).1]
theorem fA6(l:List UInt8):Oct.trim (l.take (cutAt l))=ahead l:=by unfold ahead;rw[(OP l).1]
theorem NY(l:List UInt8):Oct.trim (l.drop (cutAt l+1))=behind l:=by
 unfold behind
 rw[<-(OP l).2,List.drop_drop]
theorem fAt {l:List UInt8}(h:cutAt l=l.length):behind l= []:=by
 rw[<-NY,h,List.drop_eq_nil_of_le (by omega)];rfl
theorem oA3(l:List UInt8):61∈l↔cutAt l≠l.length:=by
 constructor
 ·intro h e
  have h2:=(OP l).1
  rw[e,List.take_length]at h2
  have:=uW l 61 (by rw[<-h2];exact h)
  exact this rfl
 ·intro h
  refine Decidable.byContradiction fun k=>h ?_
  exact mZ fun c hc=>(NL c).2 fun e=>k (by rw[<-e];exact hc)
end Hd
theorem WV(s:ByteArray)(w:World)(hs:s.size<=maxLen):
  Calls Tryz.prog 50 #[.string s] w fun e w'=>e= .returned (.int .i64 ((Hd.cutAt s.data.toList:Nat):Int))/\w=w':=by
 unfold maxLen at hs
 have hl:=Oct.nA s
 have HY:=zA7 (fun k h=> @Hd.nZ s.data.toList k h)
 have HN:=zA7 (@Hd.mZ s.data.toList)
 generalize Hd.cutAt s.data.toList=n at*
 go_enter Tryz.func50,Tryz.ntmps50
 go_wp2
 go_loop [3] (fun i=> ∃k:Nat,k<=s.size/\i= .int .i64 k/\(∀c∈s.data.toList.take k,Hd.MB c=true)) (fun i=>s.size- (intOf i).toNat)
 case atStart=>exact⟨0,Nat.zero_le _,rfl,by simp⟩
 case round=>
  obtain⟨k,hk,rfl,hall⟩:=hrel
  have HA:=zA7 hall
  clear hall
  by_cases hlt:k<s.size
  ·have htk:=Oct.fG s k hlt
   by_cases hc:s[k]=61
   ·have e1:((s[k].toNat:Int)==61)=true:=by rw[hc];rfl
    have HR:Hid (n=k):=zA7 (HY.out k (by rw[hl];exact hlt) HA.out (by rw[Oct.TF s k hlt,hc];rfl))
    clear hc htk
    go_wp2
    go_ret
    exact⟨uC (by rw[HR.out]),rfl⟩
   ·have e1:((s[k].toNat:Int)==61)=false:=by
     rw[beq_eq_false_iff_ne]
     intro e
     exact hc (Oct.mB (by show s[k].toNat=61;omega))
    have HR:Hid (∀c∈s.data.toList.take (k+1),Hd.MB c=true):=zA7 (by
     rw[htk]
     intro c hx
     rcases List.mem_append.1 hx with h|h
     ·exact HA.out c h
     ·rw[List.mem_singleton.1 h];exact(Hd.NL _).2 hc)
    clear hc htk
    go_wp2
    go_round
    case rel=>exact⟨k+1,by omega,by go_num,HR.out⟩
    case measure=>simp[intOf];omega
  ·have HR:Hid (n=s.size):=zA7 (by
    have h:=HA.out
    rw[Oct.vD s k (by omega)]at h
    rw[HN.out h,hl])
   go_wp2
   go_ret
   exact⟨uC (by rw[HR.out]),rfl⟩
def UK(l:List UInt8)(w:World)(e:Ending)(w':World):Prop:=e= .returned (.string ⟨l.toArray⟩)/\w=w'
theorem cAe(s:ByteArray)(w:World)(hs:s.size<=1099511627776):
  Calls Tryz.prog 48 #[.string s] w (UK (Hd.ahead s.data.toList) w):=by
 have H1:=zA7 (fun W=>WV s W (by unfold maxLen;omega))
 have hle:=Hd.lZ s.data.toList
 rw[Oct.nA]at hle
 have H2:=zA7 (fun W=>oR (s.extract 0 (Hd.cutAt s.data.toList)) W (by rw[ByteArray.size_extract];unfold maxLen;omega))
 have e:(s.extract 0 (Hd.cutAt s.data.toList)).data.toList=s.data.toList.take (Hd.cutAt s.data.toList):=by rw[EF]
 rw[e,Hd.fA6]at H2
 unfold UK
 generalize Hd.ahead s.data.toList=r at*
 generalize Hd.cutAt s.data.toList=n at*
 have c1:(n:Int)<=(s.size:Int):=by omega
 clear e
 go_enter Tryz.func48,Tryz.ntmps48
 go_wp2_with fail
 refine(H1.out _).mono ?_
 rintro e w1 ⟨rfl,rfl⟩
 go_wp2_with fail
 refine(H2.out _).mono ?_
 rintro e w2 ⟨rfl,rfl⟩
 go_wp2
 go_ret
 exact⟨rfl,rfl⟩
theorem cAd(s:ByteArray)(w:World)(hs:s.size<=1099511627776):
  Calls Tryz.prog 49 #[.string s] w (UK (Hd.behind s.data.toList) w):=by
 have H1:=zA7 (fun W=>WV s W (by unfold maxLen;omega))
 have hle:=Hd.lZ s.data.toList
 have hl:=Oct.nA s
 have HB:=zA7 (@Hd.fAt s.data.toList)
 have H2:=zA7 (fun W=>oR (s.extract (Hd.cutAt s.data.toList+1) s.size) W (by rw[ByteArray.size_extract];unfold maxLen;omega))
 have e:(s.extract (Hd.cutAt s.data.toList+1) s.size).data.toList=s.data.toList.drop (Hd.cutAt s.data.toList+1):=by rw[extract_drop]
 rw[e,Hd.NY]at H2
 unfold UK
 rw[hl]at hle HB
 generalize Hd.behind s.data.toList=r at*
 generalize Hd.cutAt s.data.toList=n at*
 clear e hl
 by_cases hn:n=s.size
 ·have HR:=zA7 (HB.out hn)
  subst hn
  have e1:((s.size:Int)==(s.size:Int))=true:=by simp
  clear hle HB
  go_enter Tryz.func49,Tryz.ntmps49
  go_wp2_with fail
  refine(H1.out _).mono ?_
  rintro e w1 ⟨rfl,rfl⟩
  go_wp2
  go_ret
  exact⟨nB (by rw[HR.out]),rfl⟩
 ·have e1:((n:Int)==(s.size:Int))=false:=by rw[beq_eq_false_iff_ne];omega
  have c1:(n:Int)+1<=(s.size:Int):=by omega
  clear hn HB
  go_enter Tryz.func49,Tryz.ntmps49
  go_wp2_with fail
  refine(H1.out _).mono ?_
  rintro e w1 ⟨rfl,rfl⟩
  go_wp2_with fail
  refine(H2.out _).mono ?_
  rintro e w2 ⟨rfl,rfl⟩
  go_wp2
  go_ret
  exact⟨rfl,rfl⟩
def mN(v:List UInt8)(w:World)(e:Ending)(w':World):Prop:=e= .returned (.tuple #[.int .i64 (((Hd.jD v).getD 0:Nat):Int),.bool (Hd.jD v).isSome])/\w=w'
theorem mAx(s:ByteArray)(w:World)(hs:s.size<=1048576):
  Calls Tryz.prog 53 #[.string s] w (mN s.data.toList w):=by
 have HD:=zA7 (fun W=>mK s W (by unfold maxLen;omega))
 have HP:Hid (∀o:Option Nat,Hd.jD s.data.toList=o->mN s.data.toList w (.returned (.tuple #[.int .i64 ((o.getD 0:Nat):Int),.bool o.isSome])) w):=zA7 (fun o h=>by unfold mN;rw[h];exact⟨rfl,rfl⟩)
 generalize hpost:mN s.data.toList w=post at*
 clear hpost
 by_cases h:s.data.toList.head?=some 45
 ·have HA:=Hd.tY h
  have hs0:0<s.size:=by
   rw[<-Oct.nA]
   cases hh:s.data.toList with
   |nil=>rw[hh]at h;cases h
   |cons a r=>simp
  have h0:=Oct.CE s hs0
  rw[h]at h0
  have e1:((s[0].toNat:Int)==45)=true:=by rw[<-zB2 h0];rfl
  have c0:(0:Int)<(s.size:Int):=by omega
  have c1:(1:Int)<=(s.size:Int):=by omega
  have HE:=zA7 (fun W=>mK (s.extract 1 s.size) W (by rw[ByteArray.size_extract];unfold maxLen;omega))
  have e2:(s.extract 1 s.size).data.toList=s.data.toList.drop 1:=by rw[extract_drop]
  rw[e2]at HE
  have HQ:Hid (post (.returned (.tuple #[.int .i64 0,.bool (Oct.digits (s.data.toList.drop 1))])) w):=zA7 (by
   cases hd:Oct.digits (s.data.toList.drop 1)with
   |true=>rw[hd,if_pos rfl]at HA;exact HP.out _ HA
   |false=>rw[hd,if_neg (by simp)]at HA;exact HP.out _ HA)
  clear HP HA HD e2 h h0
  generalize Oct.digits (s.data.toList.drop 1)=d at*
  go_enter Tryz.func53,Tryz.ntmps53
  go_wp2_with fail
  refine(HE.out _).mono ?_
  rintro e w2 ⟨rfl,rfl⟩
  go_wp2
  first|exact HQ.out|(go_ret2;exact HQ.out)
 ·have HA:=Hd.uY h
  have hor:(¬(0:Int)<(s.size:Int))\/((0:Int)<(s.size:Int)/\ ∃h0:0<s.size,((s[0].toNat:Int)==45)=false):=by
   by_cases h0:0<s.size
   ·refine .inr ⟨by omega,h0,?_⟩
    rw[beq_eq_false_iff_ne]
    intro e
    have hb:=Oct.CE s h0
    have:s[0]=45:=Oct.mB (by show s[0].toNat=45;omega)
    rw[this]at hb
    exact h hb
   ·exact .inl (by omega)
  clear h
  cases hd:Oct.digits s.data.toList with
  |false=>
   rw[hd,if_neg (by simp)]at HA
   have HQ:=zA7 (HP.out _ HA)
   rw[hd]at HD
   clear HA HP hd
   rcases hor with k1|⟨k1,k2,k3⟩
   all_goals
    go_enter Tryz.func53,Tryz.ntmps53
    go_wp2_with fail
    refine(HD.out _).mono ?_
    rintro e w2 ⟨rfl,rfl⟩
    go_wp2
    first|exact HQ.out|(go_ret2;exact HQ.out)
  |true=>
   rw[hd,if_pos rfl]at HA
   have HQ:Hid (post (.returned (.tuple #[.int .i64 ((min (Oct.numOf s.data.toList) 34560000:Nat):Int),.bool true])) w):=zA7 (HP.out _ HA)
   have lS:=zA7 hd
   rw[hd]at HD
   clear HA HP
   have hpos:=Oct.QF hd
   clear hd
   rcases hor with k1|⟨k1,k2,k3⟩
   ·exfalso;omega
   go_enter Tryz.func53,Tryz.ntmps53
   go_wp2_with fail
   refine(HD.out _).mono ?_
   rintro e w2 ⟨rfl,rfl⟩
   go_wp2
   go_loop [4,5] (fun n i=> ∃k:Nat,k<=s.size/\i= .int .i64 k/\n= .int .i64 ((Hd.held s.data.toList k:Nat):Int)) (fun _ i=>s.size- (intOf i).toNat)
   case atStart=>exact⟨0,Nat.zero_le _,rfl,by rw[Hd.Q9];rfl⟩
   case round=>
    obtain⟨k,hk,rfl,rfl⟩:=hrel
    by_cases hlt:k<s.size
    ·have hc:=Oct.tN lS.out k hlt
     have HT:=zA7 (Hd.N9 s k hlt)
     have hb:=Hd.M9 s.data.toList k
     generalize Hd.held s.data.toList k=n at*
     by_cases hbig:(34560000:Int)<(n:Int)*10+(s[k].toNat:Int)-48
     ·go_wp2
      go_round
      case rel=>exact⟨k+1,by omega,by go_num,IA (by have:=HT.out;omega)⟩
      case measure=>simp[intOf];omega
     ·go_wp2
      go_round
      case rel=>exact⟨k+1,by omega,by go_num,IA (by have:=HT.out;omega)⟩
      case measure=>simp[intOf];omega
    ·have e:=Hd.J9 s k (by omega)
     rw[<-e]at HQ
     clear e
     generalize Hd.held s.data.toList k=n at*
     go_wp2
     first|exact HQ.out|(go_ret2;exact HQ.out)
end Go.Proofs.YtabgoobcliijeaaGreatDoor
