/- The walks of partsTokens and of the reference's parts (made by gen_parts.py's like: one case a range of bytes). -/
import Derived.Test.YtabgoobcliijeaaGreatDoorY10
import Derived.Laws.CopyRow
set_option maxHeartbeats 4000000
set_option maxRecDepth 100000
namespace Go.Proofs.YtabgoobcliijeaaGreatDoor
open Go.RowKit
theorem lAS(c:UInt8)(w:World):Calls Tryz.prog 206 #[.int .u8 (c.toNat:Int)] w fun e w'=>e= .returned (.bool (Dt.ZA c))/\w=w':=by
 have hc:=c.toNat_lt
 have HB:Hid (Dt.ZA c=decide (c.toNat=9\/(32<=c.toNat/\c.toNat<=47)\/(59<=c.toNat/\c.toNat<=64)\/(91<=c.toNat/\c.toNat<=96)\/(123<=c.toNat/\c.toNat<=126))):=zA7 rfl
 generalize Dt.ZA c=r at*
 generalize c.toNat=n at*
 have hor:(0<=n/\n<=8)\/(9<=n/\n<=9)\/(10<=n/\n<=31)\/(32<=n/\n<=47)\/(48<=n/\n<=58)\/(59<=n/\n<=64)\/(65<=n/\n<=90)\/(91<=n/\n<=96)\/(97<=n/\n<=122)\/(123<=n/\n<=126)\/(127<=n/\n<=255):=by omega
 rcases hor with⟨h1,h2⟩|⟨h1,h2⟩|⟨h1,h2⟩|⟨h1,h2⟩|⟨h1,h2⟩|⟨h1,h2⟩|⟨h1,h2⟩|⟨h1,h2⟩|⟨h1,h2⟩|⟨h1,h2⟩|⟨h1,h2⟩
 ·have HR:Hid (r=false):=zA7 (by rw[HB.out];exact zA8 (by omega))
  have e9:((n:Int)==9)=false:=by rw[beq_eq_false_iff_ne];omega
  have nD: ¬(32:Int)<=(n:Int):=by omega
  have oD: ¬(59:Int)<=(n:Int):=by omega
  have pD: ¬(91:Int)<=(n:Int):=by omega
  have mD: ¬(123:Int)<=(n:Int):=by omega
  clear h1 h2 hc
  go_enter Tryz.func206,Tryz.ntmps206
  go_wp2
  go_ret
  exact⟨vA (by rw[HR.out]),rfl⟩
 ·have HR:Hid (r=true):=zA7 (by rw[HB.out];exact zA9 (by omega))
  have e9:((n:Int)==9)=true:=by rw[beq_iff_eq];omega
  have nD: ¬(32:Int)<=(n:Int):=by omega
  have oD: ¬(59:Int)<=(n:Int):=by omega
  have pD: ¬(91:Int)<=(n:Int):=by omega
  have mD: ¬(123:Int)<=(n:Int):=by omega
  clear h1 h2 hc
  go_enter Tryz.func206,Tryz.ntmps206
  go_wp2
  go_ret
  exact⟨vA (by rw[HR.out]),rfl⟩
 ·have HR:Hid (r=false):=zA7 (by rw[HB.out];exact zA8 (by omega))
  have e9:((n:Int)==9)=false:=by rw[beq_eq_false_iff_ne];omega
  have nD: ¬(32:Int)<=(n:Int):=by omega
  have oD: ¬(59:Int)<=(n:Int):=by omega
  have pD: ¬(91:Int)<=(n:Int):=by omega
  have mD: ¬(123:Int)<=(n:Int):=by omega
  clear h1 h2 hc
  go_enter Tryz.func206,Tryz.ntmps206
  go_wp2
  go_ret
  exact⟨vA (by rw[HR.out]),rfl⟩
 ·have HR:Hid (r=true):=zA7 (by rw[HB.out];exact zA9 (by omega))
  have e9:((n:Int)==9)=false:=by rw[beq_eq_false_iff_ne];omega
  have nD:(32:Int)<=(n:Int):=by omega
  have cF:(n:Int)<=(47:Int):=by omega
  have oD: ¬(59:Int)<=(n:Int):=by omega
  have pD: ¬(91:Int)<=(n:Int):=by omega
  have mD: ¬(123:Int)<=(n:Int):=by omega
  clear h1 h2 hc
  go_enter Tryz.func206,Tryz.ntmps206
  go_wp2
  go_ret
  exact⟨vA (by rw[HR.out]),rfl⟩
 ·have HR:Hid (r=false):=zA7 (by rw[HB.out];exact zA8 (by omega))
  have e9:((n:Int)==9)=false:=by rw[beq_eq_false_iff_ne];omega
  have nD:(32:Int)<=(n:Int):=by omega
  have cF: ¬(n:Int)<=(47:Int):=by omega
  have oD: ¬(59:Int)<=(n:Int):=by omega
  have pD: ¬(91:Int)<=(n:Int):=by omega
  have mD: ¬(123:Int)<=(n:Int):=by omega
  clear h1 h2 hc
  go_enter Tryz.func206,Tryz.ntmps206
  go_wp2
  go_ret
  exact⟨vA (by rw[HR.out]),rfl⟩
 ·have HR:Hid (r=true):=zA7 (by rw[HB.out];exact zA9 (by omega))
  have e9:((n:Int)==9)=false:=by rw[beq_eq_false_iff_ne];omega
  have nD:(32:Int)<=(n:Int):=by omega
  have cF: ¬(n:Int)<=(47:Int):=by omega
  have oD:(59:Int)<=(n:Int):=by omega
  have IG:(n:Int)<=(64:Int):=by omega
  have pD: ¬(91:Int)<=(n:Int):=by omega
  have mD: ¬(123:Int)<=(n:Int):=by omega
  clear h1 h2 hc
  go_enter Tryz.func206,Tryz.ntmps206
  go_wp2
  go_ret
  exact⟨vA (by rw[HR.out]),rfl⟩
 ·have HR:Hid (r=false):=zA7 (by rw[HB.out];exact zA8 (by omega))
  have e9:((n:Int)==9)=false:=by rw[beq_eq_false_iff_ne];omega
  have nD:(32:Int)<=(n:Int):=by omega
  have cF: ¬(n:Int)<=(47:Int):=by omega
  have oD:(59:Int)<=(n:Int):=by omega
  have IG: ¬(n:Int)<=(64:Int):=by omega
  have pD: ¬(91:Int)<=(n:Int):=by omega
  have mD: ¬(123:Int)<=(n:Int):=by omega
  clear h1 h2 hc
  go_enter Tryz.func206,Tryz.ntmps206
  go_wp2
  go_ret
  exact⟨vA (by rw[HR.out]),rfl⟩
 ·have HR:Hid (r=true):=zA7 (by rw[HB.out];exact zA9 (by omega))
  have e9:((n:Int)==9)=false:=by rw[beq_eq_false_iff_ne];omega
  have nD:(32:Int)<=(n:Int):=by omega
  have cF: ¬(n:Int)<=(47:Int):=by omega
  have oD:(59:Int)<=(n:Int):=by omega
  have IG: ¬(n:Int)<=(64:Int):=by omega
  have pD:(91:Int)<=(n:Int):=by omega
  have eK:(n:Int)<=(96:Int):=by omega
  have mD: ¬(123:Int)<=(n:Int):=by omega
  clear h1 h2 hc
  go_enter Tryz.func206,Tryz.ntmps206
  go_wp2
  go_ret
  exact⟨vA (by rw[HR.out]),rfl⟩
 ·have HR:Hid (r=false):=zA7 (by rw[HB.out];exact zA8 (by omega))
  have e9:((n:Int)==9)=false:=by rw[beq_eq_false_iff_ne];omega
  have nD:(32:Int)<=(n:Int):=by omega
  have cF: ¬(n:Int)<=(47:Int):=by omega
  have oD:(59:Int)<=(n:Int):=by omega
  have IG: ¬(n:Int)<=(64:Int):=by omega
  have pD:(91:Int)<=(n:Int):=by omega
  have eK: ¬(n:Int)<=(96:Int):=by omega
  have mD: ¬(123:Int)<=(n:Int):=by omega
  clear h1 h2 hc
  go_enter Tryz.func206,Tryz.ntmps206
  go_wp2
  go_ret
  exact⟨vA (by rw[HR.out]),rfl⟩
 ·have HR:Hid (r=true):=zA7 (by rw[HB.out];exact zA9 (by omega))
  have e9:((n:Int)==9)=false:=by rw[beq_eq_false_iff_ne];omega
  have nD:(32:Int)<=(n:Int):=by omega
  have cF: ¬(n:Int)<=(47:Int):=by omega
  have oD:(59:Int)<=(n:Int):=by omega
  have IG: ¬(n:Int)<=(64:Int):=by omega
  have pD:(91:Int)<=(n:Int):=by omega
  have eK: ¬(n:Int)<=(96:Int):=by omega
  have mD:(123:Int)<=(n:Int):=by omega
  have WU:(n:Int)<=(126:Int):=by omega
  clear h1 h2 hc
  go_enter Tryz.func206,Tryz.ntmps206
  go_wp2
  go_ret
  exact⟨vA (by rw[HR.out]),rfl⟩
 ·have HR:Hid (r=false):=zA7 (by rw[HB.out];exact zA8 (by omega))
  have e9:((n:Int)==9)=false:=by rw[beq_eq_false_iff_ne];omega
  have nD:(32:Int)<=(n:Int):=by omega
  have cF: ¬(n:Int)<=(47:Int):=by omega
  have oD:(59:Int)<=(n:Int):=by omega
  have IG: ¬(n:Int)<=(64:Int):=by omega
  have pD:(91:Int)<=(n:Int):=by omega
  have eK: ¬(n:Int)<=(96:Int):=by omega
  have mD:(123:Int)<=(n:Int):=by omega
  have WU: ¬(n:Int)<=(126:Int):=by omega
  clear h1 h2 hc
  go_enter Tryz.func206,Tryz.ntmps206
  go_wp2
  go_ret
  exact⟨vA (by rw[HR.out]),rfl⟩
theorem mAQ(c:UInt8)(w:World):Calls Tryz.prog 79 #[.int .u8 (c.toNat:Int)] w fun e w'=>e= .returned (.bool (Dt.ZA c))/\w=w':=by
 have hc:=c.toNat_lt
 have HB:Hid (Dt.ZA c=decide (c.toNat=9\/(32<=c.toNat/\c.toNat<=47)\/(59<=c.toNat/\c.toNat<=64)\/(91<=c.toNat/\c.toNat<=96)\/(123<=c.toNat/\c.toNat<=126))):=zA7 rfl
 generalize Dt.ZA c=r at*
 generalize c.toNat=n at*
 have hor:(0<=n/\n<=8)\/(9<=n/\n<=9)\/(10<=n/\n<=31)\/(32<=n/\n<=47)\/(48<=n/\n<=58)\/(59<=n/\n<=64)\/(65<=n/\n<=90)\/(91<=n/\n<=96)\/(97<=n/\n<=122)\/(123<=n/\n<=126)\/(127<=n/\n<=255):=by omega
 rcases hor with⟨h1,h2⟩|⟨h1,h2⟩|⟨h1,h2⟩|⟨h1,h2⟩|⟨h1,h2⟩|⟨h1,h2⟩|⟨h1,h2⟩|⟨h1,h2⟩|⟨h1,h2⟩|⟨h1,h2⟩|⟨h1,h2⟩
 ·have HR:Hid (r=false):=zA7 (by rw[HB.out];exact zA8 (by omega))
  have e9:((n:Int)==9)=false:=by rw[beq_eq_false_iff_ne];omega
  have nD: ¬(32:Int)<=(n:Int):=by omega
  have oD: ¬(59:Int)<=(n:Int):=by omega
  have pD: ¬(91:Int)<=(n:Int):=by omega
  have mD: ¬(123:Int)<=(n:Int):=by omega
  clear h1 h2 hc
  go_enter Tryz.func79,Tryz.ntmps79
  go_wp2
  go_ret
  exact⟨vA (by rw[HR.out]),rfl⟩
 ·have HR:Hid (r=true):=zA7 (by rw[HB.out];exact zA9 (by omega))
  have e9:((n:Int)==9)=true:=by rw[beq_iff_eq];omega
  have nD: ¬(32:Int)<=(n:Int):=by omega
  have oD: ¬(59:Int)<=(n:Int):=by omega
  have pD: ¬(91:Int)<=(n:Int):=by omega
  have mD: ¬(123:Int)<=(n:Int):=by omega
  clear h1 h2 hc
  go_enter Tryz.func79,Tryz.ntmps79
  go_wp2
  go_ret
  exact⟨vA (by rw[HR.out]),rfl⟩
 ·have HR:Hid (r=false):=zA7 (by rw[HB.out];exact zA8 (by omega))
  have e9:((n:Int)==9)=false:=by rw[beq_eq_false_iff_ne];omega
  have nD: ¬(32:Int)<=(n:Int):=by omega
  have oD: ¬(59:Int)<=(n:Int):=by omega
  have pD: ¬(91:Int)<=(n:Int):=by omega
  have mD: ¬(123:Int)<=(n:Int):=by omega
  clear h1 h2 hc
  go_enter Tryz.func79,Tryz.ntmps79
  go_wp2
  go_ret
  exact⟨vA (by rw[HR.out]),rfl⟩
 ·have HR:Hid (r=true):=zA7 (by rw[HB.out];exact zA9 (by omega))
  have e9:((n:Int)==9)=false:=by rw[beq_eq_false_iff_ne];omega
  have nD:(32:Int)<=(n:Int):=by omega
  have cF:(n:Int)<=(47:Int):=by omega
  have oD: ¬(59:Int)<=(n:Int):=by omega
  have pD: ¬(91:Int)<=(n:Int):=by omega
  have mD: ¬(123:Int)<=(n:Int):=by omega
  clear h1 h2 hc
  go_enter Tryz.func79,Tryz.ntmps79
  go_wp2
  go_ret
  exact⟨vA (by rw[HR.out]),rfl⟩
 ·have HR:Hid (r=false):=zA7 (by rw[HB.out];exact zA8 (by omega))
  have e9:((n:Int)==9)=false:=by rw[beq_eq_false_iff_ne];omega
  have nD:(32:Int)<=(n:Int):=by omega
  have cF: ¬(n:Int)<=(47:Int):=by omega
  have oD: ¬(59:Int)<=(n:Int):=by omega
  have pD: ¬(91:Int)<=(n:Int):=by omega
  have mD: ¬(123:Int)<=(n:Int):=by omega
  clear h1 h2 hc
  go_enter Tryz.func79,Tryz.ntmps79
  go_wp2
  go_ret
  exact⟨vA (by rw[HR.out]),rfl⟩
 ·have HR:Hid (r=true):=zA7 (by rw[HB.out];exact zA9 (by omega))
  have e9:((n:Int)==9)=false:=by rw[beq_eq_false_iff_ne];omega
  have nD:(32:Int)<=(n:Int):=by omega
  have cF: ¬(n:Int)<=(47:Int):=by omega
  have oD:(59:Int)<=(n:Int):=by omega
  have IG:(n:Int)<=(64:Int):=by omega
  have pD: ¬(91:Int)<=(n:Int):=by omega
  have mD: ¬(123:Int)<=(n:Int):=by omega
  clear h1 h2 hc
  go_enter Tryz.func79,Tryz.ntmps79
  go_wp2
  go_ret
  exact⟨vA (by rw[HR.out]),rfl⟩
 ·have HR:Hid (r=false):=zA7 (by rw[HB.out];exact zA8 (by omega))
  have e9:((n:Int)==9)=false:=by rw[beq_eq_false_iff_ne];omega
  have nD:(32:Int)<=(n:Int):=by omega
  have cF: ¬(n:Int)<=(47:Int):=by omega
  have oD:(59:Int)<=(n:Int):=by omega
  have IG: ¬(n:Int)<=(64:Int):=by omega
  have pD: ¬(91:Int)<=(n:Int):=by omega
  have mD: ¬(123:Int)<=(n:Int):=by omega
  clear h1 h2 hc
  go_enter Tryz.func79,Tryz.ntmps79
  go_wp2
  go_ret
  exact⟨vA (by rw[HR.out]),rfl⟩
 ·have HR:Hid (r=true):=zA7 (by rw[HB.out];exact zA9 (by omega))
  have e9:((n:Int)==9)=false:=by rw[beq_eq_false_iff_ne];omega
  have nD:(32:Int)<=(n:Int):=by omega
  have cF: ¬(n:Int)<=(47:Int):=by omega
  have oD:(59:Int)<=(n:Int):=by omega
  have IG: ¬(n:Int)<=(64:Int):=by omega
  have pD:(91:Int)<=(n:Int):=by omega
  have eK:(n:Int)<=(96:Int):=by omega
  have mD: ¬(123:Int)<=(n:Int):=by omega
  clear h1 h2 hc
  go_enter Tryz.func79,Tryz.ntmps79
  go_wp2
  go_ret
  exact⟨vA (by rw[HR.out]),rfl⟩
 ·have HR:Hid (r=false):=zA7 (by rw[HB.out];exact zA8 (by omega))
  have e9:((n:Int)==9)=false:=by rw[beq_eq_false_iff_ne];omega
  have nD:(32:Int)<=(n:Int):=by omega
  have cF: ¬(n:Int)<=(47:Int):=by omega
  have oD:(59:Int)<=(n:Int):=by omega
  have IG: ¬(n:Int)<=(64:Int):=by omega
  have pD:(91:Int)<=(n:Int):=by omega
  have eK: ¬(n:Int)<=(96:Int):=by omega
  have mD: ¬(123:Int)<=(n:Int):=by omega
  clear h1 h2 hc
  go_enter Tryz.func79,Tryz.ntmps79
  go_wp2
  go_ret
  exact⟨vA (by rw[HR.out]),rfl⟩
 ·have HR:Hid (r=true):=zA7 (by rw[HB.out];exact zA9 (by omega))
  have e9:((n:Int)==9)=false:=by rw[beq_eq_false_iff_ne];omega
  have nD:(32:Int)<=(n:Int):=by omega
  have cF: ¬(n:Int)<=(47:Int):=by omega
  have oD:(59:Int)<=(n:Int):=by omega
  have IG: ¬(n:Int)<=(64:Int):=by omega
  have pD:(91:Int)<=(n:Int):=by omega
  have eK: ¬(n:Int)<=(96:Int):=by omega
  have mD:(123:Int)<=(n:Int):=by omega
  have WU:(n:Int)<=(126:Int):=by omega
  clear h1 h2 hc
  go_enter Tryz.func79,Tryz.ntmps79
  go_wp2
  go_ret
  exact⟨vA (by rw[HR.out]),rfl⟩
 ·have HR:Hid (r=false):=zA7 (by rw[HB.out];exact zA8 (by omega))
  have e9:((n:Int)==9)=false:=by rw[beq_eq_false_iff_ne];omega
  have nD:(32:Int)<=(n:Int):=by omega
  have cF: ¬(n:Int)<=(47:Int):=by omega
  have oD:(59:Int)<=(n:Int):=by omega
  have IG: ¬(n:Int)<=(64:Int):=by omega
  have pD:(91:Int)<=(n:Int):=by omega
  have eK: ¬(n:Int)<=(96:Int):=by omega
  have mD:(123:Int)<=(n:Int):=by omega
  have WU: ¬(n:Int)<=(126:Int):=by omega
  clear h1 h2 hc
  go_enter Tryz.func79,Tryz.ntmps79
  go_wp2
  go_ret
  exact⟨vA (by rw[HR.out]),rfl⟩
end Go.Proofs.YtabgoobcliijeaaGreatDoor
namespace Go.Proofs.YtabgoobcliijeaaGreatDoor
open Go.RowKit
namespace Dt
theorem gAp {s:ByteArray}{k:Nat}(h: ∀x∈s.data.toList.take k,ZA x=false)(hk:k<s.size)(hc:ZA s[k]=true):IB s.data.toList=(s.data.toList.take k,s.data.toList.drop (k+1)):=
 gAo h (by rw[List.getElem?_eq_getElem (by rw[Oct.nA];exact hk)];rfl) hc
theorem lAc {s:ByteArray}{k:Nat}(h: ∀x∈s.data.toList.take k,ZA x=false)(hk:k<s.size)(hc:ZA s[k]=false): ∀x∈s.data.toList.take (k+1),ZA x=false:=by
 rw[Oct.fG s k hk]
 intro x hx
 rcases List.mem_append.1 hx with hx|hx
 ·exact h x hx
 ·rw[List.mem_singleton.1 hx];exact hc
theorem gAq {s:ByteArray}{k:Nat}(h: ∀x∈s.data.toList.take k,ZA x=false)(hk:s.size<=k):IB s.data.toList=(s.data.toList,[]):=
 tZ (by rw[Oct.vD s k hk]at h;exact h)
end Dt
def wP(a b:List UInt8)(w:World)(e:Ending)(w':World):Prop:=e= .returned (.tuple #[.string ⟨a.toArray⟩,.string ⟨b.toArray⟩])/\Below w.heap.size w w'
theorem gAs(s:ByteArray)(w:World)(hs:s.size<=maxLen):
  Calls Tryz.prog 183 #[.string s] w (wP (Dt.IB s.data.toList).1 (Dt.IB s.data.toList).2 w):=by
 unfold maxLen at hs
 have HP:Hid (∀a b w',Dt.IB s.data.toList=(a,b)->Below w.heap.size w w'->wP (Dt.IB s.data.toList).1 (Dt.IB s.data.toList).2 w (.returned (.tuple #[.string ⟨a.toArray⟩,.string ⟨b.toArray⟩])) w'):=zA7 (fun a b w' h hb=>by rw[h];exact⟨rfl,hb⟩)
 generalize wP (Dt.IB s.data.toList).1 (Dt.IB s.data.toList).2 w=post at*
 go_enter Tryz.func183,Tryz.ntmps183
 go_wp2
 go_loop [7] (fun i=> ∃k:Nat,k<=s.size/\i= .int .i64 k/\ ∀x∈s.data.toList.take k,Dt.ZA x=false) (fun i=>s.size- (intOf i).toNat)
 case atStart=>exact⟨0,Nat.zero_le _,rfl,by simp⟩
 case round=>
  obtain⟨k,hk,rfl,hall⟩:=hrel
  have HA:=zA7 hall
  clear hall
  by_cases hlt:k<s.size
  ·have HC:=zA7 (fun W=>lAS s[k] W)
   cases hb:Dt.ZA s[k]with
   |true=>
    rw[hb]at HC
    have HR:=zA7 (fun W hW=>HP.out _ _ W (Dt.gAp HA.out hlt hb) hW)
    have e1:(⟨(s.data.toList.take k).toArray⟩:ByteArray)=s.extract 0 k:=by rw[Lib.extract_eq,List.drop_zero,Nat.sub_zero]
    have e2:(⟨(s.data.toList.drop (k+1)).toArray⟩:ByteArray)=s.extract (k+1) s.size:=by rw[Lib.extract_eq,List.take_of_length_le (by rw[List.length_drop,Oct.nA];exact zB3 _)]
    have HR:=zA7 (show∀W,Below w.heap.size w W->post (.returned (.tuple #[.string (s.extract 0 k),.string (s.extract (k+1) s.size)])) W from fun W hW=>by have h:=HR.out W hW;rw[e1,e2]at h;exact h)
    clear e1 e2
    clear hb
    go_wp2_with (go_at_call 206;refine(HC.out _).mono ?_;rintro e w' ⟨rfl,rfl⟩)
    go_quiet (fail)
    go_wp2
    exact HR.out _ (MI _ _ _)
   |false=>
    rw[hb]at HC
    have HM:=zA7 (Dt.lAc HA.out hlt hb)
    clear hb
    go_wp2_with (go_at_call 206;refine(HC.out _).mono ?_;rintro e w' ⟨rfl,rfl⟩)
    go_round
    case rel=>exact⟨k+1,by omega,by go_num,HM.out⟩
    case measure=>simp[intOf];omega
  ·have HR:=zA7 (HP.out _ _ w (Dt.gAq HA.out (by omega)) (Below.refl _ _))
   have e1:(⟨s.data.toList.toArray⟩:ByteArray)=s:=Lib.mk_data s
   have h2:=HR.out
   rw[e1]at h2
   have HR:=zA7 h2
   clear h2 e1
   go_wp2
   exact HR.out
namespace Dt
theorem aV {s:ByteArray}{k:Nat}(h:k<lead s.data.toList): ∃hk:k<s.size,48<=s[k].toNat/\s[k].toNat<=57:=by
 have hl:=WI s.data.toList
 rw[Oct.nA]at hl
 have hk:k<s.size:=by omega
 obtain⟨c,hc,hd⟩:=bV h
 rw[List.getElem?_eq_getElem (by rw[Oct.nA];exact hk)]at hc
 have e:s[k]=c:=zB2 hc
 refine⟨hk,?_⟩
 rw[e]
 simpa[Oct.cB]using hd
theorem lAj {s:List UInt8}{k:Nat}(h:k<=lead s)(h4:k<=4):Oct.numOf (s.take k)<10000:=by
 have h1:=bAy h
 have h2:10^k<=10^4:=Nat.pow_le_pow_right (by omega) h4
 omega
end Dt
def gN(o:Option (Nat×List UInt8))(w:World)(e:Ending)(w':World):Prop:=
 e= .returned (.tuple #[.int .i64 (((o.map (·.1)).getD 0:Nat):Int),.string ⟨((o.map (·.2)).getD []).toArray⟩,.bool o.isSome])/\Below w.heap.size w w'
theorem lAi {o:Option (Nat×List UInt8)}(h:o=none){w w':World}(hb:Below w.heap.size w w'):gN o w (.returned (.tuple #[.int .i64 0,.string ⟨#[]⟩,.bool false])) w':=by subst h;exact⟨rfl,hb⟩
theorem lAk {o:Option (Nat×List UInt8)}{n:Nat}{r:List UInt8}(h:o=some (n,r)){w w':World}(hb:Below w.heap.size w w'):gN o w (.returned (.tuple #[.int .i64 (n:Int),.string ⟨r.toArray⟩,.bool true])) w':=by subst h;exact⟨rfl,hb⟩
theorem BT(s:ByteArray)(a b:Nat)(w:World)(hs:s.size<=maxLen)(ha:a<=4)(hb:b<=4):
  Calls Tryz.prog 208 #[.string s,.int .i64 (a:Int),.int .i64 (b:Int)] w (gN (Dt.bC s.data.toList a b) w):=by
 unfold maxLen at hs
 have HT:=zA7 (fun W=>pAs s W)
 have hl:=Dt.WI s.data.toList
 rw[Oct.nA]at hl
 obtain⟨B,hB⟩: ∃B:ByteArray,B=⟨(s.data.toList.drop (Dt.lead s.data.toList)).toArray⟩:=⟨_,rfl⟩
 rw[<-hB]at HT
 have hBs:B.size=s.size-Dt.lead s.data.toList:=by rw[hB];show(List.toArray _).size=_;rw[List.size_toArray,List.length_drop,Oct.nA]
 have HN:=zA7 (fun(h: ¬(a<=Dt.lead s.data.toList/\Dt.lead s.data.toList<=b)) w' (hb:Below w.heap.size w w')=>lAi (o:=Dt.bC s.data.toList a b) (if_neg h) hb)
 have HY:=zA7 (fun(h:a<=Dt.lead s.data.toList/\Dt.lead s.data.toList<=b) w' (hb:Below w.heap.size w w')=>lAk (o:=Dt.bC s.data.toList a b) (if_pos h) hb)
 rw[<-hB]at HY
 have HL:=zA7 (fun(k:Nat)(h:k<Dt.lead s.data.toList)=>Dt.aV h)
 have KS:=zA7 (fun(k:Nat)(h:k<=Dt.lead s.data.toList)(h4:k<=4)=>Dt.lAj h h4)
 generalize gN (Dt.bC s.data.toList a b) w=post at*
 generalize Dt.lead s.data.toList=L at*
 have e1:(s.size:Int)- (B.size:Int)=(L:Int):=by omega
 clear hB hBs
 by_cases h1:a<=L
 ·by_cases h2:L<=b
  ·have cH:=zA7 (HY.out ⟨h1,h2⟩)
   go_enter Tryz.func208,Tryz.ntmps208
   go_wp2_with (go_at_call 163;refine(HT.out _).mono ?_;rintro e w1 ⟨rfl,b1⟩)
   go_loop [11,29] (fun n i=> ∃k:Nat,k<=L/\i= .int .i64 k/\n= .int .i64 ((Oct.numOf (s.data.toList.take k):Nat):Int)) (fun _ i=>L- (intOf i).toNat)
   case atStart=>exact⟨0,Nat.zero_le _,rfl,by simp[Oct.numOf]⟩
   case round=>
    obtain⟨k,hk,rfl,rfl⟩:=hrel
    have hsm:=KS.out k hk (by omega)
    by_cases hlt:k<L
    ·obtain⟨hks,c1,c2⟩:=HL.out k hlt
     have MS:=zA7 (Oct.LL s k hks)
     generalize Oct.numOf (s.data.toList.take k)=n at*
     go_wp2
     go_round
     case rel=>exact⟨k+1,by omega,by go_num,IA (by rw[MS.out];omega)⟩
     case measure=>simp[intOf];omega
    ·have LN:k=L:=by omega
     subst LN
     have HR:=zA7 (cH.out w1 b1)
     generalize Oct.numOf (s.data.toList.take k)=n at*
     go_wp2
     go_ret3
     exact HR.out
  ·have HR:=zA7 (HN.out (fun h=>h2 h.2))
   have k1: ¬(L:Int)<(a:Int):=by omega
   have k2:(b:Int)<(L:Int):=by omega
   clear h1 h2
   go_enter Tryz.func208,Tryz.ntmps208
   go_wp2_with (go_at_call 163;refine(HT.out _).mono ?_;rintro e w1 ⟨rfl,b1⟩)
   go_ret3
   exact HR.out _ b1
 ·have HR:=zA7 (HN.out (fun h=>h1 h.1))
  have k1:(L:Int)<(a:Int):=by omega
  clear h1
  go_enter Tryz.func208,Tryz.ntmps208
  go_wp2_with (go_at_call 163;refine(HT.out _).mono ?_;rintro e w1 ⟨rfl,b1⟩)
  go_ret3
  exact HR.out _ b1
theorem cAi(s:ByteArray)(w:World)(hs:s.size<=maxLen):
  Calls Tryz.prog 80 #[.string s] w fun e w'=>e= .returned (.int .i64 (Dt.lead s.data.toList:Nat))/\w=w':=by
 unfold maxLen at hs
 have hl:=Dt.WI s.data.toList
 rw[Oct.nA]at hl
 have HL:=zA7 (fun(k:Nat)(h:k<Dt.lead s.data.toList)=>Dt.aV h)
 have HS:Hid (∀h:Dt.lead s.data.toList<s.size,Oct.cB (s[Dt.lead s.data.toList]'h)=false):=zA7 (fun h=>Dt.dV (by rw[List.getElem?_eq_getElem (by rw[Oct.nA];exact h)];rfl))
 generalize Dt.lead s.data.toList=L at*
 go_enter Tryz.func80,Tryz.ntmps80
 go_wp2
 go_loop [3] (fun i=> ∃k:Nat,k<=L/\i= .int .i64 k) (fun i=>L- (intOf i).toNat)
 case atStart=>exact⟨0,Nat.zero_le _,rfl⟩
 case round=>
  obtain⟨k,hk,rfl⟩:=hrel
  by_cases hlt:k<L
  ·obtain⟨hks,c1,c2⟩:=HL.out k hlt
   have c3:(48:Int)<=(s[k].toNat:Int):=by omega
   have c4:(s[k].toNat:Int)<=(57:Int):=by omega
   go_wp2
   go_round
   case rel=>exact⟨k+1,by omega,by go_num⟩
   case measure=>simp[intOf];omega
  ·have LN:k=L:=by omega
   subst LN
   by_cases hks:k<s.size
   ·have hd:=HS.out hks
    have hor: ¬(48:Int)<=(s[k].toNat:Int)\/((48:Int)<=(s[k].toNat:Int)/\ ¬(s[k].toNat:Int)<=(57:Int)):=by
     have:=of_decide_eq_false hd
     omega
    clear hd
    rcases hor with h|⟨h,h'⟩
    all_goals
     go_wp2
     go_ret
     exact⟨rfl,rfl⟩
   ·go_wp2
    go_ret
    exact⟨rfl,rfl⟩
theorem nA7(s:ByteArray)(w:World)(hd: ∀k (h:k<s.size),48<=s[k].toNat/\s[k].toNat<=57)(hs:s.size<=4):
  Calls Tryz.prog 82 #[.string s] w fun e w'=>e= .returned (.int .i64 (Oct.numOf s.data.toList:Nat))/\w=w':=by
 have HD:=zA7 hd
 have KS:Hid (∀k:Nat,k<=s.size->Oct.numOf (s.data.toList.take k)<10000):=zA7 (fun k hk=>by
  have h1:=Dt.bAu (l:=s.data.toList.take k) (fun c hc=>by
   obtain⟨j,hj,e⟩:=List.mem_take_iff_getElem.1 hc
   have:=hd j (by rw[Oct.nA]at hj;omega)
   rw[<-e]
   exact zA9 this)
  rw[List.length_take,Oct.nA,Nat.min_eq_left hk]at h1
  have h2:10^k<=10^4:=Nat.pow_le_pow_right (by omega) (by omega)
  omega)
 have HE:Hid (s.data.toList.take s.size=s.data.toList):=zA7 (Oct.vD s s.size (zB3 _))
 clear hd
 go_enter Tryz.func82,Tryz.ntmps82
 go_wp2
 go_loop [3,4] (fun n i=> ∃k:Nat,k<=s.size/\i= .int .i64 k/\n= .int .i64 ((Oct.numOf (s.data.toList.take k):Nat):Int)) (fun _ i=>s.size- (intOf i).toNat)
 case atStart=>exact⟨0,Nat.zero_le _,rfl,by simp[Oct.numOf]⟩
 case round=>
  obtain⟨k,hk,rfl,rfl⟩:=hrel
  have hsm:=KS.out k hk
  by_cases hlt:k<s.size
  ·obtain⟨c1,c2⟩:=HD.out k hlt
   have MS:=zA7 (Oct.LL s k hlt)
   generalize Oct.numOf (s.data.toList.take k)=n at*
   go_wp2
   go_round
   case rel=>exact⟨k+1,by omega,by go_num,IA (by rw[MS.out];omega)⟩
   case measure=>simp[intOf];omega
  ·have LN:k=s.size:=by omega
   subst LN
   rw[HE.out]at hsm
   rw[HE.out]
   go_wp2
   go_ret
   exact⟨rfl,rfl⟩
end Go.Proofs.YtabgoobcliijeaaGreatDoor
namespace Go.Proofs.YtabgoobcliijeaaGreatDoor
open Go.RowKit
def JB(ns:List Nat):Array Value:= #[.int .i64 ((ns.getD 0 0:Nat):Int),.int .i64 ((ns.getD 1 0:Nat):Int),.int .i64 ((ns.getD 2 0:Nat):Int)]
theorem aAv: #[Value.int .i64 0,.int .i64 0,.int .i64 0]=JB []:=by rfl
theorem jAS(ns:List Nat):(JB ns).size=3:=rfl
theorem GQ(ns:List Nat):(JB ns).all (·.oneCell')=true:=by simp[JB,Value.oneCell']
theorem jAR {ns:List Nat}{k:Nat}(h:ns.length=k)(hk:k<3)(n:Nat):(JB ns).setIfInBounds k (.int .i64 (n:Int))=JB (ns++ [n]):=by
 match k,ns,h,hk with
 |0,[],_,_=>rfl
 |1,[a],_,_=>rfl
 |2,[a,b],_,_=>rfl
def cE(o:Option (Nat×Nat×Nat)):List Nat:=match o with|some t=> [t.1,t.2.1,t.2.2]|none=> []
theorem UI:(Tryz.prog.info? 193).map (·.size)=some 3:=by kernel_rfl
def pM(o:Option (Nat×Nat×Nat))(w:World)(e:Ending)(w':World):Prop:=e= .returned (.tuple #[.agg (JB (cE o)),.bool o.isSome])/\Below w.heap.size w w'
theorem gA3 {o:Option (Nat×Nat×Nat)}(h:o=none){w w':World}(hb:Below w.heap.size w w'):pM o w (.returned (.tuple #[.agg (JB []),.bool false])) w':=by subst h;exact⟨rfl,hb⟩
theorem gA5 {o:Option (Nat×Nat×Nat)}{a b c:Nat}(h:o=some (a,b,c)){w w':World}(hb:Below w.heap.size w w'):pM o w (.returned (.tuple #[.agg (JB [a,b,c]),.bool true])) w':=by subst h;exact⟨rfl,hb⟩
theorem mAw(s:ByteArray)(w:World)(hs:s.size<=maxLen):
  Calls Tryz.prog 207 #[.string s] w (pM (Dt.gB s.data.toList) w):=by
 have fD:=zA7 (fun(h:Dt.gB s.data.toList=none) w' (hb:Below w.heap.size w w')=>gA3 h hb)
 have xC:=zA7 (fun a b c (h:Dt.gB s.data.toList=some (a,b,c)) w' (hb:Below w.heap.size w w')=>gA5 h hb)
 generalize hpost:pM (Dt.gB s.data.toList) w=post at*
 clear hpost
 have LS:=zA7 (Dt.Clock.start s.data.toList)
 have hsl:=Oct.nA s
 have z3:=aAv
 have HS:=zA7 hs
 clear hs
 go_enter Tryz.func207,Tryz.ntmps207
 go_wp2_with fail
 have R0:=(Row.new w 193 (JB [])).alloc (.cells (JB []) 193)
 have hN:(w.alloc (.cells (JB []) 193)).heap.size=w.heap.size+1:=by simp
 have F0:=Row.new (w.alloc (.cells (JB []) 193)) 193 (JB [])
 have B0:=((Below.refl w.heap.size w).alloc (zB3 _) (.cells (JB []) 193)).alloc (by simp) (.cells (JB []) 193)
 rw[hN]at F0
 clear hN
 generalize(w.alloc (.cells (JB []) 193)).alloc (.cells (JB []) 193)=w0 at*
 go_loopw [5,11] (fun v i wr=> ∃(k:Nat)(ns:List Nat)(r:ByteArray),k<=3/\v= .string r/\i= .int .i64 k/\Dt.Clock s.data.toList k ns r.data.toList/\Row wr w.heap.size 193 (JB [])/\Row wr (w.heap.size+1) 193 (JB ns)/\Below w.heap.size w wr) (fun _ i _=>3- (intOf i).toNat)
 case atStart=>exact⟨0,[],s,Nat.zero_le _,rfl,rfl,LS.out,R0,F0,B0⟩
 case round=>
  clear R0 F0 B0
  obtain⟨k,ns,r,hk,rfl,rfl,hcl,R,F,hb⟩:=hrel
  have hrl:=hcl.shorter
  have UF:=hcl.few
  rw[Oct.nA,hsl]at hrl
  have KE:=zA7 hcl
  clear hcl
  by_cases hlt:k<3
  ·have hrm:r.size<=maxLen:=Nat.le_trans hrl HS.out
   have EK:=zA7 (fun W=>BT r 1 2 W hrm (by omega) (by omega))
   clear hrm
   cases hn:Dt.wC r.data.toList with
   |none=>
    have wS:=zA7 (fD.out (KE.out.no hlt hn))
    have HC:Hid (∀W,Calls Tryz.prog 208 #[.string r,.int .i64 1,.int .i64 2] W fun e w'=>e= .returned (.tuple #[.int .i64 0,.string ⟨#[]⟩,.bool false])/\Below W.heap.size W w'):=zA7 (fun W=>by have:=EK.out W;rw[Dt.rZ,hn]at this;exact this)
    clear EK hn
    go_wp2_with fail
    refine(HC.out _).mono ?_
    rintro e w2 ⟨rfl,b2⟩
    have R2:=R.stays b2
    have B2:=hb.trans (b2.mono hb.size)
    go_wp2_with (first
     |(refine iA 22 rfl ?_;refine wpList_build rfl 193 #[] rfl ?_ ?_; (·rfl); (·rfl))
     |(refine wpList_store_row rfl 193 _ _ rfl w.heap.size (JB []) rfl rfl 193 _ R2 UI rfl (GQ _) ?_))
    exact bodyPost_ret (v:= .tuple #[.agg (JB []),.bool false]) (DA rfl _ _ w.heap.size _ _ _ rfl _ rfl (R2.whole _) Tryz.underlying193 rfl UI) rfl (wS.out _ (below_setRow B2 (zB3 _) _))
   |some t=>
    obtain⟨n,q⟩:=t
    have HC:Hid (∀W,Calls Tryz.prog 208 #[.string r,.int .i64 1,.int .i64 2] W fun e w'=>e= .returned (.tuple #[.int .i64 (n:Int),.string ⟨q.toArray⟩,.bool true])/\Below W.heap.size W w'):=zA7 (fun W=>by have:=EK.out W;rw[Dt.rZ,hn]at this;exact this)
    have HSk:Hid (∀W,Calls Tryz.prog 151 #[.string ⟨q.toArray⟩,.string ⟨#[58]⟩] W fun e w'=>e= .returned (.string ⟨(Dt.skip q).toArray⟩)/\W=w'):=zA7 (fun W=>oA7 ⟨q.toArray⟩ W)
    have sJ:=zA7 (KE.out.more hlt hn)
    have HF:=zA7 (jAR UF hlt n)
    clear EK hn
    generalize(⟨q.toArray⟩:ByteArray)=Q at*
    go_wp2_with fail
    refine(HC.out _).mono ?_
    rintro e w2 ⟨rfl,b2⟩
    have R2:=R.stays b2
    have B2:=hb.trans (b2.mono hb.size)
    have F2:=F.stays b2
    clear R F hb b2
    obtain⟨u1,c1⟩: ∃u,w2.cell? ⟨w.heap.size+1,k,none⟩=some u:=⟨_,by rw[F2.cell];exact Array.getElem?_eq_getElem (by rw[jAS];exact hlt)⟩
    have f1:=F2.free k
    have F3:=F2.set k (.int .i64 (n:Int))
    rw[HF.out]at F3
    have B3:=B2.setCell (p:=⟨w.heap.size+1,k,none⟩) (Nat.le_succ _) (.int .i64 (n:Int))
    have R3:=R2.other (p:=⟨w.heap.size+1,k,none⟩) (by simp) (.int .i64 (n:Int))
    have hk3:(k:Int)<3:=by omega
    clear F2 R2 B2
    go_wp2_with (go_at_call 151;refine(HSk.out _).mono ?_;rintro e w' ⟨rfl,rfl⟩)
    go_roundw
    case rel=>exact⟨k+1,ns++ [n],⟨(Dt.skip q).toArray⟩,by omega,rfl,by go_num,sJ.out,R3,F3,B3⟩
    case measure=>simp[intOf];omega
  ·have hk3:k=3:=by omega
   subst hk3
   obtain⟨a,b,c,rfl,ht,_,_,_⟩:=KE.out.done
   have HY:=zA7 (xC.out a b c ht)
   clear ht KE
   go_wp2_with (first
    |(refine iA 29 rfl ?_;refine qA rfl 193 _ rfl (w.heap.size+1) rfl F Tryz.underlying193 rfl UI ?_)
    |(refine wpList_store_row rfl 193 _ _ rfl w.heap.size (JB [a,b,c]) rfl rfl 193 _ R UI rfl (GQ _) ?_))
   exact bodyPost_ret (v:= .tuple #[.agg (JB [a,b,c]),.bool true]) (DA rfl _ _ w.heap.size _ _ _ rfl _ rfl (R.whole _) Tryz.underlying193 rfl UI) rfl (HY.out _ (below_setRow hb (zB3 _) _))
end Go.Proofs.YtabgoobcliijeaaGreatDoor
namespace Go.Proofs.YtabgoobcliijeaaGreatDoor
open Go.RowKit
namespace Dt
def KG(x:List UInt8)(k:Nat):Option Nat:=((names.drop k).idxOf? x).map (·+k)
theorem bA5(x:List UInt8):names.idxOf? x=KG x 0:=by
 unfold KG
 rw[List.drop_zero]
 cases names.idxOf? x<;>rfl
theorem bA6 {x n:List UInt8}{k:Nat}(hk:names[k]? =some n)(h:n=x):KG x k=some k:=by
 subst h
 obtain⟨hl,e⟩:=List.getElem?_eq_some_iff.1 hk
 unfold KG
 rw[List.drop_eq_getElem_cons hl,List.idxOf?_cons,e]
 simp
theorem bA4 {x n:List UInt8}{k:Nat}(hk:names[k]? =some n)(h:n≠x):KG x k=KG x (k+1):=by
 obtain⟨hl,e⟩:=List.getElem?_eq_some_iff.1 hk
 unfold KG
 rw[List.drop_eq_getElem_cons hl,List.idxOf?_cons,e,if_neg (by simpa using h),Option.map_map]
 congr 1
 funext i
 show i+1+k=i+(k+1)
 omega
theorem bA3 {x:List UInt8}{k:Nat}(h:12<=k):KG x k=none:=by
 unfold KG
 rw[List.drop_eq_nil_of_le (by exact h)]
 rfl
theorem lA8:names=rB.map (·.map Oct.low):=by decide
theorem bAf {k:Nat}(h:k<12): ∃n,rB[k]? =some n/\names[k]? =some (n.map Oct.low)/\n.length=3:=by
 have hl:k<rB.length:=h
 refine⟨rB[k],List.getElem?_eq_getElem hl,?_,?_⟩
 ·rw[lA8,List.getElem?_map,List.getElem?_eq_getElem hl];rfl
 ·have: ∀n∈rB,n.length=3:=by decide
  exact this _ (List.getElem_mem hl)
theorem bAc {s:List UInt8}(h:s.length<3):month s=0:=if_neg (by omega)
theorem bAd {s:List UInt8}{k:Nat}(h:3<=s.length)(hi:names.idxOf? ((s.take 3).map Oct.low)=some k):month s=k+1:=by unfold month;rw[if_pos h,hi]
theorem bAb {s:List UInt8}(h:3<=s.length)(hi:names.idxOf? ((s.take 3).map Oct.low)=none):month s=0:=by unfold month;rw[if_pos h,hi]
end Dt
theorem jAM:(Tryz.prog.info? 167).map (·.size)=some (GA Dt.rB).size:=by kernel_rfl
theorem jAr(W:World):(Instr.index 167 (.agg (GA Dt.rB)) (.int .i64 0)).run Tryz.prog W= .ok (lA [74,97,110]) W:=by kernel_rfl
theorem jAs(W:World):(Instr.index 167 (.agg (GA Dt.rB)) (.int .i64 1)).run Tryz.prog W= .ok (lA [70,101,98]) W:=by kernel_rfl
theorem jAv(W:World):(Instr.index 167 (.agg (GA Dt.rB)) (.int .i64 2)).run Tryz.prog W= .ok (lA [77,97,114]) W:=by kernel_rfl
theorem jAw(W:World):(Instr.index 167 (.agg (GA Dt.rB)) (.int .i64 3)).run Tryz.prog W= .ok (lA [65,112,114]) W:=by kernel_rfl
theorem jAx(W:World):(Instr.index 167 (.agg (GA Dt.rB)) (.int .i64 4)).run Tryz.prog W= .ok (lA [77,97,121]) W:=by kernel_rfl
theorem jAy(W:World):(Instr.index 167 (.agg (GA Dt.rB)) (.int .i64 5)).run Tryz.prog W= .ok (lA [74,117,110]) W:=by kernel_rfl
theorem jAz(W:World):(Instr.index 167 (.agg (GA Dt.rB)) (.int .i64 6)).run Tryz.prog W= .ok (lA [74,117,108]) W:=by kernel_rfl
theorem jAA(W:World):(Instr.index 167 (.agg (GA Dt.rB)) (.int .i64 7)).run Tryz.prog W= .ok (lA [65,117,103]) W:=by kernel_rfl
theorem jAB(W:World):(Instr.index 167 (.agg (GA Dt.rB)) (.int .i64 8)).run Tryz.prog W= .ok (lA [83,101,112]) W:=by kernel_rfl
theorem jAC(W:World):(Instr.index 167 (.agg (GA Dt.rB)) (.int .i64 9)).run Tryz.prog W= .ok (lA [79,99,116]) W:=by kernel_rfl
theorem jAt(W:World):(Instr.index 167 (.agg (GA Dt.rB)) (.int .i64 10)).run Tryz.prog W= .ok (lA [78,111,118]) W:=by kernel_rfl
theorem jAu(W:World):(Instr.index 167 (.agg (GA Dt.rB)) (.int .i64 11)).run Tryz.prog W= .ok (lA [68,101,99]) W:=by kernel_rfl
theorem jAq {k:Nat}(hk:k<12){n:List UInt8}(hn:Dt.rB[k]? =some n)(W:World):(Instr.index 167 (.agg (GA Dt.rB)) (.int .i64 (k:Int))).run Tryz.prog W= .ok (lA n) W:=by
 have:k=0\/k=1\/k=2\/k=3\/k=4\/k=5\/k=6\/k=7\/k=8\/k=9\/k=10\/k=11:=by omega
 rcases this with rfl|rfl|rfl|rfl|rfl|rfl|rfl|rfl|rfl|rfl|rfl|rfl
 ·have e:=zB2 hn;rw[<-e];exact jAr W
 ·have e:=zB2 hn;rw[<-e];exact jAs W
 ·have e:=zB2 hn;rw[<-e];exact jAv W
 ·have e:=zB2 hn;rw[<-e];exact jAw W
 ·have e:=zB2 hn;rw[<-e];exact jAx W
 ·have e:=zB2 hn;rw[<-e];exact jAy W
 ·have e:=zB2 hn;rw[<-e];exact jAz W
 ·have e:=zB2 hn;rw[<-e];exact jAA W
 ·have e:=zB2 hn;rw[<-e];exact jAB W
 ·have e:=zB2 hn;rw[<-e];exact jAC W
 ·have e:=zB2 hn;rw[<-e];exact jAt W
 ·have e:=zB2 hn;rw[<-e];exact jAu W
def fN(m:Nat)(w:World)(e:Ending)(w':World):Prop:=e= .returned (.tuple #[.int .i64 (m:Int),.bool (decide (0<m))])/\Below w.heap.size w w'
theorem nV {m n:Nat}{b:Bool}(h:m=n)(hb:decide (0<n)=b){w w':World}(hB:Below w.heap.size w w'):fN m w (.returned (.tuple #[.int .i64 (n:Int),.bool b])) w':=by subst h hb;exact⟨rfl,hB⟩
theorem mAs(s:ByteArray)(w:World)(hw:mC w)(hs:s.size<=maxLen):
  Calls Tryz.prog 209 #[.string s] w (fN (Dt.month s.data.toList) w):=by
 unfold maxLen at hs
 have hl:=Oct.nA s
 by_cases h3:s.size<3
 ·have HR:=zA7 (nV (Dt.bAc (s:=s.data.toList) (by omega)) (by decide:decide (0<0)=false) (Below.refl w.heap.size w))
  generalize fN (Dt.month s.data.toList) w=post at*
  have DN:(s.size:Int)<3:=by omega
  go_enter Tryz.func209,Tryz.ntmps209
  go_wp2
  exact HR.out
 ·have HY:=zA7 (fun k (h:Dt.names.idxOf? ((s.data.toList.take 3).map Oct.low)=some k) w' (hb:Below w.heap.size w w')=>nV (b:=true) (Dt.bAd (s:=s.data.toList) (by omega) h) (zA9 (by omega)) hb)
  have HN:=zA7 (fun(h:Dt.names.idxOf? ((s.data.toList.take 3).map Oct.low)=none) w' (hb:Below w.heap.size w w')=>nV (b:=false) (Dt.bAb (s:=s.data.toList) (by omega) h) (zA8 (by omega)) hb)
  generalize hpost:fN (Dt.month s.data.toList) w=post at*
  clear hpost
  have hx:((s.extract 0 3).data.toList).map Oct.low=(s.data.toList.take 3).map Oct.low:=by rw[Lib.extract_data,List.drop_zero,Nat.sub_zero]
  have hxs:(s.extract 0 3).size<=maxLen:=by rw[ByteArray.size_extract];unfold maxLen;omega
  have HC:Hid (∀(n:List UInt8) W,Calls Tryz.prog 69 #[.string (s.extract 0 3),lA n] W (KH (decide ((s.data.toList.take 3).map Oct.low=n.map Oct.low)) W)):=zA7 (fun n W=>by
   have:=uR (s.extract 0 3) ⟨n.toArray⟩ W hxs
   unfold Oct.kC at this
   rw[hx]at this
   exact this)
  have HST:=zA7 (Dt.bA5 ((s.data.toList.take 3).map Oct.low))
  clear hx hxs hl
  generalize(s.data.toList.take 3).map Oct.low=x at*
  obtain⟨t,fr,hrow⟩:=hw.row
  have DN: ¬(s.size:Int)<3:=by omega
  go_enter Tryz.func209,Tryz.ntmps209
  go_wp2_with (refine iA 9 rfl ?_;refine wpList_load_row rfl 167 _ rfl 1 rfl t _ fr _ hrow Tryz.underlying167 rfl jAM ?_)
  clear hrow
  go_loopw [10] (fun i wr=> ∃k:Nat,k<=12/\i= .int .i64 k/\Dt.names.idxOf? x=Dt.KG x k/\pB w wr) (fun i _=>12- (intOf i).toNat)
  case atStart=>exact⟨0,Nat.zero_le _,rfl,HST.out,pB.refl _⟩
  case round=>
   obtain⟨k,hk,rfl,hm,hd⟩:=hrel
   have HM:=zA7 hm
   clear hm
   by_cases hlt:k<12
   ·obtain⟨n,n1,n2,n3⟩:=Dt.bAf hlt
    have hidx:=jAq hlt n1
    have hki:(k:Int)<12:=by omega
    have mG:=zA7 (HC.out n)
    unfold KH lA at mG
    unfold lA at hidx
    generalize hnb:(⟨n.toArray⟩:ByteArray)=nb at*
    clear hnb n1
    by_cases hx:n.map Oct.low=x
    ·have HR:=zA7 (HY.out k (HM.out.trans (Dt.bA6 n2 hx)))
     have e1:decide (x=n.map Oct.low)=true:=zA9 hx.symm
     rw[e1]at mG
     clear hx n2 e1
     go_wp2_with fail
     refine(mG.out _).mono ?_
     rintro e w2 ⟨rfl,d2⟩
     have hD:=((hd.below w.heap.size).trans (d2.below w.heap.size))
     have HRR:=zA7 (HR.out w2 hD)
     go_wp2
     exact HRR.out
    ·have xD:=zA7 (HM.out.trans (Dt.bA4 n2 hx))
     have e1:decide (x=n.map Oct.low)=false:=zA8 (fun h=>hx h.symm)
     rw[e1]at mG
     clear hx n2 e1
     go_wp2_with fail
     refine(mG.out _).mono ?_
     rintro e w2 ⟨rfl,d2⟩
     have hD:pB w w2:=by
      obtain⟨a,rfl⟩:=hd
      obtain⟨b,rfl⟩:=d2
      exact⟨a+b,World.drewN_drewN _ _ _⟩
     go_wp2
     go_roundw
     case rel=>exact⟨k+1,by omega,by go_num,xD.out,hD⟩
     case measure=>simp[intOf];omega
   ·have HR:=zA7 (HN.out (HM.out.trans (Dt.bA3 (by omega))) wr (hd.below _))
    have hki: ¬(k:Int)<12:=by omega
    go_wp2
    exact HR.out
end Go.Proofs.YtabgoobcliijeaaGreatDoor
namespace Go.Proofs.YtabgoobcliijeaaGreatDoor
open Go.RowKit
theorem AR {P:Program}{ops:Array Oper}{rest:List Oper}{o:Oper}{a:Act}{w:World}{Q:Exit->Act->World->Prop}(hgd:o.guard=none)(ty:TypeId)(x y:Operand)(ho:o.op= .store ty x y)
  (g off:Nat)(cells:Array Value)(hx:a.eval x= .pointer (some ⟨g,off,none⟩))(hy:a.eval y= .agg cells)
  (t:TypeId)(old:Array Value)(hg:Row w g t old)(hi:(P.info? ty).map (·.size)=some cells.size)
  (hle:off+cells.size<=old.size)(h1:cells.all (·.oneCell')=true)(new:Array Value)(hn:(old.toList.take off++cells.toList++old.toList.drop (off+cells.size)).toArray=new)
  (h:wpList P ops Q rest (a.put o.dst undef) (w.setRow g new)):wpList P ops Q (o::rest) a w:=
 wpList_plain hgd fun _ hK=>by
  have hs:(storeCells ⟨g,off,none⟩ cells.toList 0).run P w= .ok () (w.setRow g new):=by
   have:=run_storeCells_at (P:=P) g off t cells.toList 0 old w hg (by rw[Array.length_toList];omega) (fun v hv=>by
    have:=Array.all_eq_true'.1 h1 v (Array.mem_toList_iff.1 hv)
    exact this)
   rw[Nat.add_zero,Array.length_toList,hn]at this
   exact this
  have hv:(storeVar ty ⟨g,off,none⟩ (.agg cells)).run P w= .ok () (w.setRow g new):=by
   cases hq:P.info? ty with
   |none=>simp[hq]at hi
   |some i=>
    have hsz:cells.size=i.size:=by simp[hq]at hi;omega
    simp[storeVar,sizeOf,typeInfo,hq,Value.cells,hsz,hs]
  unfold Oper.wp execOp
  simp only[ho,hx,hy,Instr.storeAt,Instr.sureAddr,Sem.run_bind,Sem.run_pure,Result.andThen_ok,hv]
  exact hK _ _ h
end Go.Proofs.YtabgoobcliijeaaGreatDoor
