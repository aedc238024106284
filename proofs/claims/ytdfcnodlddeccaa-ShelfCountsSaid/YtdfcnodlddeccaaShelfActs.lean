/- What an act is before anything is stored in it. -/
import Derived.Test.YtdfcnodlddeccaaActsData
namespace Go.Proofs.Ytdfcnodlddeccaa
open Go.RowKit
def Sh.zeroAct : Sh.Act := ⟨0, Ma.zeroC, [], 0⟩
theorem zeroAct : #[Value.int .i64 0, .string ⟨#[]⟩, .string ⟨#[]⟩, .int .i64 0, .string ⟨#[]⟩, .int .u8 0, .int .u8 0, .int .u8 0, .int .u8 0, .int .u8 0, .int .u8 0, .int .u8 0, .int .u8 0, .int .u8 0, .int .u8 0, .int .u8 0, .int .u8 0, .int .u8 0, .int .u8 0, .int .u8 0, .int .u8 0, .bool false, .string ⟨#[]⟩, .bool false, .bool false, .int .i64 0, .int .i64 0, .int .i64 0, .int .i64 0, .int .i64 0, .string ⟨#[]⟩, .int .i64 0] = actA Sh.zeroAct := by rfl
theorem infoAct : (Try.prog.info? 36).map (·.size) = some 32 := by kernel_rfl
end Go.Proofs.Ytdfcnodlddeccaa
