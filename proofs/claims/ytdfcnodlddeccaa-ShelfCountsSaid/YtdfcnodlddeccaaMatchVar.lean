/- Cookies and requests in variables: their fields written one by one. -/
import Derived.Test.YtdfcnodlddeccaaMatchRow
namespace Go.Proofs.Ytdfcnodlddeccaa
open Go.RowKit
theorem cookieA_put (c : Ma.Cookie) (ha : c.host.addr.length = 16) (k : Nat) (v : Value) : (cookieA c).setIfInBounds (20 + k) v = (strV c.name :: strV c.value :: ((hostA c.host).toList ++ ([.bool c.only, strV c.path, .bool c.secure, .bool c.http, .int .i64 c.same, .int .i64 c.expires, .int .i64 c.born, .int .i64 c.used, .int .i64 c.seq] : List Value).set k v)).toArray := by
  unfold cookieA
  rw [List.setIfInBounds_toArray, show 20 + k = (18 + k) + 1 + 1 by omega, List.set_cons_succ, List.set_cons_succ, List.set_append_right _ _ (by rw [hostA_list _ ha]; omega), hostA_list _ ha, Nat.add_sub_cancel_left]
theorem cookieA_setOnly (c : Ma.Cookie) (ha : c.host.addr.length = 16) (b : Bool) : (cookieA c).setIfInBounds 20 (.bool b) = cookieA { c with only := b } := cookieA_put c ha 0 (.bool b)
theorem cookieA_setSecure (c : Ma.Cookie) (ha : c.host.addr.length = 16) (b : Bool) : (cookieA c).setIfInBounds 22 (.bool b) = cookieA { c with secure := b } := cookieA_put c ha 2 (.bool b)
theorem cookieA_setSame (c : Ma.Cookie) (ha : c.host.addr.length = 16) (n : Int) : (cookieA c).setIfInBounds 24 (.int .i64 n) = cookieA { c with same := n } := cookieA_put c ha 4 (.int .i64 n)
theorem requestA_setSecure (r : Ma.Request) (b : Bool) : (requestA r).setIfInBounds 0 (.bool b) = requestA { r with secure := b } := by
  unfold requestA
  rw [List.setIfInBounds_toArray]; rfl
theorem requestA_setCross (r : Ma.Request) (ha : r.host.addr.length = 16) (n : Int) : (requestA r).setIfInBounds 20 (.int .i64 n) = requestA { r with cross := n } := by
  unfold requestA
  rw [List.setIfInBounds_toArray, show (20 : Nat) = (18 + 1) + 1 from rfl, List.set_cons_succ, List.set_append_right _ _ (by rw [hostA_list _ ha]; omega), hostA_list _ ha]; rfl
def Ma.zeroR : Ma.Request := ⟨false, Hst.zero, [], 0⟩
def Ma.zeroC : Ma.Cookie := ⟨[], [], Hst.zero, false, [], false, false, 0, 0, 0, 0, 0⟩
theorem zeroRequest : #[Value.bool false, .int .i64 0, .string ⟨#[]⟩, .int .u8 0, .int .u8 0, .int .u8 0, .int .u8 0, .int .u8 0, .int .u8 0, .int .u8 0, .int .u8 0, .int .u8 0, .int .u8 0, .int .u8 0, .int .u8 0, .int .u8 0, .int .u8 0, .int .u8 0, .int .u8 0, .string ⟨#[]⟩, .int .i64 0] = requestA Ma.zeroR := by rfl
theorem zeroCookie : #[Value.string ⟨#[]⟩, .string ⟨#[]⟩, .int .i64 0, .string ⟨#[]⟩, .int .u8 0, .int .u8 0, .int .u8 0, .int .u8 0, .int .u8 0, .int .u8 0, .int .u8 0, .int .u8 0, .int .u8 0, .int .u8 0, .int .u8 0, .int .u8 0, .int .u8 0, .int .u8 0, .int .u8 0, .int .u8 0, .bool false, .string ⟨#[]⟩, .bool false, .bool false, .int .i64 0, .int .i64 0, .int .i64 0, .int .i64 0, .int .i64 0] = cookieA Ma.zeroC := by rfl
end Go.Proofs.Ytdfcnodlddeccaa
