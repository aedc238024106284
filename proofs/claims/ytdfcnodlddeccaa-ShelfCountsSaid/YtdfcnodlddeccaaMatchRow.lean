/- Cookies and requests as values. -/
import Derived.Test.YtdfcnodlddeccaaCells
import Derived.Test.YtdfcnodlddeccaaMatchPlain
namespace Go.Proofs.Ytdfcnodlddeccaa
open Go.RowKit
/-- A cookie as a value. -/
def cookieA (c : Ma.Cookie) : Array Value := (strV c.name :: strV c.value :: ((hostA c.host).toList ++ [.bool c.only, strV c.path, .bool c.secure, .bool c.http, .int .i64 c.same, .int .i64 c.expires, .int .i64 c.born, .int .i64 c.used, .int .i64 c.seq])).toArray
/-- A request as a value. -/
def requestA (r : Ma.Request) : Array Value := (Value.bool r.secure :: ((hostA r.host).toList ++ [strV r.path, .int .i64 r.cross])).toArray
theorem hostA_list (h : Hst.Host) (ha : h.addr.length = 16) : (hostA h).toList.length = 18 := by rw [Array.length_toList, hostA_size h ha]
theorem behind_host {h : Hst.Host} (ha : h.addr.length = 16) (t : List Value) (i : Nat) : ((hostA h).toList ++ t)[18 + i]? = t[i]? := by
  rw [List.getElem?_append_right (by rw [hostA_list h ha]; omega), hostA_list h ha]
  congr 1; omega
theorem take_host {h : Hst.Host} (ha : h.addr.length = 16) (t : List Value) : ((hostA h).toList ++ t).take 18 = (hostA h).toList := by
  rw [List.take_append_of_le_length (by rw [hostA_list h ha]; exact Nat.le_refl _), List.take_of_length_le (by rw [hostA_list h ha]; exact Nat.le_refl _)]
theorem cookieA_size (c : Ma.Cookie) (ha : c.host.addr.length = 16) : (cookieA c).size = 29 := by
  unfold cookieA
  rw [List.size_toArray, List.length_cons, List.length_cons, List.length_append, hostA_list _ ha]; rfl
theorem requestA_size (r : Ma.Request) (ha : r.host.addr.length = 16) : (requestA r).size = 21 := by
  unfold requestA
  rw [List.size_toArray, List.length_cons, List.length_append, hostA_list _ ha]; rfl
theorem hostA_ones (h : Hst.Host) : ∀ v ∈ (hostA h).toList, v.oneCell' = true := fun v hv => Array.all_eq_true'.1 (hostA_one h) v (Array.mem_toList_iff.1 hv)
theorem cookieA_one (c : Ma.Cookie) : (cookieA c).all (·.oneCell') = true := by
  rw [Array.all_eq_true']
  intro v hv
  unfold cookieA at hv
  rw [List.mem_toArray] at hv
  simp only [List.mem_cons, List.mem_append, List.not_mem_nil, or_false] at hv
  rcases hv with rfl | rfl | hv | rfl | rfl | rfl | rfl | rfl | rfl | rfl | rfl | rfl
  · rfl
  · rfl
  · exact hostA_ones _ v hv
  all_goals rfl
theorem requestA_one (r : Ma.Request) : (requestA r).all (·.oneCell') = true := by
  rw [Array.all_eq_true']
  intro v hv
  unfold requestA at hv
  rw [List.mem_toArray] at hv
  simp only [List.mem_cons, List.mem_append, List.not_mem_nil, or_false] at hv
  rcases hv with rfl | hv | rfl | rfl
  · rfl
  · exact hostA_ones _ v hv
  all_goals rfl
section
variable (c : Ma.Cookie) (ha : c.host.addr.length = 16)
include ha
theorem cookieA_tail (i : Nat) : (cookieA c)[20 + i]? = ([.bool c.only, strV c.path, .bool c.secure, .bool c.http, .int .i64 c.same, .int .i64 c.expires, .int .i64 c.born, .int .i64 c.used, .int .i64 c.seq] : List Value)[i]? := by
  unfold cookieA
  rw [List.getElem?_toArray, show 20 + i = (18 + i) + 1 + 1 by omega, List.getElem?_cons_succ, List.getElem?_cons_succ]
  exact behind_host ha _ i
theorem cookieA_only : (cookieA c)[20]? = some (.bool c.only) := cookieA_tail c ha 0
theorem cookieA_path : (cookieA c)[21]? = some (strV c.path) := cookieA_tail c ha 1
theorem cookieA_secure : (cookieA c)[22]? = some (.bool c.secure) := cookieA_tail c ha 2
theorem cookieA_http : (cookieA c)[23]? = some (.bool c.http) := cookieA_tail c ha 3
theorem cookieA_same : (cookieA c)[24]? = some (.int .i64 c.same) := cookieA_tail c ha 4
theorem cookieA_expires : (cookieA c)[25]? = some (.int .i64 c.expires) := cookieA_tail c ha 5
theorem cookieA_born : (cookieA c)[26]? = some (.int .i64 c.born) := cookieA_tail c ha 6
theorem cookieA_used : (cookieA c)[27]? = some (.int .i64 c.used) := cookieA_tail c ha 7
theorem cookieA_seq : (cookieA c)[28]? = some (.int .i64 c.seq) := cookieA_tail c ha 8
theorem cookieA_host : (cookieA c).extract 2 20 = hostA c.host := by
  apply Array.ext'
  rw [Array.toList_extract]
  unfold cookieA
  show List.take 18 ((hostA c.host).toList ++ _) = _
  exact take_host ha _
end
theorem cookieA_name (c : Ma.Cookie) : (cookieA c)[0]? = some (strV c.name) := rfl
theorem cookieA_value (c : Ma.Cookie) : (cookieA c)[1]? = some (strV c.value) := rfl
section
variable (r : Ma.Request) (ha : r.host.addr.length = 16)
include ha
theorem requestA_tail (i : Nat) : (requestA r)[19 + i]? = ([strV r.path, .int .i64 r.cross] : List Value)[i]? := by
  unfold requestA
  rw [List.getElem?_toArray, show 19 + i = (18 + i) + 1 by omega, List.getElem?_cons_succ]
  exact behind_host ha _ i
theorem requestA_path : (requestA r)[19]? = some (strV r.path) := requestA_tail r ha 0
theorem requestA_cross : (requestA r)[20]? = some (.int .i64 r.cross) := requestA_tail r ha 1
theorem requestA_host : (requestA r).extract 1 19 = hostA r.host := by
  apply Array.ext'
  rw [Array.toList_extract]
  unfold requestA
  show List.take 18 ((hostA r.host).toList ++ _) = _
  exact take_host ha _
end
theorem requestA_secure (r : Ma.Request) : (requestA r)[0]? = some (.bool r.secure) := rfl
theorem infoCookie : (Try.prog.info? 34).map (·.size) = some 29 := by kernel_rfl
end Go.Proofs.Ytdfcnodlddeccaa
