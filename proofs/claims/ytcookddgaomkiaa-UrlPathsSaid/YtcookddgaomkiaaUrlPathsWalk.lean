/- The walk of the law UrlPaths. -/
import Derived.Test.YtcookddgaomkiaaUrlAlive
namespace Go.Proofs.Ytcookddgaomkiaa
open Go.RowKit
set_option maxRecDepth 100000 in
set_option maxHeartbeats 4000000 in
theorem upaths_walk (s : ByteArray) (w : World) (_hs : s.size ≤ maxLen) (hw : Std w) :
    Calls Try.prog 6 #[.string s] w fun e w' => e = .returned (.bool true) ∧ Below w.heap.size w w' := by
  have HA := Lib.hid url_alive
  have z0 := zeroURL
  by_cases hlen : s.size ≤ 3000
  · have hlen1 : ¬ (3000 : Int) < (s.size : Int) := by omega
    obtain ⟨x, hx⟩ : ∃ x : ByteArray, x = (⟨#[104, 116, 116, 112, 58, 47, 47, 97]⟩ : ByteArray) ++ s := ⟨_, rfl⟩
    have hxl : x.data.toList = [104, 116, 116, 112, 58, 47, 47, 97] ++ s.data.toList := by
      rw [hx, ByteArray.data_append, Array.toList_append]
    have hxs : x.size = 8 + s.size := by rw [hx, ByteArray.size_append]; rfl
    have hc1 : ¬ 9223372036854775807 < (⟨#[104, 116, 116, 112, 58, 47, 47, 97]⟩ : ByteArray).size + s.size := by have : (⟨#[104, 116, 116, 112, 58, 47, 47, 97]⟩ : ByteArray).size = 8 := rfl; omega
    have H1 := fun W hW => urlParse_calls x W hW (by omega)
    rw [hxl] at H1
    have H2 := Lib.hid (fun W => path_calls s W)
    obtain ⟨o, ho⟩ : ∃ o, Ur.parse ([104, 116, 116, 112, 58, 47, 47, 97] ++ s.data.toList) = o := ⟨_, rfl⟩
    have hal : o.2.host.addr.length = 16 := by rw [← ho]; exact Ur.parse_host_length _
    have hyes : Ur.isPath s.data.toList = true → o = (0, ⟨false, ⟨1, [97], Hst.nil16⟩, 80, s.data.toList⟩) := fun h => by rw [← ho]; exact Ur.path_behind h
    have hno : Ur.isPath s.data.toList = false → o.1 = 0 → o.2.path ≠ s.data.toList := fun h h0 e => by
      have := Ur.parse_path (s := [104, 116, 116, 112, 58, 47, 47, 97] ++ s.data.toList) (by rw [ho]; exact h0)
      rw [ho, e, h] at this
      cases this
    have hlong : Ur.isPath s.data.toList = true → s.size ≤ 2048 := fun h => by
      have := (Ur.isPath_facts h).2.2.1
      rw [Oct.length_bytes] at this
      exact this
    rw [ho] at H1
    obtain ⟨c, u⟩ := o
    have hal : u.host.addr.length = 16 := hal
    have hno : Ur.isPath s.data.toList = false → c = 0 → u.path ≠ s.data.toList := hno
    have HU := Lib.hid (urlA_size u hal)
    have HU1 := Lib.hid (urlA_one u)
    obtain ⟨pb, hpb⟩ : ∃ pb : ByteArray, pb = ⟨u.path.toArray⟩ := ⟨_, rfl⟩
    have hpl : pb.data.toList = u.path := by rw [hpb]
    have c20 : (urlA u)[20]? = some (.string pb) := by rw [urlA_path u hal, hpb]; rfl
    have H1 : ∀ W, Std W → Calls Try.prog 7 #[.string ((⟨#[104, 116, 116, 112, 58, 47, 47, 97]⟩ : ByteArray) ++ s)] W fun e w' => e = .returned (.tuple #[.agg (urlA u), .int .i64 c]) ∧ Below W.heap.size W w' := by rw [← hx]; exact H1
    have H1 := Lib.hid H1
    have C20 := Lib.hid c20
    have HPb := Lib.hid hpl
    clear hx hxl hxs ho hal hpb c20 hpl
    cases hp : Ur.isPath s.data.toList with
    | true =>
      have e1 := Prod.mk.inj (hyes hp)
      obtain ⟨rfl, e2⟩ := e1
      have hle := hlong hp
      have hle1 : (s.size : Int) ≤ 2048 := by omega
      have heq : (pb.toList == s.toList) = true := by rw [Oct.bytes_data, Oct.bytes_data, HPb.out, e2]; simp
      rw [hp] at H2
      clear hyes hno hlong hp e2 hle
      generalize urlA u = X at *
      go_enter Try.func6, Try.ntmps6
      go_wp2_with fail
      refine (HA.out _ hw).mono ?_
      rintro e v0 ⟨rfl, d0⟩
      go_wp2_with fail
      refine (H1.out _ (hw.below d0)).mono ?_
      rintro e v1 ⟨rfl, d1⟩
      have B1 := d0.trans (d1.mono d0.size)
      obtain ⟨T1, U1, C1, _⟩ := lay_row 27 (urlA Ur.zero) X B1 B1.size
      have cell := (U1.cell 20).trans C20.out
      go_wp2_with (first
        | (refine wpList_store_row rfl 27 _ _ rfl v1.heap.size X rfl rfl 27 _ T1 (by rw [HU.out]; exact infoURL) (by rw [HU.out]; rfl) HU1.out ?_)
        | (go_at_call 10; refine (H2.out _).mono ?_; rintro e v2 ⟨rfl, rfl⟩))
      go_ret
      exact ⟨rfl, C1⟩
    | false =>
      rw [hp] at H2
      have hno := hno hp
      clear hyes hlong hp
      by_cases h0 : c = 0
      · have hne : (!(pb.toList == s.toList)) = true := by
          rw [Oct.bytes_data, Oct.bytes_data, HPb.out]
          simpa using hno h0
        subst h0
        clear hno HPb
        generalize urlA u = X at *
        go_enter Try.func6, Try.ntmps6
        go_wp2_with fail
        refine (HA.out _ hw).mono ?_
        rintro e v0 ⟨rfl, d0⟩
        go_wp2_with fail
        refine (H1.out _ (hw.below d0)).mono ?_
        rintro e v1 ⟨rfl, d1⟩
        have B1 := d0.trans (d1.mono d0.size)
        obtain ⟨T1, U1, C1, _⟩ := lay_row 27 (urlA Ur.zero) X B1 B1.size
        have cell := (U1.cell 20).trans C20.out
        go_wp2_with (first
          | (refine wpList_store_row rfl 27 _ _ rfl v1.heap.size X rfl rfl 27 _ T1 (by rw [HU.out]; exact infoURL) (by rw [HU.out]; rfl) HU1.out ?_)
          | (go_at_call 10; refine (H2.out _).mono ?_; rintro e v2 ⟨rfl, rfl⟩))
        go_ret
        exact ⟨rfl, C1⟩
      · have hne : (c != 0) = true := by rw [bne_iff_ne]; exact h0
        clear hno HPb h0
        generalize urlA u = X at *
        go_enter Try.func6, Try.ntmps6
        go_wp2_with fail
        refine (HA.out _ hw).mono ?_
        rintro e v0 ⟨rfl, d0⟩
        go_wp2_with fail
        refine (H1.out _ (hw.below d0)).mono ?_
        rintro e v1 ⟨rfl, d1⟩
        have B1 := d0.trans (d1.mono d0.size)
        obtain ⟨T1, U1, C1, _⟩ := lay_row 27 (urlA Ur.zero) X B1 B1.size
        go_wp2_with (first
          | (refine wpList_store_row rfl 27 _ _ rfl v1.heap.size X rfl rfl 27 _ T1 (by rw [HU.out]; exact infoURL) (by rw [HU.out]; rfl) HU1.out ?_)
          | (go_at_call 10; refine (H2.out _).mono ?_; rintro e v2 ⟨rfl, rfl⟩))
        go_ret
        exact ⟨rfl, C1⟩
  · have hlen1 : (3000 : Int) < (s.size : Int) := by omega
    go_enter Try.func6, Try.ntmps6
    go_wp2_with fail
    refine (HA.out _ hw).mono ?_
    rintro e w1 ⟨rfl, b1⟩
    go_wp2
    go_ret
    exact ⟨rfl, b1⟩
end Go.Proofs.Ytcookddgaomkiaa
