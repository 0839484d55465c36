/-
  Walks of the reference of layer 1: Max, Format.
-/
import Derived.Test.YtbgmhdhfcckbbaaDoorOctFormat
import Derived.Deep.DeepMust
namespace Go.Proofs.YtbgmhdhfcckbbaaDoor.Oct
open Go.RowKit

set_option maxHeartbeats 400000 in
theorem rmax_bad (n : Int) (w : World) (h : n < 2 ∨ 22 < n) :
    Calls Tryd.prog 62 #[.int .i64 n] w fun e w' => e = .returned (.int .i64 0) ∧ w = w' := by
  by_cases h1 : n < 2
  · clear h
    go_enter Tryd.func62, Tryd.ntmps62
    go_wp2
    go_ret
    exact ⟨rfl, rfl⟩
  · have h2 : 22 < n := by omega
    clear h
    go_enter Tryd.func62, Tryd.ntmps62
    go_wp2
    go_ret
    exact ⟨rfl, rfl⟩

set_option maxHeartbeats 400000 in
theorem rmax_ok (n : Int) (k : Nat) (w : World) (h1 : 1 ≤ k) (h2 : k ≤ 21) (hn : n = (k : Int) + 1) :
    Calls Tryd.prog 62 #[.int .i64 n] w fun e w' => e = .returned (.int .i64 (mx k)) ∧ w = w' := by
  have HN := Lib.hid hn
  have h3 : ¬ n < 2 := by omega
  have h4 : ¬ 22 < n := by omega
  clear hn
  go_enter Tryd.func62, Tryd.ntmps62
  go_wp2
  go_loop [3, 4] (fun t i => ∃ j : Nat, j ≤ k ∧ i = .int .i64 ((j : Int) + 1) ∧ t = .int .i64 (mx j)) (fun _ i => k + 1 - (intOf i).toNat)
  case atStart => exact ⟨0, Nat.zero_le _, rfl, rfl⟩
  case round =>
    obtain ⟨j, hj, rfl, rfl⟩ := hrel
    have b0 := mx_nonneg j
    by_cases hlt : j < k
    · have b1 := mx_small (k := j) (by omega)
      have HS : Hid (mx (j + 1) = 8 * mx j + 7) := by show _ = _; rw [mx_succ]; omega
      have hlt' : (j : Int) + 1 < n := by rw [HN.out]; omega
      go_wp2
      go_round
      case rel => exact ⟨j + 1, by omega, by go_num, by rw [HS.out]⟩
      case measure => simp [intOf]; omega
    · have hlt' : ¬ (j : Int) + 1 < n := by rw [HN.out]; omega
      obtain rfl : j = k := by omega
      go_wp2
      go_ret
      exact ⟨rfl, rfl⟩

set_option maxHeartbeats 400000 in
theorem rfmt_bad (n wd : Int) (w : World) (h : wd < 2 ∨ 22 < wd) :
    Calls Tryd.prog 35 #[.int .i64 n, .int .i64 wd] w fun e w' => e = .returned (.tuple #[.slice none 0 0, .int .i64 2]) ∧ w = w' := by
  by_cases h1 : wd < 2
  · clear h
    go_enter Tryd.func35, Tryd.ntmps35
    go_wp2
    go_ret2
    exact ⟨rfl, rfl⟩
  · have h2 : 22 < wd := by omega
    clear h
    go_enter Tryd.func35, Tryd.ntmps35
    go_wp2
    go_ret2
    exact ⟨rfl, rfl⟩

set_option maxHeartbeats 400000 in
theorem rfmt_range (n wd : Int) (k : Nat) (w : World) (h1 : 1 ≤ k) (h2 : k ≤ 21) (hn : wd = (k : Int) + 1) (h : n < 0 ∨ mx k < n) :
    Calls Tryd.prog 35 #[.int .i64 n, .int .i64 wd] w fun e w' => e = .returned (.tuple #[.slice none 0 0, .int .i64 3]) ∧ w = w' := by
  have HN := Lib.hid hn
  have h3 : ¬ wd < 2 := by omega
  have h4 : ¬ 22 < wd := by omega
  clear hn
  by_cases h0 : n < 0
  · clear h
    go_enter Tryd.func35, Tryd.ntmps35
    go_wp2_with (go_at_call 62; refine (rmax_ok _ k _ h1 h2 HN.out).mono ?_; rintro e w' ⟨rfl, rfl⟩)
    go_ret2
    exact ⟨rfl, rfl⟩
  · have h' : mx k < n := by omega
    clear h
    go_enter Tryd.func35, Tryd.ntmps35
    go_wp2_with (go_at_call 62; refine (rmax_ok _ k _ h1 h2 HN.out).mono ?_; rintro e w' ⟨rfl, rfl⟩)
    go_ret2
    exact ⟨rfl, rfl⟩

theorem strOfNums_one (d : Int) (l : List Int) : strOfNums [d] ++ strOfNums l = strOfNums (d :: l) := by
  apply ByteArray.ext
  rw [ByteArray.data_append]
  simp [strOfNums]

set_option maxHeartbeats 400000 in
theorem rfmt_ok (n wd : Int) (k : Nat) (w : World) (h1 : 1 ≤ k) (h2 : k ≤ 21) (hn : wd = (k : Int) + 1) (h0 : 0 ≤ n) (hm : n ≤ mx k) :
    Calls Tryd.prog 35 #[.int .i64 n, .int .i64 wd] w (RetBytes (fld k n) (k + 1) 0 w) := by
  have h3 : ¬ wd < 2 := by omega
  have h4 : ¬ 22 < wd := by omega
  have hm' : ¬ mx k < n := by omega
  have h5 := mx_le h2
  have HN := Lib.hid hn; clear hn
  have HM := Lib.hid hm; clear hm
  go_enter Tryd.func35, Tryd.ntmps35
  go_wp2_with (go_at_call 62; refine (rmax_ok _ k _ h1 h2 HN.out).mono ?_; rintro e w' ⟨rfl, rfl⟩)
  go_loopw [0, 6, 7] (fun t s i wr => ∃ j : Nat, j ≤ k ∧ i = .int .i64 ((j : Int) + 1) ∧ t = .int .i64 (sh n j) ∧ s = .string (strOfNums (oct j n ++ [0])) ∧ Below w.heap.size w wr) (fun _ _ i _ => k + 1 - (intOf i).toNat)
  case atStart => exact ⟨0, Nat.zero_le _, rfl, by rw [sh_zero], rfl, Below.refl _ _⟩
  case round =>
    obtain ⟨j, hj, rfl, rfl, rfl, hbel⟩ := hrel
    have b0 := sh_nonneg h0 j
    have b1 := sh_le h0 j
    have b2 : sh n j ≤ 9223372036854775807 := by have := HM.out; omega
    by_cases hlt : j < k
    · have hlt' : (j : Int) + 1 < wd := by rw [HN.out]; omega
      obtain ⟨s, HS⟩ := named (strOfNums (oct j n ++ [0]))
      rw [← HS.out]
      have hs : s.size ≤ 100 := by rw [HS.out, strOfNums_size]; simp [oct_length]; omega
      have HP := Lib.hid (sh_succ n j)
      have hc := run_str_of (P := Tryd.prog) (w := wr.alloc (.cells #[.int .u8 (48 + sh n j % 8)] 5)) Tryd.underlying26 Tryd.underlying5 Tryd.underlying9 (b := wr.heap.size) (off := 0) (zs := [48 + sh n j % 8])
        ⟨fun i hi => by obtain rfl : i = 0 := by simpa using hi
                        rw [World.cell?_alloc_at _ _ _ _ rfl]; rfl, fun z hz => by obtain rfl : z = _ := by simpa using hz
                                                                                   omega⟩ 1 1 rfl
      obtain ⟨u, HU⟩ := named (strOfNums [48 + sh n j % 8])
      rw [← HU.out] at hc
      have hu : u.size = 1 := by rw [HU.out]; rfl
      have HA : Hid (u ++ s = strOfNums (oct (j + 1) n ++ [0])) := by show _ = _; rw [HU.out, HS.out, strOfNums_one]; rfl
      go_wp2
      go_roundw
      case rel => exact ⟨j + 1, by omega, by go_num, by rw [HP.out], by rw [HA.out], hbel.alloc hbel.size _⟩
      case measure => simp [intOf]; omega
    · have hlt' : ¬ (j : Int) + 1 < wd := by rw [HN.out]; omega
      obtain rfl : j = k := by omega
      obtain ⟨c, w2, hrun, hrow, hb2, hsz⟩ := run_bytes_of (P := Tryd.prog) wr Tryd.underlying9 Tryd.underlying26 Tryd.underlying5 (strOfNums (oct j n ++ [0]))
      have hs : (strOfNums (oct j n ++ [0])).size = j + 1 := by rw [strOfNums_size]; simp [oct_length]
      rw [hs] at hrun
      have HR : Hid (RowAt w2 wr.heap.size 0 (fld j n)) := by
        show RowAt _ _ _ _; rw [show numsOf (strOfNums (oct j n ++ [0])) = fld j n from numsOf_strOfNums (fld_bd j n)] at hrow; exact hrow
      clear hs hrow
      go_wp2
      go_ret2
      exact ⟨_, _, rfl, HR.out, hsz, hbel.trans (hb2.mono hbel.size)⟩

end Go.Proofs.YtbgmhdhfcckbbaaDoor.Oct
