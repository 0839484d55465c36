/-
  Walks of octal.Format.
-/
import Derived.Test.YtbgmhdhfcckbbaaDoorOctSmallF
namespace Go.Proofs.YtbgmhdhfcckbbaaDoor.Oct
open Go.RowKit

theorem made_u8 (m : Nat) : (madeCells (Value.int .u8 0).cells (m * 1)).toList = (List.replicate m (0 : Int)).map (.int .u8) := by
  apply List.ext_getElem?
  intro i
  by_cases h : i < m <;> simp [madeCells, Value.cells, h, Nat.mod_one]

theorem Tryd.info5 : (Tryd.prog.info? 5).map (fun i => (i.zero, i.size, i.bytes)) = some (some (.int .u8 0), 1, 1) := by kernel_rfl

set_option maxHeartbeats 400000 in
theorem fmt_bad (n wd : Int) (w : World) (h : wd < 2 ∨ 22 < wd) :
    Calls Tryd.prog 60 #[.int .i64 n, .int .i64 wd] w fun e w' => e = .returned (.tuple #[.slice none 0 0, .int .i64 2]) ∧ w = w' := by
  have hv := vwB_false h
  clear h
  go_enter Tryd.func60, Tryd.ntmps60
  go_wp2_with (go_at_call 73; refine (valid_any _ _).mono ?_; rintro e w' ⟨rfl, rfl⟩)
  go_ret2
  exact ⟨rfl, rfl⟩

set_option maxHeartbeats 400000 in
theorem fmt_range (n wd : Int) (k : Nat) (w : World) (h1 : 1 ≤ k) (h2 : k ≤ 21) (hn : wd = (k : Int) + 1) (h : n < 0 ∨ mx k < n) :
    Calls Tryd.prog 60 #[.int .i64 n, .int .i64 wd] w fun e w' => e = .returned (.tuple #[.slice none 0 0, .int .i64 3]) ∧ w = w' := by
  have hv := vwB_true (n := wd) (by omega) (by omega)
  have HN := Lib.hid hn; clear hn
  by_cases h0 : n < 0
  · clear h
    go_enter Tryd.func60, Tryd.ntmps60
    go_wp2_with (first | (go_at_call 73; refine (valid_any _ _).mono ?_; rintro e w' ⟨rfl, rfl⟩) | (go_at_call 74; refine (max_ok _ k _ h1 h2 HN.out).mono ?_; rintro e w' ⟨rfl, rfl⟩))
    go_ret2
    exact ⟨rfl, rfl⟩
  · have h' : mx k < n := by omega
    clear h
    go_enter Tryd.func60, Tryd.ntmps60
    go_wp2_with (first | (go_at_call 73; refine (valid_any _ _).mono ?_; rintro e w' ⟨rfl, rfl⟩) | (go_at_call 74; refine (max_ok _ k _ h1 h2 HN.out).mono ?_; rintro e w' ⟨rfl, rfl⟩))
    go_ret2
    exact ⟨rfl, rfl⟩

set_option maxHeartbeats 400000 in
theorem fmt_ok (n wd : Int) (k : Nat) (w : World) (h1 : 1 ≤ k) (h2 : k ≤ 21) (hn : wd = (k : Int) + 1) (h0 : 0 ≤ n) (hm : n ≤ mx k) :
    Calls Tryd.prog 60 #[.int .i64 n, .int .i64 wd] w fun e w' => e = .returned (.tuple #[.slice (some ⟨w.heap.size, 0, none⟩) (k + 1) (k + 1), .int .i64 0]) ∧
      w'.ownsRow w.heap.size 5 1 (.slice (some ⟨w.heap.size, 0, none⟩) (k + 1) (k + 1)) (k + 1) ((fld k n).map (.int .u8)) ∧ Below w.heap.size w w' := by
  have hv := vwB_true (n := wd) (by omega) (by omega)
  have h3 : 2 ≤ wd := by omega
  have h4 : wd ≤ 22 := by omega
  have hm' : ¬ mx k < n := by omega
  have h5 := mx_le h2
  have HN := Lib.hid hn; clear hn
  have HM := Lib.hid hm; clear hm
  obtain ⟨i0, hi, hz0, hz1, hz2⟩ := info_parts Tryd.info5
  have HZ := Lib.hid (And.intro hi (And.intro hz0 (And.intro hz1 hz2)))
  clear hi hz0 hz1 hz2
  go_enter Tryd.func60, Tryd.ntmps60
  go_wp2_with (first | (go_at_call 73; refine (valid_any _ _).mono ?_; rintro e w' ⟨rfl, rfl⟩) | (go_at_call 74; refine (max_ok _ k _ h1 h2 HN.out).mono ?_; rintro e w' ⟨rfl, rfl⟩) | (at_make; refine wpList_make_full _ rfl _ _ 26 rfl w.heap.size 5 i0 (.int .u8 0) 1 Tryd.underlying26 HZ.out.1 HZ.out.2.1 HZ.out.2.2.1 .i64 .i64 _ _ (k + 1) rfl rfl (by rw [HN.out]; rfl) (by rw [HN.out]; rfl) (by rw [HZ.out.2.2.2]; omega) (by unfold maxLen; omega) (Nat.le_refl _) ?_; intro w1 hown1 hgrow1))
  have hown2 : w1.ownsRow w.heap.size 5 1 (.slice (some ⟨w.heap.size, 0, none⟩) (k + 1) (k + 1)) (k + 1) ((part k 0 n).map (.int .u8)) := by
    rw [part_zero]
    have e : (madeCells (Value.int .u8 0).cells ((k + 1) * 1)).toList = (List.replicate (k + 1) (0 : Int)).map (.int .u8) := made_u8 _
    rw [← e]; exact hown1
  have hb : Below w.heap.size w w1 := (Below.refl _ _).grown hgrow1 (Nat.le_refl _) (fun _ h => by cases h)
  clear hown1 hgrow1
  go_loopw [0, 26] (fun t i wr => ∃ j : Nat, j ≤ k ∧ i = .int .i64 j ∧ t = .int .i64 (sh n j) ∧ wr.ownsRow w.heap.size 5 1 (.slice (some ⟨w.heap.size, 0, none⟩) (k + 1) (k + 1)) (k + 1) ((part k j n).map (.int .u8)) ∧ Below w.heap.size w wr) (fun _ i _ => k - (intOf i).toNat)
  case atStart => exact ⟨0, Nat.zero_le _, rfl, by rw [sh_zero], hown2, hb⟩
  case round =>
    obtain ⟨j, hj, rfl, rfl, hown, hbel⟩ := hrel
    have b0 := sh_nonneg h0 j
    have b1 := sh_le h0 j
    have b2 : sh n j ≤ 9223372036854775807 := by have := HM.out; omega
    by_cases hlt : j < k
    · have hlt' : (j : Int) < wd - 1 := by rw [HN.out]; omega
      have hix : 0 ≤ wd - 2 - (j : Int) := by rw [HN.out]; omega
      have hix2 : wd - 2 - (j : Int) < ((k + 1 : Nat) : Int) := by rw [HN.out]; omega
      have HI : Hid ((wd - 2).toNat - j = k - 1 - j) := by show _ = _; rw [HN.out]; omega
      have hc : wr.cell? ⟨w.heap.size, (wd - 2).toNat - j, none⟩ = some (.int .u8 0) := by
        rw [HI.out, hown.cellAt _ (by omega), List.getElem?_map, part_at n hlt]; rfl
      have hf := hown.frozenAt ((wd - 2).toNat - j)
      have R := (hown.stored ((wd - 2).toNat - j) (.int .u8 (48 + sh n j % 8))).1
      rw [HI.out, ← List.map_set, part_step n hlt] at R
      have HR := Lib.hid R
      have HS := Lib.hid (sh_succ n j)
      clear R hown hown2
      go_wp2
      go_roundw
      case rel => exact ⟨j + 1, by omega, by go_num, by rw [HS.out], by rw [HI.out]; exact HR.out, hbel.setCell (Nat.le_refl _) _⟩
      case measure => simp [intOf]; omega
    · have hlt' : ¬ (j : Int) < wd - 1 := by rw [HN.out]; omega
      obtain rfl : j = k := by omega
      clear hown2
      go_wp2
      go_ret2
      exact ⟨rfl, by rw [← part_full]; exact hown, hbel⟩
end Go.Proofs.YtbgmhdhfcckbbaaDoor.Oct
