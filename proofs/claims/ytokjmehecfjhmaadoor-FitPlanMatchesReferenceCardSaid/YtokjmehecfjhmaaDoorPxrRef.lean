/-
  Layer 9: the reference's Decimal.
-/
import Derived.Test.YtokjmehecfjhmaaDoorPxrVars
import Derived.Test.YtokjmehecfjhmaaDoorPxrTk
import Derived.Test.YtokjmehecfjhmaaDoorObj
import Derived.BigQuiet
namespace Go.Proofs.YtokjmehecfjhmaaDoor.Pxr
open Go.RowKit

theorem strD_one (k : Nat) (h : k < 10) (t : ByteArray) : numsOf (strOfNums [48 + (k : Int)] ++ t) = decD k ++ numsOf t := by
  rw [nums_cat, numsOf_strOfNums (fun z hz => by simp at hz; omega), decD_small h]

set_option maxHeartbeats 2000000 in
set_option maxRecDepth 100000 in
theorem rdec_any (n : Nat) (hn : n ≤ 1000000000000000000) (w : World) : Calls Tryd.prog 26 #[.int .i64 (n : Int)] w fun e w' => e = .returned (.string (strOfNums (decD n))) ∧ Below w.heap.size w w' := by
  obtain ⟨R, hR⟩ := named (strOfNums (decD n))
  rw [← hR.out]
  have HL : Hid ((decD n).length ≤ 19) := by
    show _ ≤ _
    rw [decD_len]
    exact nDigits_le 18 n (Nat.lt_of_le_of_lt hn (by decide))
  have HI : Hid ((Tryd.prog.info? 5).map (fun i => (i.zero, i.size, i.bytes)) = some (some (.int .u8 0), 1, 1)) := by show _ = _; kernel_rfl
  obtain ⟨z0, hz0⟩ := named (n : Int)
  rw [← hz0.out]
  have HNN := Lib.hid hn
  clear hn
  go_enter Tryd.func26, Tryd.ntmps26
  go_wp2
  go_loopw [0, 3] (fun m s wr => ∃ (z : Int) (k : Nat) (t : ByteArray), m = .int .i64 z ∧ s = .string t ∧ Hid (z = k ∧ k ≤ n ∧ decD k ++ numsOf t = decD n) ∧ Below w.heap.size w wr) (fun m _ _ => (intOf m).toNat)
  case atStart => exact ⟨z0, n, { data := #[] }, rfl, rfl, ⟨hz0.out, Nat.le_refl _, by rw [show numsOf { data := #[] } = [] from rfl, List.append_nil]⟩, Below.refl _ _⟩
  case round =>
    obtain ⟨z, k, t, rfl, rfl, hk, hb⟩ := hrel
    have HB := Lib.hid hb
    have k0 : 0 ≤ z := by have := hk.out.1; omega
    have k1 : z ≤ 1000000000000000000 := by have := hk.out.1; have := hk.out.2.1; have := HNN.out; omega
    have ts : (t.size : Int) ≤ 19 := by
      have := congrArg List.length hk.out.2.2
      rw [List.length_append, numsOf_length] at this
      have := HL.out
      omega
    clear hb
    by_cases h : z < 10
    · have hz : z < 10 := h
      obtain ⟨d, hd⟩ := named (strOfNums [48 + z])
      have ds : (d.size : Int) ≤ 1 := by rw [hd.out, ← numsOf_length, numsOf_strOfNums (fun y hy => by simp at hy; omega)]; exact Int.le_refl 1
      go_wp2_with (first | (refine wpList_lit_one rfl 46 5 _ rfl Tryd.underlying46 HI.out (48 + z) rfl (by omega) ?_; intro w1 g1 b1; have G1 := Lib.hid g1; have B1 := Lib.hid b1; have hcv := run_str_in (P := Tryd.prog) Tryd.underlying46 Tryd.underlying5 Tryd.underlying9 g1.bytes 1 1 rfl; rw [← hd.out] at hcv; clear g1 b1))
      go_ret
      refine ⟨?_, HB.out.trans (B1.out.mono HB.out.size)⟩
      have e : R = d ++ t := by
        apply nums_inj
        rw [hd.out, hk.out.1, strD_one k (by have := hk.out.1; omega), hk.out.2.2, hR.out]
        exact numsOf_strOfNums (fun z hz => by
          have := decD_digs n
          rw [List.all_eq_true] at this
          have := (digB_iff z).1 (this z hz)
          omega)
      rw [e]; rfl
    · have h2 : 10 ≤ z := by omega
      have m0 : 0 ≤ z % 10 := by omega
      have m1 : z % 10 < 10 := by omega
      have H3 : Hid (∃ k' : Nat, z / 10 = k' ∧ k' ≤ n ∧ decD k' ++ numsOf (strOfNums [48 + z % 10] ++ t) = decD n) := by
        have e := hk.out
        refine ⟨k / 10, by omega, by omega, ?_⟩
        rw [nums_cat, numsOf_strOfNums (fun y hy => by simp at hy; omega), ← List.append_assoc, ← e.2.2, decD_big (n := k) (by omega)]
        congr 3
        omega
      obtain ⟨d, hd⟩ := named (strOfNums [48 + z % 10])
      have ds : (d.size : Int) ≤ 1 := by rw [hd.out, ← numsOf_length, numsOf_strOfNums (fun y hy => by simp at hy; omega)]; exact Int.le_refl 1
      rw [← hd.out] at H3
      clear h
      go_wp2_with (first | (refine wpList_lit_one rfl 46 5 _ rfl Tryd.underlying46 HI.out (48 + z % 10) rfl (by omega) ?_; intro w1 g1 b1; have G1 := Lib.hid g1; have B1 := Lib.hid b1; have hcv := run_str_in (P := Tryd.prog) Tryd.underlying46 Tryd.underlying5 Tryd.underlying9 g1.bytes 1 1 rfl; rw [← hd.out] at hcv; clear g1 b1))
      go_roundw
      case rel =>
        obtain ⟨k', e1, e2, e3⟩ := H3.out
        exact ⟨z / 10, k', _, rfl, rfl, ⟨e1, e2, e3⟩, HB.out.trans (B1.out.mono HB.out.size)⟩
      case measure => simp [intOf]; omega
end Go.Proofs.YtokjmehecfjhmaaDoor.Pxr
