/-
  Layer 9: the program's permitted, checkText, checkNumber, Check.
-/
import Derived.Test.YtokjmehecfjhmaaDoorPxrNum
namespace Go.Proofs.YtokjmehecfjhmaaDoor.Pxr
open Go.RowKit

theorem tLink : kLink.toList = [108, 105, 110, 107, 112, 97, 116, 104] := by rw [ByteArray.toList_eq]
theorem tPath : kPath.toList = [112, 97, 116, 104] := by rw [ByteArray.toList_eq]
theorem tSize : kSize.toList = [115, 105, 122, 101] := by rw [ByteArray.toList_eq]
theorem eqT {a b : ByteArray} (h : a = b) : (a.toList == b.toList) = true := by rw [h]; exact beq_self_eq_true _
theorem eqF {a b : ByteArray} (h : ¬ a = b) : (a.toList == b.toList) = false := bytes_neq h
/-- the tests on a key -/
theorem key_tests (k : ByteArray) (b0 b1 b2 : Bool) (h0 : decide (k = kLink) = b0) (h1 : decide (k = kPath) = b1) (h2 : decide (k = kSize) = b2) :
    (k.toList == [108, 105, 110, 107, 112, 97, 116, 104]) = b0 ∧ (k.toList == [112, 97, 116, 104]) = b1 ∧ (k.toList == [115, 105, 122, 101]) = b2 := by
  rw [← tLink, ← tPath, ← tSize, ← h0, ← h1, ← h2]
  refine ⟨?_, ?_, ?_⟩
  · by_cases h : k = kLink
    · rw [decide_eq_true h]; exact eqT h
    · rw [decide_eq_false h]; exact eqF h
  · by_cases h : k = kPath
    · rw [decide_eq_true h]; exact eqT h
    · rw [decide_eq_false h]; exact eqF h
  · by_cases h : k = kSize
    · rw [decide_eq_true h]; exact eqT h
    · rw [decide_eq_false h]; exact eqF h

theorem idx_keys (w : World) (xs : Array Value) (i : Nat) (hi : i < 3) (s : ByteArray) (hx : xs[i]? = some (.string s)) : (Instr.index 105 (.agg xs) (.int .i64 (i : Int))).run Tryd.prog w = .ok (.string s) w := by
  have he : (Tryd.prog.info? 9).map (·.size) = some 1 := by kernel_rfl
  cases hq : Tryd.prog.info? 9 with
  | none => simp [hq] at he
  | some j =>
    have hs : j.size = 1 := by simpa [hq] using he
    simp [Instr.index, asIntOf, run_underlying Tryd.underlying105, hi, sizeOf, typeInfo, hq, hs, part, hx]

/-- where the loop over the keys stands -/
def PermRel (b0 b1 b2 : Bool) (i : Value) : Prop := i = .int .i64 0 ∨ (i = .int .i64 1 ∧ b0 = false) ∨ (i = .int .i64 2 ∧ b0 = false ∧ b1 = false) ∨ (i = .int .i64 3 ∧ b0 = false ∧ b1 = false ∧ b2 = false)

set_option maxRecDepth 100000 in
set_option maxHeartbeats 1000000 in
theorem perm_any (k : ByteArray) (w : World) (V : Vars w) (B : Bool) (hB : B = (decide (k = kLink) || decide (k = kPath) || decide (k = kSize))) : Calls Tryd.prog 59 #[.string k] w fun e w' => e = .returned (.bool B) ∧ w = w' := by
  have c0 := V.k0; have c1 := V.k1; have c2 := V.k2
  obtain ⟨b0, h0⟩ : ∃ b, decide (k = kLink) = b := ⟨_, rfl⟩
  obtain ⟨b1, h1⟩ : ∃ b, decide (k = kPath) = b := ⟨_, rfl⟩
  obtain ⟨b2, h2⟩ : ∃ b, decide (k = kSize) = b := ⟨_, rfl⟩
  obtain ⟨t0, t1, t2⟩ := key_tests k b0 b1 b2 h0 h1 h2
  rw [h0, h1, h2] at hB
  have HB := Lib.hid hB
  have T0 := Lib.hid t0; have T1 := Lib.hid t1; have T2 := Lib.hid t2
  clear V h0 h1 h2 hB t0 t1 t2
  go_enter Tryd.func59, Tryd.ntmps59
  go_wp2_with fail
  clear c0 c1 c2
  go_loop [6] (fun i => PermRel b0 b1 b2 i) (fun i => 3 - (intOf i).toNat)
  case atStart => exact .inl rfl
  case round =>
    rcases hrel with rfl | ⟨rfl, x0⟩ | ⟨rfl, x0, x1⟩ | ⟨rfl, x0, x1, x2⟩
    · have t := T0.out
      have hix := idx_keys w #[.string kLink, .string kPath, .string kSize] 0 (by decide) _ rfl
      change (Instr.index 105 _ (.int .i64 0)).run Tryd.prog w = _ at hix
      cases b0 with
      | true =>
        go_wp2
        go_ret
        exact ⟨by rw [HB.out]; rfl, rfl⟩
      | false =>
        go_wp2
        go_round
        case rel => exact .inr (.inl ⟨rfl, rfl⟩)
        case measure => simp [intOf]
    · have t := T1.out
      have hix := idx_keys w #[.string kLink, .string kPath, .string kSize] 1 (by decide) _ rfl
      change (Instr.index 105 _ (.int .i64 1)).run Tryd.prog w = _ at hix
      have X0 := Lib.hid x0
      clear x0
      cases b1 with
      | true =>
        go_wp2
        go_ret
        exact ⟨by rw [HB.out, X0.out]; rfl, rfl⟩
      | false =>
        go_wp2
        go_round
        case rel => exact .inr (.inr (.inl ⟨rfl, X0.out, rfl⟩))
        case measure => simp [intOf]
    · have t := T2.out
      have hix := idx_keys w #[.string kLink, .string kPath, .string kSize] 2 (by decide) _ rfl
      change (Instr.index 105 _ (.int .i64 2)).run Tryd.prog w = _ at hix
      have X0 := Lib.hid x0; have X1 := Lib.hid x1
      clear x0 x1
      cases b2 with
      | true =>
        go_wp2
        go_ret
        exact ⟨by rw [HB.out, X0.out, X1.out]; rfl, rfl⟩
      | false =>
        go_wp2
        go_round
        case rel => exact .inr (.inr (.inr ⟨rfl, X0.out, X1.out, rfl⟩))
        case measure => simp [intOf]
    · have X0 := Lib.hid x0; have X1 := Lib.hid x1; have X2 := Lib.hid x2
      clear x0 x1 x2
      go_wp2
      go_ret
      exact ⟨by rw [HB.out, X0.out, X1.out, X2.out]; rfl, rfl⟩

set_option maxHeartbeats 1000000 in
theorem ctext_any (v : ByteArray) (w : World) (hv : v.size ≤ maxLen) : Calls Tryd.prog 61 #[.string v] w fun e w' => e = .returned (.int .i64 (chkT v)) ∧ w = w' := by
  unfold maxLen at hv
  obtain ⟨R, hR⟩ := named (chkT v)
  rw [← hR.out]
  by_cases h1 : 65536 < v.size
  · have e := Lib.hid (show R = 7 by rw [hR.out]; unfold chkT; rw [if_pos h1])
    have m1 : (65536 : Int) < v.size := by omega
    clear h1 hR
    go_enter Tryd.func61, Tryd.ntmps61
    go_wp2
    go_ret
    exact ⟨by rw [e.out]; rfl, rfl⟩
  · have m1 : ¬ (65536 : Int) < v.size := by omega
    obtain ⟨k, hk⟩ := named (Lib.indexByte v.data.toList 0)
    have hk0 := idx_str v
    rw [← hk.out] at hk0
    by_cases h2 : v = { data := #[] }
    · have e := Lib.hid (show R = 6 by rw [hR.out]; unfold chkT; rw [if_neg h1, if_pos (.inl (by rw [h2]; rfl))])
      have hi : v.toList.isEmpty = true := by rw [h2, ByteArray.toList_eq]; rfl
      have hi2 : v.toList = [] := by rw [h2, ByteArray.toList_eq]
      clear h1 hR h2 hk0 hi2
      go_enter Tryd.func61, Tryd.ntmps61
      go_wp2
      go_ret
      exact ⟨by rw [e.out]; rfl, rfl⟩
    · have hi := empty_no h2
      have hs0 : v.size ≠ 0 := fun e => h2 (nums_inj (by rw [List.length_eq_zero_iff.1 ((numsOf_length v).trans e)]; rfl))
      by_cases h3 : (0 : Int) ∈ numsOf v
      · have e := Lib.hid (show R = 6 by rw [hR.out]; unfold chkT; rw [if_neg h1, if_pos (.inr h3)])
        have m2 : 0 ≤ k := hk0.2 h3
        clear h1 hR h2 hk0 h3 hs0
        go_enter Tryd.func61, Tryd.ntmps61
        go_wp2_with fail
        refine (Tryd.strings_IndexByte v 0 w).mono ?_; rintro e w1 ⟨rfl, rfl⟩
        rw [show (0 : Int).toNat.toUInt8 = 0 from rfl, ← hk.out]
        go_wp2
        go_ret
        exact ⟨by rw [e.out]; rfl, rfl⟩
      · have e := Lib.hid (show R = 0 by rw [hR.out]; unfold chkT; rw [if_neg h1, if_neg (fun h => h.elim hs0 h3)])
        have m2 : ¬ 0 ≤ k := fun h => h3 (hk0.1 h)
        clear h1 hR h2 hk0 h3 hs0
        go_enter Tryd.func61, Tryd.ntmps61
        go_wp2_with fail
        refine (Tryd.strings_IndexByte v 0 w).mono ?_; rintro e w1 ⟨rfl, rfl⟩
        rw [show (0 : Int).toNat.toUInt8 = 0 from rfl, ← hk.out]
        go_wp2
        go_ret
        exact ⟨by rw [e.out]; rfl, rfl⟩

set_option maxHeartbeats 1000000 in
theorem cnum_any (v : ByteArray) (w : World) (hv : v.size ≤ maxLen) : Calls Tryd.prog 60 #[.string v] w fun e w' => e = .returned (.int .i64 (chkS v)) ∧ Below w.heap.size w w' := by
  obtain ⟨R, hR⟩ := named (chkS v)
  rw [← hR.out]
  have P := pnum_any v w hv
  obtain ⟨n, hn⟩ := named (pnV (numsOf v))
  obtain ⟨B, hB⟩ := named (decOk (numsOf v))
  rw [← hn.out, ← hB.out] at P
  have HP := Lib.hid P
  clear P
  by_cases h1 : decOk (numsOf v) = false
  · have e := Lib.hid (show R = 6 by rw [hR.out]; unfold chkS; rw [if_pos h1])
    have b := hB.out.trans h1
    subst b
    clear hB hR hn h1
    go_enter Tryd.func60, Tryd.ntmps60
    go_wp2_with fail
    refine HP.out.mono ?_; rintro e w1 ⟨rfl, b1⟩
    go_wp2
    go_ret
    exact ⟨by rw [e.out]; rfl, b1⟩
  · have h1' : decOk (numsOf v) = true := by simpa using h1
    have b := hB.out.trans h1'
    have en := hn.out
    unfold pnV at en
    rw [if_pos h1'] at en
    by_cases h2 : 1099511627776 < decV (numsOf v)
    · have e := Lib.hid (show R = 3 by rw [hR.out]; unfold chkS; rw [if_neg h1, if_pos h2])
      have m : (1099511627776 : Int) < n := by omega
      subst b
      clear hB hR hn h1 h1' en h2
      go_enter Tryd.func60, Tryd.ntmps60
      go_wp2_with fail
      refine HP.out.mono ?_; rintro e w1 ⟨rfl, b1⟩
      go_wp2
      go_ret
      exact ⟨by rw [e.out]; rfl, b1⟩
    · have e := Lib.hid (show R = 0 by rw [hR.out]; unfold chkS; rw [if_neg h1, if_neg h2])
      have m : ¬ (1099511627776 : Int) < n := by omega
      subst b
      clear hB hR hn h1 h1' en h2
      go_enter Tryd.func60, Tryd.ntmps60
      go_wp2_with fail
      refine HP.out.mono ?_; rintro e w1 ⟨rfl, b1⟩
      go_wp2
      go_ret
      exact ⟨by rw [e.out]; rfl, b1⟩

/-- a record as a value -/
abbrev rv (r : Rec) : Value := .agg #[.string r.1, .string r.2]

set_option maxHeartbeats 1000000 in
theorem check_any (k v : ByteArray) (w : World) (V : Vars w) (hv : v.size ≤ maxLen) : Calls Tryd.prog 44 #[.agg #[.string k, .string v]] w fun e w' => e = .returned (.int .i64 (chk (k, v))) ∧ Below w.heap.size w w' := by
  obtain ⟨R, hR⟩ := named (chk (k, v))
  rw [← hR.out]
  have HP := Lib.hid fun (B : Bool) hB (w' : World) (hb : Below w.heap.size w w') => perm_any k w' (V.go hb) B hB
  have HT := Lib.hid fun (w' : World) => ctext_any v w' hv
  have HS := Lib.hid fun (w' : World) => cnum_any v w' hv
  have b0 : Hid (Below w.heap.size w (w.alloc (.cells #[.string k, .string v] 38))) := (Below.refl _ w).alloc (Nat.le_refl _) _
  have hd := hR.out
  unfold chk at hd
  dsimp only at hd
  by_cases h1 : k = kLink ∨ k = kPath
  · rw [if_pos h1] at hd
    have h3 : k ≠ kSize := by rcases h1 with rfl | rfl <;> decide
    have t3 := (key_tests k _ _ _ rfl rfl rfl).2.2
    rw [decide_eq_false h3] at t3
    have hp : (true : Bool) = (decide (k = kLink) || decide (k = kPath) || decide (k = kSize)) := by
      rcases h1 with rfl | rfl <;> decide
    have HPP := Lib.hid fun w' hb => HP.out true hp w' hb
    have HD := Lib.hid hd
    clear hR hd h1 h3 hp HP
    go_enter Tryd.func44, Tryd.ntmps44
    go_wp2_with fail
    refine (HPP.out _ b0.out).mono ?_; rintro e w1 ⟨rfl, rfl⟩
    go_wp2_with fail
    refine (HT.out _).mono ?_; rintro e w1 ⟨rfl, rfl⟩
    go_wp2
    go_ret
    exact ⟨by rw [HD.out]; rfl, b0.out⟩
  · rw [if_neg h1] at hd
    by_cases h2 : k = kSize
    · rw [if_pos h2] at hd
      have t3 := (key_tests k _ _ _ rfl rfl rfl).2.2
      rw [decide_eq_true h2] at t3
      have hp : (true : Bool) = (decide (k = kLink) || decide (k = kPath) || decide (k = kSize)) := by
        rw [h2]; decide
      have HPP := Lib.hid fun w' hb => HP.out true hp w' hb
      have HD := Lib.hid hd
      clear hR hd h1 h2 hp HP
      go_enter Tryd.func44, Tryd.ntmps44
      go_wp2_with fail
      refine (HPP.out _ b0.out).mono ?_; rintro e w1 ⟨rfl, rfl⟩
      go_wp2_with fail
      refine (HS.out _).mono ?_; rintro e w1 ⟨rfl, b1⟩
      have B1 := Lib.hid b1
      clear b1
      go_wp2
      go_ret
      exact ⟨by rw [HD.out]; rfl, b0.out.trans (B1.out.mono (by simp))⟩
    · rw [if_neg h2] at hd
      have hp : (false : Bool) = (decide (k = kLink) || decide (k = kPath) || decide (k = kSize)) := by
        rw [decide_eq_false (fun h => h1 (.inl h)), decide_eq_false (fun h => h1 (.inr h)), decide_eq_false h2]; rfl
      have HPP := Lib.hid fun w' hb => HP.out false hp w' hb
      have HD := Lib.hid hd
      clear hR hd h1 h2 hp HP
      go_enter Tryd.func44, Tryd.ntmps44
      go_wp2_with fail
      refine (HPP.out _ b0.out).mono ?_; rintro e w1 ⟨rfl, rfl⟩
      go_wp2
      go_ret
      exact ⟨by rw [HD.out]; rfl, b0.out⟩
end Go.Proofs.YtokjmehecfjhmaaDoor.Pxr
