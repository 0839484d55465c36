/-
  PathnameLengthLimit, walked.
-/
import Derived.Test.YtkanpikjfpljeaaPnmAlive
import Derived.Test.YtkanpikjfpljeaaArr
import Derived.Test.YtkanpikjfpljeaaSwitch
import Derived.Deep.RegionHeld3
namespace Go.Proofs.Ytkanpikjfpljeaa
open Go.RowKit
open Pnm

theorem rep_ok {n : Nat} (h : 3 ≤ n) : pathOk (List.replicate n 97) := by
  rw [pathOk_one (fun hm => by have := (List.mem_replicate.1 hm).2; omega)]
  have hl := List.length_replicate (n := n) (a := (97 : Int))
  refine ⟨fun e => ?_, fun e => ?_, fun e => ?_, fun hm => by have := (List.mem_replicate.1 hm).2; omega⟩ <;> (rw [e] at hl; simp at hl; omega)

set_option maxRecDepth 100000 in
set_option maxHeartbeats 4000000 in
theorem walk_PathnameLengthLimit (n c : Int) (w : World) (hn : (Lit.int .u8 n).wf = true) (hc : (Lit.int .u8 c).wf = true) :
    Calls Try.prog 10 #[.int .u8 n, .int .u8 c] w fun e w' => e = .returned (.bool true) ∧ Below w.heap.size w w' := by
  obtain ⟨n0, n1⟩ := bounds_u8 hn
  have HCB := Lib.hid (bounds_u8 hc)
  clear hn hc
  obtain ⟨m, hm⟩ : ∃ m : Nat, n % 5 = m := ⟨(n % 5).toNat, by omega⟩
  have hm5 : m < 5 := by omega
  obtain ⟨k, hk⟩ : ∃ k : Nat, (65534 : Int) + m = k := ⟨65534 + m, by omega⟩
  have hk1 : 65534 ≤ k ∧ k ≤ 65538 := by omega
  have hw : IntKind.i64.wrap (65534 + (m : Int)) = k := by rw [hk]; exact wrapP (by omega) (by omega)
  obtain ⟨S, hS⟩ := named (⟨(Lib.repeatL [97] k).toArray⟩ : ByteArray)
  have HN : Hid (numsOf S = List.replicate k 97) := by show _ = _; rw [hS.out]; exact nums_rep 97 k
  have hz : S.size = k := by rw [← numsOf_length, HN.out, List.length_replicate]
  have HK := Lib.hid hk1
  have SM : Hid (S.size ≤ maxLen) := by show _ ≤ _; unfold maxLen; omega
  clear hk1
  go_enter Try.func10, Try.ntmps10
  go_wp2_with fail
  refine (Try.strings_Repeat ⟨#[97]⟩ k w (by have := HK.out; omega) (by show 1 * k ≤ _; have := HK.out; omega)).mono ?_; rintro e w1 ⟨rfl, b1⟩
  have B1 := Lib.hid b1; clear b1
  rw [show (⟨#[97]⟩ : ByteArray).data.toList = [97] from rfl, ← hS.out]
  go_wp2_with fail
  refine (pcheck S w1 SM.out).mono ?_; rintro e w2 ⟨rfl, b2⟩
  have B2 := Lib.hid (B1.out.trans (b2.mono B1.out.size)); clear b2
  by_cases hbig : k ≤ 65536
  · have hb1 : (k : Int) ≤ 65536 := by omega
    have e0 : chE (numsOf S) = 0 := chE_zero.2 ⟨by rw [numsOf_length, hz]; exact hbig, by rw [HN.out]; exact rep_ok (by have := HK.out; omega)⟩
    rw [e0]
    clear hbig
    go_wp2_with fail
    refine (alive_any w2).mono ?_; rintro e w3 ⟨rfl, b3⟩
    have B3 := Lib.hid (B2.out.trans (b3.mono B2.out.size)); clear b3
    go_wp2_with fail
    go_ret
    exact ⟨rfl, B3.out⟩
  · have hb1 : ¬ (k : Int) ≤ 65536 := by omega
    have e7 : chE (numsOf S) = 7 := by unfold chE; rw [if_pos (by rw [numsOf_length, hz]; omega)]
    rw [e7]
    obtain ⟨ST, hST⟩ := named (strOfNums [c])
    have zT : ST.size = 1 := by rw [hST.out, size_str (fun z h => by rw [List.mem_singleton.1 h]; exact HCB.out)]; rfl
    obtain ⟨q, hq⟩ : ∃ q, q + 1 = k := ⟨k - 1, by omega⟩
    have qw : IntKind.i64.wrap ((k : Int) - 1) = (q : Int) := by rw [show (k : Int) - 1 = (q : Int) by omega]; exact wrapP (by omega) (by omega)
    have m2 : (q : Int) ≤ k := by omega
    obtain ⟨X, hX⟩ : ∃ X, S.extract 0 q = X := ⟨_, rfl⟩
    have zX : X.size = q := by rw [← hX, ← numsOf_length, nums_ext, List.length_take, List.length_drop, numsOf_length, hz]; omega
    have HQ := Lib.hid hq
    have q2 : ¬ 9223372036854775807 < q + 1 := by have := HK.out; omega
    clear hq
    have KD : Hid (∀ w3 : World, w3 = (w2.alloc (.cells #[.int .u8 c] 5 (0, 0))).drew → (fun w' => (convert 35 9 (.slice (some ⟨w2.heap.size, 0, none⟩) 1 1)).run Try.prog w' = .ok (.string ST) w') w3) := fun w3 hx => by
      have hg : w3.heap[w2.heap.size]? = some (.cells #[.int .u8 c] 5 (0, 0)) := by rw [hx]; exact heap_alloc_new w2 _
      have hr : RowAt w3 w2.heap.size 0 [c] := ⟨fun i hi => by
        have : i = 0 := by simp at hi; exact hi
        subst this
        rw [cell_of_row _ _ _ _ _ _ hg]; rfl, fun z h => by rw [List.mem_singleton.1 h]; exact HCB.out⟩
      rw [hST.out]
      exact run_str_of Try.underlying35 Try.underlying5 Try.underlying9 hr 1 1 rfl
    go_wp2_with fail
    refine wp_region_held_drew (S := (fun _ => True)) (by kernel_rfl) (True.intro) (fun hHeld => ?_)
    refine wpAnyH_take (i := 0) (oi := { dst := some 23, op := Go.Op.move (Go.Operand.tmp 5), type := 9, pos := "law.go:106", after := #[], guard := none }) (v := ?_) rfl (by kernel_rfl) (by kernel_rfl) (by kernel_rfl) (fun _ _ _ h => h) (Or.inl ⟨by rfl, ?_⟩) (by assumption) ?_
    rotate_left 1
    focus ((intro wS hSw; (try dsimp only at hSw); go_simp) <;> (try with_reducible rfl))
    simp only [Act.put, List.setIfInBounds_toArray, List.set_cons_zero, List.set_cons_succ]
    refine wpAnyH_take (i := 1) (oi := { dst := some 24, op := Go.Op.move (Go.Operand.tmp 5), type := 9, pos := "law.go:106", after := #[], guard := none }) (v := ?_) rfl (by kernel_rfl) (by kernel_rfl) (by kernel_rfl) (fun _ _ _ h => h) (Or.inl ⟨by rfl, ?_⟩) (by assumption) ?_
    rotate_left 1
    focus ((intro wS hSw; (try dsimp only at hSw); go_simp) <;> (try with_reducible rfl))
    simp only [Act.put, List.setIfInBounds_toArray, List.set_cons_zero, List.set_cons_succ]
    refine wpAnyH_take (i := 2) (oi := { dst := some 25, op := Go.Op.call { callee := Go.Callee.builtin Go.Builtin.len, args := #[Go.Operand.tmp 24], argTypes := #[9] }, type := 3, pos := "law.go:106", after := #[{ on := 1, ground := Go.Ground.data }], guard := none }) (v := ?_) rfl (by kernel_rfl) (by kernel_rfl) (by kernel_rfl) (fun _ _ _ h => h) (Or.inl ⟨by rfl, ?_⟩) (by assumption) ?_
    rotate_left 1
    focus ((intro wS hSw; (try dsimp only at hSw); go_simp) <;> (try with_reducible rfl))
    simp only [Act.put, List.setIfInBounds_toArray, List.set_cons_zero, List.set_cons_succ]
    refine wpAnyH_take (i := 3) (oi := { dst := some 26, op := Go.Op.binOp Go.BinOp.sub 3 (Go.Operand.tmp 25) (Go.Operand.const (Go.Value.int Go.IntKind.i64 1)) 3, type := 3, pos := "law.go:106", after := #[{ on := 2, ground := Go.Ground.data }], guard := none }) (v := ?_) rfl (by kernel_rfl) (by kernel_rfl) (by kernel_rfl) (fun _ _ _ h => h) (Or.inl ⟨by rfl, ?_⟩) (by assumption) ?_
    rotate_left 1
    focus ((intro wS hSw; (try dsimp only at hSw); go_simp) <;> (try with_reducible rfl))
    simp only [Act.put, List.setIfInBounds_toArray, List.set_cons_zero, List.set_cons_succ]
    refine wpAnyH_take (i := 4) (oi := { dst := some 27, op := Go.Op.slice 9 (Go.Operand.tmp 23) none (some (Go.Operand.tmp 26)) none, type := 9, pos := "law.go:106", after := #[{ on := 0, ground := Go.Ground.data }, { on := 3, ground := Go.Ground.data }], guard := none }) (v := ?_) rfl (by kernel_rfl) (by kernel_rfl) (by kernel_rfl) (fun _ _ _ h => h) (Or.inl ⟨by rfl, ?_⟩) (by assumption) ?_
    rotate_left 1
    focus ((intro wS hSw; (try dsimp only at hSw); go_simp) <;> (try with_reducible rfl))
    simp only [Act.put, List.setIfInBounds_toArray, List.set_cons_zero, List.set_cons_succ]
    refine wpAnyH_take (i := 5) (oi := { dst := some 28, op := Go.Op.move (Go.Operand.tmp 1), type := 5, pos := "law.go:106", after := #[], guard := none }) (v := ?_) rfl (by kernel_rfl) (by kernel_rfl) (by kernel_rfl) (fun _ _ _ h => h) (Or.inl ⟨by rfl, ?_⟩) (by assumption) ?_
    rotate_left 1
    focus ((intro wS hSw; (try dsimp only at hSw); go_simp) <;> (try with_reducible rfl))
    simp only [Act.put, List.setIfInBounds_toArray, List.set_cons_zero, List.set_cons_succ]
    refine wpAnyH_ready (rs := [6]) (by kernel_rfl) (by simp) ?_
    refine AllReadyH.cons (o := { dst := some 29, op := Go.Op.buildSlice 35 1 #[(0, Go.Operand.tmp 28)], type := 35, pos := "law.go:106", after := #[{ on := 5, ground := Go.Ground.data }], guard := none }) rfl (fun K hK => ?_) AllReadyH.nil
    go_simp
    obtain ⟨w3, h3⟩ := named ((w2.alloc (.cells #[.int .u8 c] 5 (0, 0))).drew)
    rw [← h3.out]
    refine hK.out _ _ (True.intro) (fun hHeld => ?_)
    clear hK K
    (try simp only [Act.put, List.setIfInBounds_toArray, List.set_cons_zero, List.set_cons_succ])
    refine wpAnyH_switch (S2 := (fun w' => (convert 35 9 (.slice (some ⟨w2.heap.size, 0, none⟩) 1 1)).run Try.prog w' = .ok (.string ST) w')) (fun _ _ => True.intro) ?_
    have hHeld : ((fun w' => (convert 35 9 (.slice (some ⟨w2.heap.size, 0, none⟩) 1 1)).run Try.prog w' = .ok (.string ST) w')) _ := KD.out w3 h3.out
    refine wpAnyH_take (i := 7) (oi := { dst := some 30, op := Go.Op.convert 35 9 (Go.Operand.tmp 29), type := 9, pos := "law.go:106", after := #[{ on := 6, ground := Go.Ground.data }], guard := none }) (v := ?_) rfl (by kernel_rfl) (by kernel_rfl) (by kernel_rfl) (fun _ _ _ h => h) (Or.inl ⟨by rfl, ?_⟩) (by assumption) ?_
    rotate_left 1
    focus ((intro wS hSw; (try dsimp only at hSw); go_simp) <;> (try with_reducible rfl))
    simp only [Act.put, List.setIfInBounds_toArray, List.set_cons_zero, List.set_cons_succ]
    refine wpAnyH_take (i := 8) (oi := { dst := some 31, op := Go.Op.binOp Go.BinOp.add 9 (Go.Operand.tmp 27) (Go.Operand.tmp 30) 9, type := 9, pos := "law.go:106", after := #[{ on := 4, ground := Go.Ground.data }, { on := 7, ground := Go.Ground.data }], guard := none }) (v := ?_) rfl (by kernel_rfl) (by kernel_rfl) (by kernel_rfl) (fun _ _ _ h => h) (Or.inl ⟨by rfl, ?_⟩) (by assumption) ?_
    rotate_left 1
    focus ((intro wS hSw; (try dsimp only at hSw); go_simp) <;> (try with_reducible rfl))
    simp only [Act.put, List.setIfInBounds_toArray, List.set_cons_zero, List.set_cons_succ]
    refine wpAnyH_take (i := 9) (oi := { dst := some 7, op := Go.Op.assign (Go.Operand.tmp 31), type := 9, pos := "law.go:106", after := #[{ on := 8, ground := Go.Ground.data }, { on := 0, ground := Go.Ground.phase }, { on := 1, ground := Go.Ground.phase }, { on := 2, ground := Go.Ground.phase }, { on := 3, ground := Go.Ground.phase }, { on := 4, ground := Go.Ground.phase }, { on := 5, ground := Go.Ground.phase }, { on := 6, ground := Go.Ground.phase }, { on := 7, ground := Go.Ground.phase }, { on := 8, ground := Go.Ground.phase }], guard := none }) (v := ?_) rfl (by kernel_rfl) (by kernel_rfl) (by kernel_rfl) (fun _ _ _ h => h) (Or.inl ⟨by rfl, ?_⟩) (by assumption) ?_
    rotate_left 1
    focus ((intro wS hSw; (try dsimp only at hSw); go_simp) <;> (try with_reducible rfl))
    simp only [Act.put, List.setIfInBounds_toArray, List.set_cons_zero, List.set_cons_succ]
    refine wpAnyH_done (by kernel_rfl) ?_ _
    have B3 : Hid (Below w.heap.size w w3) := by
      show Below _ _ _
      rw [h3.out]
      exact ((B2.out.alloc B2.out.size _)).drew
    go_wp2_with fail
    refine (alive_any w3).mono ?_; rintro e w4 ⟨rfl, b4⟩
    have B4 := Lib.hid (B3.out.trans (b4.mono B3.out.size)); clear b4
    have hl : (numsOf (X ++ ST)).length = k := by rw [nums_cat, List.length_append, numsOf_length, numsOf_length, zX, zT]; exact HQ.out
    have HLX := Lib.hid hl
    have EX : Hid (chE (numsOf (X ++ ST)) = 7) := by show _ = _; unfold chE; rw [if_pos (by rw [hl]; omega)]
    clear hl
    go_wp2_with fail
    refine (pcheck (X ++ ST) w4 (by rw [← numsOf_length, HLX.out]; unfold maxLen; have := HK.out; omega)).mono ?_; rintro e w5 ⟨rfl, b5⟩
    rw [EX.out]
    have B5 := Lib.hid (B4.out.trans (b5.mono B4.out.size)); clear b5
    go_wp2_with fail
    go_ret
    exact ⟨rfl, B5.out⟩
end Go.Proofs.Ytkanpikjfpljeaa
