/- PxrRTake -/
import Derived.Test.YtbbaleambgaanaaGreatDoorQ25
import Derived.Test.YtbbaleambgaanaaGreatDoorQ17
import Derived.Test.YtbbaleambgaanaaGreatDoorQ11
import Derived.Test.YtbbaleambgaanaaGreatDoorQ26
import Derived.Test.YtbbaleambgaanaaGreatDoorQ8
namespace Go.Proofs.YtbbaleambgaanaaGreatDoor.Pxr
open Go.RowKit
theorem results_obj_two {P : Program} {w : World} {fn : Func} {p q r : Tmp} {T : TypeId} {n : Nat} (h : fn.results = #[.cell p T, .tmp q, .tmp r]) (hT : ObjT P T n) (tmps : Array Value) (g : Nat) (hp : tmps.getD p undef = .pointer (some ⟨g, 0, none⟩))
    (T' : TypeId) (vs : List Value) (hg : ObjAt w g T' vs) (hl : vs.length = n) : (results fn tmps).run P w = .ok (.tuple #[.agg vs.toArray, tmps.getD q undef, tmps.getD r undef]) w := by
  have hp' : tmps[p]?.getD undef = .pointer (some ⟨g, 0, none⟩) := by simpa using hp
  simp [results, h, hp', asAddr, run_load_obj hT g T' vs hg hl]
set_option maxHeartbeats 4000000 in
set_option maxRecDepth 100000 in
theorem tk_none (s : ByteArray) (w : World) (I : Int)
    (C1 : Hid (∀ w', Calls Tryz.prog 162 #[.string s, .int .u8 32, .int .i64 0] w' fun e w'' => e = .returned (.int .i64 I) ∧ w' = w''))
    (h : I < 0) : Calls Tryz.prog 136 #[.string s] w fun e w' => e = .returned (.tuple #[.agg (rz : List Value).toArray, .int .i64 0, .int .i64 6]) ∧ Below w.heap.size w w' := by
  have HZ := Lib.hid recZ; have HO := Lib.hid recO
  go_enter Tryz.func136, Tryz.ntmps136
  go_wp2_with (first | (refine wpList_alloc_obj rfl 107 rfl rz HZ.out ?_; intro w1 g1 b1; have H1 := Lib.hid g1; have B1 := Lib.hid b1; clear g1 b1))
  refine (C1.out _).mono ?_; rintro e w2 ⟨rfl, rfl⟩
  go_wp2_with (first | (refine wpList_store_obj rfl 107 _ _ rfl w.heap.size rfl rz rz rfl 107 H1.out HO.out.2 rfl (rz_one) ?_; intro w3 g3 t3; have H3 := Lib.hid g3; have T3 := Lib.hid t3; clear g3 t3))
  exact bodyPost_ret (results_obj_two Tryz.results136 HO.out _ w.heap.size rfl _ rz H3.out rfl) rfl ⟨rfl, B1.out.trans (T3.out.below (Nat.le_refl _))⟩
set_option maxHeartbeats 4000000 in
set_option maxRecDepth 100000 in
theorem tk_nonum (s : ByteArray) (w : World) (sp : Nat)
    (C1 : Hid (∀ w', Calls Tryz.prog 162 #[.string s, .int .u8 32, .int .i64 0] w' fun e w'' => e = .returned (.int .i64 (sp : Int)) ∧ w' = w''))
    (h1 : (sp : Int) < s.size) (hss : (s.size : Int) ≤ 300000) (V F : Int)
    (C2 : Hid (∀ w', Calls Tryz.prog 87 #[.string (s.extract 0 sp), .int .i64 999999] w' fun e w'' => e = .returned (.tuple #[.int .i64 V, .int .i64 F]) ∧ w' = w''))
    (h : (F != 0) = true ∨ ((F != 0) = false ∧ (V == 0) = true)) : Calls Tryz.prog 136 #[.string s] w fun e w' => e = .returned (.tuple #[.agg (rz : List Value).toArray, .int .i64 0, .int .i64 6]) ∧ Below w.heap.size w w' := by
  have HZ := Lib.hid recZ; have HO := Lib.hid recO
  have _u1 := hss
  have h1b : (sp : Int) ≤ s.size := by omega
  have h1c : (sp : Int) ≤ 1000000 := by omega
  rcases h with h | ⟨h, h2⟩
  all_goals
    go_enter Tryz.func136, Tryz.ntmps136
    go_wp2_with (first | (refine wpList_alloc_obj rfl 107 rfl rz HZ.out ?_; intro w1 g1 b1; have H1 := Lib.hid g1; have B1 := Lib.hid b1; clear g1 b1))
    refine (C1.out _).mono ?_; rintro e w2 ⟨rfl, rfl⟩
    go_wp2_with fail
    refine (C2.out _).mono ?_; rintro e w2 ⟨rfl, rfl⟩
    go_wp2_with (first | (refine wpList_store_obj rfl 107 _ _ rfl w.heap.size rfl rz rz rfl 107 H1.out HO.out.2 rfl (rz_one) ?_; intro w3 g3 t3; have H3 := Lib.hid g3; have T3 := Lib.hid t3; clear g3 t3))
    exact bodyPost_ret (results_obj_two Tryz.results136 HO.out _ w.heap.size rfl _ rz H3.out rfl) rfl ⟨rfl, B1.out.trans (T3.out.below (Nat.le_refl _))⟩
set_option maxHeartbeats 4000000 in
set_option maxRecDepth 100000 in
theorem tk_trunc (s : ByteArray) (w : World) (sp : Nat)
    (C1 : Hid (∀ w', Calls Tryz.prog 162 #[.string s, .int .u8 32, .int .i64 0] w' fun e w'' => e = .returned (.int .i64 (sp : Int)) ∧ w' = w''))
    (h1 : (sp : Int) < s.size) (hss : (s.size : Int) ≤ 300000) (n : Nat)
    (C2 : Hid (∀ w', Calls Tryz.prog 87 #[.string (s.extract 0 sp), .int .i64 999999] w' fun e w'' => e = .returned (.tuple #[.int .i64 (n : Int), .int .i64 0]) ∧ w' = w''))
    (hn0 : ((n : Int) == 0) = false)
    (h : (s.size : Int) < n) : Calls Tryz.prog 136 #[.string s] w fun e w' => e = .returned (.tuple #[.agg (rz : List Value).toArray, .int .i64 0, .int .i64 5]) ∧ Below w.heap.size w w' := by
  have HZ := Lib.hid recZ; have HO := Lib.hid recO
  have _u1 := hss
  have h1b : (sp : Int) ≤ s.size := by omega
  have h1c : (sp : Int) ≤ 1000000 := by omega
  go_enter Tryz.func136, Tryz.ntmps136
  go_wp2_with (first | (refine wpList_alloc_obj rfl 107 rfl rz HZ.out ?_; intro w1 g1 b1; have H1 := Lib.hid g1; have B1 := Lib.hid b1; clear g1 b1))
  refine (C1.out _).mono ?_; rintro e w2 ⟨rfl, rfl⟩
  go_wp2_with fail
  refine (C2.out _).mono ?_; rintro e w2 ⟨rfl, rfl⟩
  go_wp2_with (first | (refine wpList_store_obj rfl 107 _ _ rfl w.heap.size rfl rz rz rfl 107 H1.out HO.out.2 rfl (rz_one) ?_; intro w3 g3 t3; have H3 := Lib.hid g3; have T3 := Lib.hid t3; clear g3 t3))
  exact bodyPost_ret (results_obj_two Tryz.results136 HO.out _ w.heap.size rfl _ rz H3.out rfl) rfl ⟨rfl, B1.out.trans (T3.out.below (Nat.le_refl _))⟩
set_option maxHeartbeats 4000000 in
set_option maxRecDepth 100000 in
theorem tk_short (s : ByteArray) (w : World) (sp : Nat)
    (C1 : Hid (∀ w', Calls Tryz.prog 162 #[.string s, .int .u8 32, .int .i64 0] w' fun e w'' => e = .returned (.int .i64 (sp : Int)) ∧ w' = w''))
    (h1 : (sp : Int) < s.size) (hss : (s.size : Int) ≤ 300000) (n : Nat)
    (C2 : Hid (∀ w', Calls Tryz.prog 87 #[.string (s.extract 0 sp), .int .i64 999999] w' fun e w'' => e = .returned (.tuple #[.int .i64 (n : Int), .int .i64 0]) ∧ w' = w''))
    (hn0 : ((n : Int) == 0) = false)
    (h3 : ¬ (s.size : Int) < n)
    (h : (n : Int) < (sp : Int) + 2) : Calls Tryz.prog 136 #[.string s] w fun e w' => e = .returned (.tuple #[.agg (rz : List Value).toArray, .int .i64 0, .int .i64 6]) ∧ Below w.heap.size w w' := by
  have HZ := Lib.hid recZ; have HO := Lib.hid recO
  have _u1 := hss
  have h1b : (sp : Int) ≤ s.size := by omega
  have h1c : (sp : Int) ≤ 1000000 := by omega
  go_enter Tryz.func136, Tryz.ntmps136
  go_wp2_with (first | (refine wpList_alloc_obj rfl 107 rfl rz HZ.out ?_; intro w1 g1 b1; have H1 := Lib.hid g1; have B1 := Lib.hid b1; clear g1 b1))
  refine (C1.out _).mono ?_; rintro e w2 ⟨rfl, rfl⟩
  go_wp2_with fail
  refine (C2.out _).mono ?_; rintro e w2 ⟨rfl, rfl⟩
  go_wp2_with (first | (refine wpList_store_obj rfl 107 _ _ rfl w.heap.size rfl rz rz rfl 107 H1.out HO.out.2 rfl (rz_one) ?_; intro w3 g3 t3; have H3 := Lib.hid g3; have T3 := Lib.hid t3; clear g3 t3))
  exact bodyPost_ret (results_obj_two Tryz.results136 HO.out _ w.heap.size rfl _ rz H3.out rfl) rfl ⟨rfl, B1.out.trans (T3.out.below (Nat.le_refl _))⟩
set_option maxHeartbeats 4000000 in
set_option maxRecDepth 100000 in
theorem tk_nonl (s : ByteArray) (w : World) (sp : Nat)
    (C1 : Hid (∀ w', Calls Tryz.prog 162 #[.string s, .int .u8 32, .int .i64 0] w' fun e w'' => e = .returned (.int .i64 (sp : Int)) ∧ w' = w''))
    (h1 : (sp : Int) < s.size) (hss : (s.size : Int) ≤ 300000) (n : Nat)
    (C2 : Hid (∀ w', Calls Tryz.prog 87 #[.string (s.extract 0 sp), .int .i64 999999] w' fun e w'' => e = .returned (.tuple #[.int .i64 (n : Int), .int .i64 0]) ∧ w' = w''))
    (hn0 : ((n : Int) == 0) = false)
    (h3 : ¬ (s.size : Int) < n)
    (h5 : ¬ (n : Int) < (sp : Int) + 2) (m : Nat) (hm : (n : Int) - 1 = (m : Int)) (hml : m < s.size) (x : Int) (hx : ((s[m].toNat : Nat) : Int) = x)
    (h : (x != 10) = true) : Calls Tryz.prog 136 #[.string s] w fun e w' => e = .returned (.tuple #[.agg (rz : List Value).toArray, .int .i64 0, .int .i64 6]) ∧ Below w.heap.size w w' := by
  have HZ := Lib.hid recZ; have HO := Lib.hid recO
  have _u1 := hss
  have h1b : (sp : Int) ≤ s.size := by omega
  have h1c : (sp : Int) ≤ 1000000 := by omega
  have hml2 : (m : Int) < s.size := by omega
  go_enter Tryz.func136, Tryz.ntmps136
  go_wp2_with (first | (refine wpList_alloc_obj rfl 107 rfl rz HZ.out ?_; intro w1 g1 b1; have H1 := Lib.hid g1; have B1 := Lib.hid b1; clear g1 b1))
  refine (C1.out _).mono ?_; rintro e w2 ⟨rfl, rfl⟩
  go_wp2_with fail
  refine (C2.out _).mono ?_; rintro e w2 ⟨rfl, rfl⟩
  go_wp2_with (first | (refine wpList_store_obj rfl 107 _ _ rfl w.heap.size rfl rz rz rfl 107 H1.out HO.out.2 rfl (rz_one) ?_; intro w3 g3 t3; have H3 := Lib.hid g3; have T3 := Lib.hid t3; clear g3 t3))
  exact bodyPost_ret (results_obj_two Tryz.results136 HO.out _ w.heap.size rfl _ rz H3.out rfl) rfl ⟨rfl, B1.out.trans (T3.out.below (Nat.le_refl _))⟩
set_option maxHeartbeats 4000000 in
set_option maxRecDepth 100000 in
theorem tk_noeq (s : ByteArray) (w : World) (sp : Nat)
    (C1 : Hid (∀ w', Calls Tryz.prog 162 #[.string s, .int .u8 32, .int .i64 0] w' fun e w'' => e = .returned (.int .i64 (sp : Int)) ∧ w' = w''))
    (h1 : (sp : Int) < s.size) (hss : (s.size : Int) ≤ 300000) (n : Nat)
    (C2 : Hid (∀ w', Calls Tryz.prog 87 #[.string (s.extract 0 sp), .int .i64 999999] w' fun e w'' => e = .returned (.tuple #[.int .i64 (n : Int), .int .i64 0]) ∧ w' = w''))
    (hn0 : ((n : Int) == 0) = false)
    (h3 : ¬ (s.size : Int) < n)
    (h5 : ¬ (n : Int) < (sp : Int) + 2) (m : Nat) (hm : (n : Int) - 1 = (m : Int)) (hml : m < s.size) (x : Int) (hx : ((s[m].toNat : Nat) : Int) = x) (h6 : (x != 10) = false) (J : Int)
    (C3 : Hid (∀ w', Calls Tryz.prog 162 #[.string (s.extract 0 n), .int .u8 61, .int .i64 ((sp : Int) + 1)] w' fun e w'' => e = .returned (.int .i64 J) ∧ w' = w''))
    (h : J < 0) : Calls Tryz.prog 136 #[.string s] w fun e w' => e = .returned (.tuple #[.agg (rz : List Value).toArray, .int .i64 0, .int .i64 6]) ∧ Below w.heap.size w w' := by
  have HZ := Lib.hid recZ; have HO := Lib.hid recO
  have _u1 := hss
  have h1b : (sp : Int) ≤ s.size := by omega
  have h1c : (sp : Int) ≤ 1000000 := by omega
  have hml2 : (m : Int) < s.size := by omega
  have h3b : (n : Int) ≤ s.size := by omega
  go_enter Tryz.func136, Tryz.ntmps136
  go_wp2_with (first | (refine wpList_alloc_obj rfl 107 rfl rz HZ.out ?_; intro w1 g1 b1; have H1 := Lib.hid g1; have B1 := Lib.hid b1; clear g1 b1))
  refine (C1.out _).mono ?_; rintro e w2 ⟨rfl, rfl⟩
  go_wp2_with fail
  refine (C2.out _).mono ?_; rintro e w2 ⟨rfl, rfl⟩
  go_wp2_with fail
  refine (C3.out _).mono ?_; rintro e w2 ⟨rfl, rfl⟩
  go_wp2_with (first | (refine wpList_store_obj rfl 107 _ _ rfl w.heap.size rfl rz rz rfl 107 H1.out HO.out.2 rfl (rz_one) ?_; intro w3 g3 t3; have H3 := Lib.hid g3; have T3 := Lib.hid t3; clear g3 t3))
  exact bodyPost_ret (results_obj_two Tryz.results136 HO.out _ w.heap.size rfl _ rz H3.out rfl) rfl ⟨rfl, B1.out.trans (T3.out.below (Nat.le_refl _))⟩
set_option maxHeartbeats 4000000 in
set_option maxRecDepth 100000 in
theorem tk_size (s : ByteArray) (w : World) (sp : Nat)
    (C1 : Hid (∀ w', Calls Tryz.prog 162 #[.string s, .int .u8 32, .int .i64 0] w' fun e w'' => e = .returned (.int .i64 (sp : Int)) ∧ w' = w''))
    (h1 : (sp : Int) < s.size) (hss : (s.size : Int) ≤ 300000) (n : Nat)
    (C2 : Hid (∀ w', Calls Tryz.prog 87 #[.string (s.extract 0 sp), .int .i64 999999] w' fun e w'' => e = .returned (.tuple #[.int .i64 (n : Int), .int .i64 0]) ∧ w' = w''))
    (hn0 : ((n : Int) == 0) = false)
    (h3 : ¬ (s.size : Int) < n)
    (h5 : ¬ (n : Int) < (sp : Int) + 2) (m : Nat) (hm : (n : Int) - 1 = (m : Int)) (hml : m < s.size) (x : Int) (hx : ((s[m].toNat : Nat) : Int) = x) (h6 : (x != 10) = false) (q : Nat)
    (C3 : Hid (∀ w', Calls Tryz.prog 162 #[.string (s.extract 0 n), .int .u8 61, .int .i64 ((sp : Int) + 1)] w' fun e w'' => e = .returned (.int .i64 (q : Int)) ∧ w' = w''))
    (h7 : (sp : Int) + 1 ≤ q) (h8 : (q : Int) + 1 ≤ m) (Ke Va : ByteArray) (hKe : Hid (Ke = s.extract (sp + 1) q)) (hVa : Hid (Va = s.extract (q + 1) m)) (Z : Int)
    (C5 : Hid (∀ w', Calls Tryz.prog 123 #[.agg #[.string Ke, .string Va]] w' fun e w'' => e = .returned (.int .i64 Z) ∧ Below w'.heap.size w' w''))
    (h : (Z != (n : Int)) = true) : Calls Tryz.prog 136 #[.string s] w fun e w' => e = .returned (.tuple #[.agg (rz : List Value).toArray, .int .i64 0, .int .i64 6]) ∧ Below w.heap.size w w' := by
  have HZ := Lib.hid recZ; have HO := Lib.hid recO
  have _u1 := hss
  have h1b : (sp : Int) ≤ s.size := by omega
  have h1c : (sp : Int) ≤ 1000000 := by omega
  have hml2 : (m : Int) < s.size := by omega
  have h3b : (n : Int) ≤ s.size := by omega
  have e1 : IntKind.i64.wrap ((sp : Int) + 1) = (sp : Int) + 1 := wrapP (by omega) (by omega)
  have e2 : ((sp : Int) + 1).toNat = sp + 1 := by omega
  have e3 : IntKind.i64.wrap ((q : Int) + 1) = (q : Int) + 1 := wrapP (by omega) (by omega)
  have e4 : ((q : Int) + 1).toNat = q + 1 := by omega
  have e5 : IntKind.i64.wrap (m : Int) = (m : Int) := wrapP (by omega) (by omega)
  have e6 : (0 : Int) ≤ (sp : Int) + 1 := by omega
  have e7 : (0 : Int) ≤ (q : Int) + 1 := by omega
  have e8 : (q : Int) ≤ s.size := by omega
  have e9 : (m : Int) ≤ s.size := by omega
  go_enter Tryz.func136, Tryz.ntmps136
  go_wp2_with (first | (refine wpList_alloc_obj rfl 107 rfl rz HZ.out ?_; intro w1 g1 b1; have H1 := Lib.hid g1; have B1 := Lib.hid b1; clear g1 b1))
  refine (C1.out _).mono ?_; rintro e w2 ⟨rfl, rfl⟩
  go_wp2_with fail
  refine (C2.out _).mono ?_; rintro e w2 ⟨rfl, rfl⟩
  go_wp2_with fail
  refine (C3.out _).mono ?_; rintro e w2 ⟨rfl, rfl⟩
  go_wp2_with fail
  refine wp_region_held_drew (S := (fun _ => True)) (by kernel_rfl) (trivial) (fun hHeld => ?_)
  refine tk 0 { dst := some 57, op := Go.Op.move (Go.Operand.tmp 0), type := 9, pos := "ref.go:127", after := #[], guard := none } ?_ ?_ ?_
  rotate_left 1
  focus ((intro wS hSw; (try dsimp only at hSw); go_simp) <;> (try with_reducible rfl))
  simp only [Act.put, List.setIfInBounds_toArray, List.set_cons_zero, List.set_cons_succ]
  refine tk 1 { dst := some 58, op := Go.Op.move (Go.Operand.tmp 5), type := 3, pos := "ref.go:127", after := #[], guard := none } ?_ ?_ ?_
  rotate_left 1
  focus ((intro wS hSw; (try dsimp only at hSw); go_simp) <;> (try with_reducible rfl))
  simp only [Act.put, List.setIfInBounds_toArray, List.set_cons_zero, List.set_cons_succ]
  refine tk 2 { dst := some 59, op := Go.Op.binOp Go.BinOp.add 3 (Go.Operand.tmp 58) (Go.Operand.const (Go.Value.int Go.IntKind.i64 1)) 3, type := 3, pos := "ref.go:127", after := #[{ on := 1, ground := Go.Ground.data }], guard := none } ?_ ?_ ?_
  rotate_left 1
  focus ((intro wS hSw; (try dsimp only at hSw); go_simp) <;> (try with_reducible rfl))
  simp only [Act.put, List.setIfInBounds_toArray, List.set_cons_zero, List.set_cons_succ]
  refine tk 3 { dst := some 60, op := Go.Op.move (Go.Operand.tmp 9), type := 3, pos := "ref.go:127", after := #[], guard := none } ?_ ?_ ?_
  rotate_left 1
  focus ((intro wS hSw; (try dsimp only at hSw); go_simp) <;> (try with_reducible rfl))
  simp only [Act.put, List.setIfInBounds_toArray, List.set_cons_zero, List.set_cons_succ]
  refine tk 4 { dst := some 61, op := Go.Op.slice 9 (Go.Operand.tmp 57) (some (Go.Operand.tmp 59)) (some (Go.Operand.tmp 60)) none, type := 9, pos := "ref.go:127", after := #[{ on := 0, ground := Go.Ground.data }, { on := 2, ground := Go.Ground.data }, { on := 3, ground := Go.Ground.data }], guard := none } ?_ ?_ ?_
  rotate_left 1
  focus ((intro wS hSw; (try dsimp only at hSw); go_simp) <;> (try with_reducible rfl))
  simp only [Act.put, List.setIfInBounds_toArray, List.set_cons_zero, List.set_cons_succ]
  refine tk 5 { dst := some 62, op := Go.Op.move (Go.Operand.tmp 0), type := 9, pos := "ref.go:127", after := #[], guard := none } ?_ ?_ ?_
  rotate_left 1
  focus ((intro wS hSw; (try dsimp only at hSw); go_simp) <;> (try with_reducible rfl))
  simp only [Act.put, List.setIfInBounds_toArray, List.set_cons_zero, List.set_cons_succ]
  refine tk 6 { dst := some 63, op := Go.Op.move (Go.Operand.tmp 9), type := 3, pos := "ref.go:127", after := #[], guard := none } ?_ ?_ ?_
  rotate_left 1
  focus ((intro wS hSw; (try dsimp only at hSw); go_simp) <;> (try with_reducible rfl))
  simp only [Act.put, List.setIfInBounds_toArray, List.set_cons_zero, List.set_cons_succ]
  refine tk 7 { dst := some 64, op := Go.Op.binOp Go.BinOp.add 3 (Go.Operand.tmp 63) (Go.Operand.const (Go.Value.int Go.IntKind.i64 1)) 3, type := 3, pos := "ref.go:127", after := #[{ on := 6, ground := Go.Ground.data }], guard := none } ?_ ?_ ?_
  rotate_left 1
  focus ((intro wS hSw; (try dsimp only at hSw); go_simp) <;> (try with_reducible rfl))
  simp only [Act.put, List.setIfInBounds_toArray, List.set_cons_zero, List.set_cons_succ]
  refine tk 8 { dst := some 65, op := Go.Op.move (Go.Operand.tmp 8), type := 3, pos := "ref.go:127", after := #[], guard := none } ?_ ?_ ?_
  rotate_left 1
  focus ((intro wS hSw; (try dsimp only at hSw); go_simp) <;> (try with_reducible rfl))
  simp only [Act.put, List.setIfInBounds_toArray, List.set_cons_zero, List.set_cons_succ]
  refine tk 9 { dst := some 66, op := Go.Op.binOp Go.BinOp.sub 3 (Go.Operand.tmp 65) (Go.Operand.const (Go.Value.int Go.IntKind.i64 1)) 3, type := 3, pos := "ref.go:127", after := #[{ on := 8, ground := Go.Ground.data }], guard := none } ?_ ?_ ?_
  rotate_left 1
  focus ((intro wS hSw; (try dsimp only at hSw); go_simp) <;> (try with_reducible rfl))
  simp only [Act.put, List.setIfInBounds_toArray, List.set_cons_zero, List.set_cons_succ]
  refine tk 10 { dst := some 67, op := Go.Op.slice 9 (Go.Operand.tmp 62) (some (Go.Operand.tmp 64)) (some (Go.Operand.tmp 66)) none, type := 9, pos := "ref.go:127", after := #[{ on := 5, ground := Go.Ground.data }, { on := 7, ground := Go.Ground.data }, { on := 9, ground := Go.Ground.data }], guard := none } ?_ ?_ ?_
  rotate_left 1
  focus ((intro wS hSw; (try dsimp only at hSw); go_simp) <;> (try with_reducible rfl))
  simp only [Act.put, List.setIfInBounds_toArray, List.set_cons_zero, List.set_cons_succ]
  refine tk 11 { dst := some 68, op := Go.Op.build 107 #[(0, Go.Operand.tmp 61), (1, Go.Operand.tmp 67)], type := 107, pos := "ref.go:127", after := #[{ on := 4, ground := Go.Ground.data }, { on := 10, ground := Go.Ground.data }], guard := none } ?_ ?_ ?_
  rotate_left 1
  focus ((intro wS hSw; (try dsimp only at hSw); go_simp) <;> (try with_reducible rfl))
  simp only [Act.put, List.setIfInBounds_toArray, List.set_cons_zero, List.set_cons_succ]
  refine wpAnyH_ready (rs := [12]) (by kernel_rfl) (by simp) ?_
  refine AllReadyH.cons (o := { dst := some 10, op := Go.Op.alloc 107, type := 0, pos := "ref.go:127", after := #[], guard := none }) rfl (fun K hK => ?_) AllReadyH.nil
  refine step_alloc_obj rfl 107 rfl rz HZ.out ?_
  intro w7 g7 b7
  have R7 := Lib.hid g7; have A7 := Lib.hid b7; clear g7 b7
  refine hK.out _ _ (trivial) (fun hHeld => ?_)
  clear hK K
  (try simp only [Act.put, List.setIfInBounds_toArray, List.set_cons_zero, List.set_cons_succ])
  refine wpAnyH_ready (rs := [13]) (by kernel_rfl) (by simp) ?_
  refine AllReadyH.cons (o := { dst := none, op := Go.Op.store 107 (Go.Operand.tmp 10) (Go.Operand.tmp 68), type := 0, pos := "ref.go:127", after := #[{ on := 12, ground := Go.Ground.data }, { on := 11, ground := Go.Ground.data }, { on := 0, ground := Go.Ground.phase }, { on := 1, ground := Go.Ground.phase }, { on := 2, ground := Go.Ground.phase }, { on := 3, ground := Go.Ground.phase }, { on := 4, ground := Go.Ground.phase }, { on := 5, ground := Go.Ground.phase }, { on := 6, ground := Go.Ground.phase }, { on := 7, ground := Go.Ground.phase }, { on := 8, ground := Go.Ground.phase }, { on := 9, ground := Go.Ground.phase }, { on := 10, ground := Go.Ground.phase }, { on := 11, ground := Go.Ground.phase }, { on := 12, ground := Go.Ground.phase }], guard := none }) rfl (fun K hK => ?_) AllReadyH.nil
  refine step_store_obj rfl 107 (.tmp 10) (.tmp 68) rfl w1.drew.heap.size rfl [.string Ke, .string Va] rz (by rw [hKe.out, hVa.out]; rfl) 107 R7.out HO.out.2 rfl (rec_one _ _) ?_
  intro w8 g8 t8
  have R8 := Lib.hid g8; have T8 := Lib.hid t8; clear g8 t8
  refine hK.out _ _ (trivial) (fun hHeld => ?_)
  clear hK K
  (try simp only [Act.put])
  refine wpAnyH_done (by kernel_rfl) ?_ _
  have D7 : Hid (Below w1.heap.size w1 w7) := (Below.refl _ _).drew.trans A7.out
  have D8 : Hid (Below w1.heap.size w1 w8) := D7.out.trans (T8.out.below (Nat.le_refl _))
  have H8 := Lib.hid (H1.out.below D8.out H1.out.lt)
  have B8 := Lib.hid (belT B1.out D8.out)
  have S8 : Hid (ObjAt w8 w1.heap.size 107 [.string Ke, .string Va]) := R8.out
  have c0 := S8.out.get 0 rfl
  have c1 := S8.out.get 1 rfl
  go_wp2_with fail
  refine (C5.out _).mono ?_; rintro e w9 ⟨rfl, b9⟩
  have R9 := Lib.hid (S8.out.below b9 S8.out.lt)
  have H9 := Lib.hid (H8.out.below b9 H8.out.lt)
  have B9 := Lib.hid (belT B8.out b9)
  clear b9 c0 c1
  go_wp2_with (first | (refine wpList_store_obj rfl 107 _ _ rfl w.heap.size rfl rz rz rfl 107 H9.out HO.out.2 rfl (rz_one) ?_; intro w10 g10 t10; have H10 := Lib.hid g10; have T10 := Lib.hid t10; clear g10 t10))
  exact bodyPost_ret (results_obj_two Tryz.results136 HO.out _ w.heap.size rfl _ rz H10.out rfl) rfl ⟨rfl, B9.out.trans (T10.out.below (Nat.le_refl _))⟩
set_option maxHeartbeats 4000000 in
set_option maxRecDepth 100000 in
theorem tk_good (s : ByteArray) (w : World) (sp : Nat)
    (C1 : Hid (∀ w', Calls Tryz.prog 162 #[.string s, .int .u8 32, .int .i64 0] w' fun e w'' => e = .returned (.int .i64 (sp : Int)) ∧ w' = w''))
    (h1 : (sp : Int) < s.size) (hss : (s.size : Int) ≤ 300000) (n : Nat)
    (C2 : Hid (∀ w', Calls Tryz.prog 87 #[.string (s.extract 0 sp), .int .i64 999999] w' fun e w'' => e = .returned (.tuple #[.int .i64 (n : Int), .int .i64 0]) ∧ w' = w''))
    (hn0 : ((n : Int) == 0) = false)
    (h3 : ¬ (s.size : Int) < n)
    (h5 : ¬ (n : Int) < (sp : Int) + 2) (m : Nat) (hm : (n : Int) - 1 = (m : Int)) (hml : m < s.size) (x : Int) (hx : ((s[m].toNat : Nat) : Int) = x) (h6 : (x != 10) = false) (q : Nat)
    (C3 : Hid (∀ w', Calls Tryz.prog 162 #[.string (s.extract 0 n), .int .u8 61, .int .i64 ((sp : Int) + 1)] w' fun e w'' => e = .returned (.int .i64 (q : Int)) ∧ w' = w''))
    (h7 : (sp : Int) + 1 ≤ q) (h8 : (q : Int) + 1 ≤ m) (Ke Va : ByteArray) (hKe : Hid (Ke = s.extract (sp + 1) q)) (hVa : Hid (Va = s.extract (q + 1) m)) (Z : Int)
    (C5 : Hid (∀ w', Calls Tryz.prog 123 #[.agg #[.string Ke, .string Va]] w' fun e w'' => e = .returned (.int .i64 Z) ∧ Below w'.heap.size w' w''))
    (h : (Z != (n : Int)) = false) : Calls Tryz.prog 136 #[.string s] w fun e w' => e = .returned (.tuple #[.agg ([.string Ke, .string Va] : List Value).toArray, .int .i64 (n : Int), .int .i64 0]) ∧ Below w.heap.size w w' := by
  have HZ := Lib.hid recZ; have HO := Lib.hid recO
  have _u1 := hss
  have h1b : (sp : Int) ≤ s.size := by omega
  have h1c : (sp : Int) ≤ 1000000 := by omega
  have hml2 : (m : Int) < s.size := by omega
  have h3b : (n : Int) ≤ s.size := by omega
  have e1 : IntKind.i64.wrap ((sp : Int) + 1) = (sp : Int) + 1 := wrapP (by omega) (by omega)
  have e2 : ((sp : Int) + 1).toNat = sp + 1 := by omega
  have e3 : IntKind.i64.wrap ((q : Int) + 1) = (q : Int) + 1 := wrapP (by omega) (by omega)
  have e4 : ((q : Int) + 1).toNat = q + 1 := by omega
  have e5 : IntKind.i64.wrap (m : Int) = (m : Int) := wrapP (by omega) (by omega)
  have e6 : (0 : Int) ≤ (sp : Int) + 1 := by omega
  have e7 : (0 : Int) ≤ (q : Int) + 1 := by omega
  have e8 : (q : Int) ≤ s.size := by omega
  have e9 : (m : Int) ≤ s.size := by omega
  go_enter Tryz.func136, Tryz.ntmps136
  go_wp2_with (first | (refine wpList_alloc_obj rfl 107 rfl rz HZ.out ?_; intro w1 g1 b1; have H1 := Lib.hid g1; have B1 := Lib.hid b1; clear g1 b1))
  refine (C1.out _).mono ?_; rintro e w2 ⟨rfl, rfl⟩
  go_wp2_with fail
  refine (C2.out _).mono ?_; rintro e w2 ⟨rfl, rfl⟩
  go_wp2_with fail
  refine (C3.out _).mono ?_; rintro e w2 ⟨rfl, rfl⟩
  go_wp2_with fail
  refine wp_region_held_drew (S := (fun _ => True)) (by kernel_rfl) (trivial) (fun hHeld => ?_)
  refine tk 0 { dst := some 57, op := Go.Op.move (Go.Operand.tmp 0), type := 9, pos := "ref.go:127", after := #[], guard := none } ?_ ?_ ?_
  rotate_left 1
  focus ((intro wS hSw; (try dsimp only at hSw); go_simp) <;> (try with_reducible rfl))
  simp only [Act.put, List.setIfInBounds_toArray, List.set_cons_zero, List.set_cons_succ]
  refine tk 1 { dst := some 58, op := Go.Op.move (Go.Operand.tmp 5), type := 3, pos := "ref.go:127", after := #[], guard := none } ?_ ?_ ?_
  rotate_left 1
  focus ((intro wS hSw; (try dsimp only at hSw); go_simp) <;> (try with_reducible rfl))
  simp only [Act.put, List.setIfInBounds_toArray, List.set_cons_zero, List.set_cons_succ]
  refine tk 2 { dst := some 59, op := Go.Op.binOp Go.BinOp.add 3 (Go.Operand.tmp 58) (Go.Operand.const (Go.Value.int Go.IntKind.i64 1)) 3, type := 3, pos := "ref.go:127", after := #[{ on := 1, ground := Go.Ground.data }], guard := none } ?_ ?_ ?_
  rotate_left 1
  focus ((intro wS hSw; (try dsimp only at hSw); go_simp) <;> (try with_reducible rfl))
  simp only [Act.put, List.setIfInBounds_toArray, List.set_cons_zero, List.set_cons_succ]
  refine tk 3 { dst := some 60, op := Go.Op.move (Go.Operand.tmp 9), type := 3, pos := "ref.go:127", after := #[], guard := none } ?_ ?_ ?_
  rotate_left 1
  focus ((intro wS hSw; (try dsimp only at hSw); go_simp) <;> (try with_reducible rfl))
  simp only [Act.put, List.setIfInBounds_toArray, List.set_cons_zero, List.set_cons_succ]
  refine tk 4 { dst := some 61, op := Go.Op.slice 9 (Go.Operand.tmp 57) (some (Go.Operand.tmp 59)) (some (Go.Operand.tmp 60)) none, type := 9, pos := "ref.go:127", after := #[{ on := 0, ground := Go.Ground.data }, { on := 2, ground := Go.Ground.data }, { on := 3, ground := Go.Ground.data }], guard := none } ?_ ?_ ?_
  rotate_left 1
  focus ((intro wS hSw; (try dsimp only at hSw); go_simp) <;> (try with_reducible rfl))
  simp only [Act.put, List.setIfInBounds_toArray, List.set_cons_zero, List.set_cons_succ]
  refine tk 5 { dst := some 62, op := Go.Op.move (Go.Operand.tmp 0), type := 9, pos := "ref.go:127", after := #[], guard := none } ?_ ?_ ?_
  rotate_left 1
  focus ((intro wS hSw; (try dsimp only at hSw); go_simp) <;> (try with_reducible rfl))
  simp only [Act.put, List.setIfInBounds_toArray, List.set_cons_zero, List.set_cons_succ]
  refine tk 6 { dst := some 63, op := Go.Op.move (Go.Operand.tmp 9), type := 3, pos := "ref.go:127", after := #[], guard := none } ?_ ?_ ?_
  rotate_left 1
  focus ((intro wS hSw; (try dsimp only at hSw); go_simp) <;> (try with_reducible rfl))
  simp only [Act.put, List.setIfInBounds_toArray, List.set_cons_zero, List.set_cons_succ]
  refine tk 7 { dst := some 64, op := Go.Op.binOp Go.BinOp.add 3 (Go.Operand.tmp 63) (Go.Operand.const (Go.Value.int Go.IntKind.i64 1)) 3, type := 3, pos := "ref.go:127", after := #[{ on := 6, ground := Go.Ground.data }], guard := none } ?_ ?_ ?_
  rotate_left 1
  focus ((intro wS hSw; (try dsimp only at hSw); go_simp) <;> (try with_reducible rfl))
  simp only [Act.put, List.setIfInBounds_toArray, List.set_cons_zero, List.set_cons_succ]
  refine tk 8 { dst := some 65, op := Go.Op.move (Go.Operand.tmp 8), type := 3, pos := "ref.go:127", after := #[], guard := none } ?_ ?_ ?_
  rotate_left 1
  focus ((intro wS hSw; (try dsimp only at hSw); go_simp) <;> (try with_reducible rfl))
  simp only [Act.put, List.setIfInBounds_toArray, List.set_cons_zero, List.set_cons_succ]
  refine tk 9 { dst := some 66, op := Go.Op.binOp Go.BinOp.sub 3 (Go.Operand.tmp 65) (Go.Operand.const (Go.Value.int Go.IntKind.i64 1)) 3, type := 3, pos := "ref.go:127", after := #[{ on := 8, ground := Go.Ground.data }], guard := none } ?_ ?_ ?_
  rotate_left 1
  focus ((intro wS hSw; (try dsimp only at hSw); go_simp) <;> (try with_reducible rfl))
  simp only [Act.put, List.setIfInBounds_toArray, List.set_cons_zero, List.set_cons_succ]
  refine tk 10 { dst := some 67, op := Go.Op.slice 9 (Go.Operand.tmp 62) (some (Go.Operand.tmp 64)) (some (Go.Operand.tmp 66)) none, type := 9, pos := "ref.go:127", after := #[{ on := 5, ground := Go.Ground.data }, { on := 7, ground := Go.Ground.data }, { on := 9, ground := Go.Ground.data }], guard := none } ?_ ?_ ?_
  rotate_left 1
  focus ((intro wS hSw; (try dsimp only at hSw); go_simp) <;> (try with_reducible rfl))
  simp only [Act.put, List.setIfInBounds_toArray, List.set_cons_zero, List.set_cons_succ]
  refine tk 11 { dst := some 68, op := Go.Op.build 107 #[(0, Go.Operand.tmp 61), (1, Go.Operand.tmp 67)], type := 107, pos := "ref.go:127", after := #[{ on := 4, ground := Go.Ground.data }, { on := 10, ground := Go.Ground.data }], guard := none } ?_ ?_ ?_
  rotate_left 1
  focus ((intro wS hSw; (try dsimp only at hSw); go_simp) <;> (try with_reducible rfl))
  simp only [Act.put, List.setIfInBounds_toArray, List.set_cons_zero, List.set_cons_succ]
  refine wpAnyH_ready (rs := [12]) (by kernel_rfl) (by simp) ?_
  refine AllReadyH.cons (o := { dst := some 10, op := Go.Op.alloc 107, type := 0, pos := "ref.go:127", after := #[], guard := none }) rfl (fun K hK => ?_) AllReadyH.nil
  refine step_alloc_obj rfl 107 rfl rz HZ.out ?_
  intro w7 g7 b7
  have R7 := Lib.hid g7; have A7 := Lib.hid b7; clear g7 b7
  refine hK.out _ _ (trivial) (fun hHeld => ?_)
  clear hK K
  (try simp only [Act.put, List.setIfInBounds_toArray, List.set_cons_zero, List.set_cons_succ])
  refine wpAnyH_ready (rs := [13]) (by kernel_rfl) (by simp) ?_
  refine AllReadyH.cons (o := { dst := none, op := Go.Op.store 107 (Go.Operand.tmp 10) (Go.Operand.tmp 68), type := 0, pos := "ref.go:127", after := #[{ on := 12, ground := Go.Ground.data }, { on := 11, ground := Go.Ground.data }, { on := 0, ground := Go.Ground.phase }, { on := 1, ground := Go.Ground.phase }, { on := 2, ground := Go.Ground.phase }, { on := 3, ground := Go.Ground.phase }, { on := 4, ground := Go.Ground.phase }, { on := 5, ground := Go.Ground.phase }, { on := 6, ground := Go.Ground.phase }, { on := 7, ground := Go.Ground.phase }, { on := 8, ground := Go.Ground.phase }, { on := 9, ground := Go.Ground.phase }, { on := 10, ground := Go.Ground.phase }, { on := 11, ground := Go.Ground.phase }, { on := 12, ground := Go.Ground.phase }], guard := none }) rfl (fun K hK => ?_) AllReadyH.nil
  refine step_store_obj rfl 107 (.tmp 10) (.tmp 68) rfl w1.drew.heap.size rfl [.string Ke, .string Va] rz (by rw [hKe.out, hVa.out]; rfl) 107 R7.out HO.out.2 rfl (rec_one _ _) ?_
  intro w8 g8 t8
  have R8 := Lib.hid g8; have T8 := Lib.hid t8; clear g8 t8
  refine hK.out _ _ (trivial) (fun hHeld => ?_)
  clear hK K
  (try simp only [Act.put])
  refine wpAnyH_done (by kernel_rfl) ?_ _
  have D7 : Hid (Below w1.heap.size w1 w7) := (Below.refl _ _).drew.trans A7.out
  have D8 : Hid (Below w1.heap.size w1 w8) := D7.out.trans (T8.out.below (Nat.le_refl _))
  have H8 := Lib.hid (H1.out.below D8.out H1.out.lt)
  have B8 := Lib.hid (belT B1.out D8.out)
  have S8 : Hid (ObjAt w8 w1.heap.size 107 [.string Ke, .string Va]) := R8.out
  have c0 := S8.out.get 0 rfl
  have c1 := S8.out.get 1 rfl
  go_wp2_with fail
  refine (C5.out _).mono ?_; rintro e w9 ⟨rfl, b9⟩
  have R9 := Lib.hid (S8.out.below b9 S8.out.lt)
  have H9 := Lib.hid (H8.out.below b9 H8.out.lt)
  have B9 := Lib.hid (belT B8.out b9)
  clear b9 c0 c1
  have c0 := R9.out.get 0 rfl
  have c1 := R9.out.get 1 rfl
  go_wp2_with (first | (refine wpList_store_obj rfl 107 _ _ rfl w.heap.size rfl [.string Ke, .string Va] rz rfl 107 H9.out HO.out.2 rfl (rec_one _ _) ?_; intro w10 g10 t10; have H10 := Lib.hid g10; have T10 := Lib.hid t10; clear g10 t10))
  exact bodyPost_ret (results_obj_two Tryz.results136 HO.out _ w.heap.size rfl _ [.string Ke, .string Va] H10.out rfl) rfl ⟨rfl, B9.out.trans (T10.out.below (Nat.le_refl _))⟩
end Go.Proofs.YtbbaleambgaanaaGreatDoor.Pxr
