/-
  Layer 9: the program's parseFirst.
-/
import Derived.Test.YtjmnhnijmaceeaaDoorPxrSize
import Derived.Test.YtjmnhnijmaceeaaDoorSObj
namespace Go.Proofs.YtjmnhnijmaceeaaDoor.Pxr
open Go.RowKit

def rz : List Value := [.string { data := #[] }, .string { data := #[] }]
theorem recZ : (Tryd.prog.info? 32).map (·.zero) = some (some (.agg rz.toArray)) := by kernel_rfl
theorem recO : ObjT Tryd.prog 32 2 := ⟨⟨_, Tryd.underlying32⟩, by kernel_rfl⟩
theorem rz_one : ∀ v ∈ rz, v.oneCell' = true := by simp [rz, Value.oneCell']
theorem rec_one (k v : ByteArray) : ∀ x ∈ [Value.string k, Value.string v], x.oneCell' = true := by simp [Value.oneCell']

set_option maxHeartbeats 2000000 in
set_option maxRecDepth 100000 in
theorem pf_early (s : ByteArray) (w : World) (A A2 : ByteArray) (SP OK : Bool) (N : Int)
    (C1 : Hid (∀ w', Calls Tryd.prog 43 #[.string s, .string { data := #[32] }] w' fun e w'' => e = .returned (.tuple #[.string A, .string A2, .bool SP]) ∧ Below w'.heap.size w' w''))
    (P1 : Hid (∀ w', Calls Tryd.prog 41 #[.string A] w' fun e w'' => e = .returned (.tuple #[.int .i64 N, .bool OK]) ∧ Below w'.heap.size w' w''))
    (h : SP = false ∨ (SP = true ∧ OK = false) ∨ (SP = true ∧ OK = true ∧ N < 1) ∨ (SP = true ∧ OK = true ∧ ¬ N < 1 ∧ 999999 < N)) : Calls Tryd.prog 32 #[.string s] w fun e w' => e = .returned (.tuple #[.agg (rz : List Value).toArray, .int .i64 6]) ∧ Below w.heap.size w w' := by
  have HZ := Lib.hid recZ; have HO := Lib.hid recO
  rcases h with rfl | ⟨rfl, rfl⟩ | ⟨rfl, rfl, h⟩ | ⟨rfl, rfl, h, h2⟩
  all_goals
    go_enter Tryd.func32, Tryd.ntmps32
    go_wp2_with (first | (refine wpList_alloc_obj rfl 32 rfl rz HZ.out ?_; intro w1 g1 b1; have H1 := Lib.hid g1; have B1 := Lib.hid b1; clear g1 b1))
    refine (C1.out _).mono ?_; rintro e w2 ⟨rfl, b2⟩
    have H2 := Lib.hid (H1.out.below b2 H1.out.lt)
    have B2 := Lib.hid (belT B1.out b2)
    clear b2
    go_wp2_with fail
    refine (P1.out _).mono ?_; rintro e w3 ⟨rfl, b3⟩
    have H3 := Lib.hid (H2.out.below b3 H2.out.lt)
    have B3 := Lib.hid (belT B2.out b3)
    clear b3
    go_wp2_with (first | (refine wpList_store_obj rfl 32 _ _ rfl w.heap.size rfl rz rz rfl 32 H3.out HO.out.2 rfl (rz_one) ?_; intro w4 g4 t4; have H4 := Lib.hid g4; have T4 := Lib.hid t4; clear g4 t4))
    exact bodyPost_ret (results_obj_tmp Tryd.results32 HO.out _ w.heap.size rfl _ rz H4.out rfl) rfl ⟨rfl, B3.out.trans (T4.out.below (Nat.le_refl _))⟩
set_option maxHeartbeats 2000000 in
set_option maxRecDepth 100000 in
theorem pf_trunc (s : ByteArray) (w : World) (A A2 : ByteArray) (N : Int)
    (C1 : Hid (∀ w', Calls Tryd.prog 43 #[.string s, .string { data := #[32] }] w' fun e w'' => e = .returned (.tuple #[.string A, .string A2, .bool true]) ∧ Below w'.heap.size w' w''))
    (P1 : Hid (∀ w', Calls Tryd.prog 41 #[.string A] w' fun e w'' => e = .returned (.tuple #[.int .i64 N, .bool true]) ∧ Below w'.heap.size w' w''))
    (h1 : ¬ N < 1) (h2 : ¬ 999999 < N) (h3 : (s.size : Int) < N) : Calls Tryd.prog 32 #[.string s] w fun e w' => e = .returned (.tuple #[.agg (rz : List Value).toArray, .int .i64 5]) ∧ Below w.heap.size w w' := by
  have HZ := Lib.hid recZ; have HO := Lib.hid recO
  go_enter Tryd.func32, Tryd.ntmps32
  go_wp2_with (first | (refine wpList_alloc_obj rfl 32 rfl rz HZ.out ?_; intro w1 g1 b1; have H1 := Lib.hid g1; have B1 := Lib.hid b1; clear g1 b1))
  refine (C1.out _).mono ?_; rintro e w2 ⟨rfl, b2⟩
  have H2 := Lib.hid (H1.out.below b2 H1.out.lt)
  have B2 := Lib.hid (belT B1.out b2)
  clear b2
  go_wp2_with fail
  refine (P1.out _).mono ?_; rintro e w3 ⟨rfl, b3⟩
  have H3 := Lib.hid (H2.out.below b3 H2.out.lt)
  have B3 := Lib.hid (belT B2.out b3)
  clear b3
  go_wp2_with (first | (refine wpList_store_obj rfl 32 _ _ rfl w.heap.size rfl rz rz rfl 32 H3.out HO.out.2 rfl (rz_one) ?_; intro w4 g4 t4; have H4 := Lib.hid g4; have T4 := Lib.hid t4; clear g4 t4))
  exact bodyPost_ret (results_obj_tmp Tryd.results32 HO.out _ w.heap.size rfl _ rz H4.out rfl) rfl ⟨rfl, B3.out.trans (T4.out.below (Nat.le_refl _))⟩
set_option maxHeartbeats 4000000 in
set_option maxRecDepth 100000 in
theorem pf_noline (s : ByteArray) (w : World) (A A2 : ByteArray) (n : Nat)
    (C1 : Hid (∀ w', Calls Tryd.prog 43 #[.string s, .string { data := #[32] }] w' fun e w'' => e = .returned (.tuple #[.string A, .string A2, .bool true]) ∧ Below w'.heap.size w' w''))
    (P1 : Hid (∀ w', Calls Tryd.prog 41 #[.string A] w' fun e w'' => e = .returned (.tuple #[.int .i64 (n : Int), .bool true]) ∧ Below w'.heap.size w' w''))
    (h1 : ¬ (n : Int) < 1) (h2 : ¬ (999999 : Int) < n) (h3 : (n : Int) ≤ s.size) (L X1 T K D : ByteArray) (NL X2 EQ : Bool)
    (C2 : Hid (∀ w', Calls Tryd.prog 44 #[.string (s.extract 0 n), .string { data := #[10] }] w' fun e w'' => e = .returned (.tuple #[.string L, .bool NL]) ∧ w' = w''))
    (C3 : Hid (∀ w', Calls Tryd.prog 43 #[.string L, .string { data := #[32] }] w' fun e w'' => e = .returned (.tuple #[.string X1, .string T, .bool X2]) ∧ Below w'.heap.size w' w''))
    (C4 : Hid (∀ w', Calls Tryd.prog 43 #[.string T, .string { data := #[61] }] w' fun e w'' => e = .returned (.tuple #[.string K, .string D, .bool EQ]) ∧ Below w'.heap.size w' w''))
    (h : NL = false ∨ (NL = true ∧ EQ = false)) : Calls Tryd.prog 32 #[.string s] w fun e w' => e = .returned (.tuple #[.agg (rz : List Value).toArray, .int .i64 6]) ∧ Below w.heap.size w w' := by
  have HZ := Lib.hid recZ; have HO := Lib.hid recO
  rcases h with rfl | ⟨rfl, rfl⟩
  all_goals
    go_enter Tryd.func32, Tryd.ntmps32
    go_wp2_with (first | (refine wpList_alloc_obj rfl 32 rfl rz HZ.out ?_; intro w1 g1 b1; have H1 := Lib.hid g1; have B1 := Lib.hid b1; clear g1 b1))
    refine (C1.out _).mono ?_; rintro e w2 ⟨rfl, b2⟩
    have H2 := Lib.hid (H1.out.below b2 H1.out.lt)
    have B2 := Lib.hid (belT B1.out b2)
    clear b2
    go_wp2_with fail
    refine (P1.out _).mono ?_; rintro e w3 ⟨rfl, b3⟩
    have H3 := Lib.hid (H2.out.below b3 H2.out.lt)
    have B3 := Lib.hid (belT B2.out b3)
    clear b3
    go_wp2_with fail
    refine (C2.out _).mono ?_; rintro e w4 ⟨rfl, rfl⟩
    go_wp2_with fail
    refine (C3.out _).mono ?_; rintro e w5 ⟨rfl, b5⟩
    have H5 := Lib.hid (H3.out.below b5 H3.out.lt)
    have B5 := Lib.hid (belT B3.out b5)
    clear b5
    go_wp2_with fail
    refine (C4.out _).mono ?_; rintro e w6 ⟨rfl, b6⟩
    have H6 := Lib.hid (H5.out.below b6 H5.out.lt)
    have B6 := Lib.hid (belT B5.out b6)
    clear b6
    go_wp2_with (first | (refine wpList_alloc_obj rfl 32 rfl rz HZ.out ?_; intro w7 g7 b7; have R7 := Lib.hid g7; have H7 := Lib.hid (H6.out.below b7 H6.out.lt); have B7 := Lib.hid (belT B6.out b7); clear g7 b7) | (refine wpList_store_obj rfl 32 _ _ rfl w6.heap.size rfl [.string K, .string D] rz rfl 32 R7.out HO.out.2 rfl (rec_one _ _) ?_; intro w8 g8 t8; have R8 := Lib.hid g8; have H8 := Lib.hid (H7.out.turned t8 (Nat.ne_of_lt H6.out.lt)); have B8 := Lib.hid (B7.out.trans (t8.below B6.out.size)); clear g8 t8) | (refine wpList_store_obj rfl 32 _ _ rfl w.heap.size rfl rz rz rfl 32 H8.out HO.out.2 rfl rz_one ?_; intro w9 g9 t9; have H9 := Lib.hid g9; have T9 := Lib.hid t9; clear g9 t9))
    exact bodyPost_ret (results_obj_tmp Tryd.results32 HO.out _ w.heap.size rfl _ rz H9.out rfl) rfl ⟨rfl, B8.out.trans (T9.out.below (Nat.le_refl _))⟩
set_option maxHeartbeats 4000000 in
set_option maxRecDepth 100000 in
theorem pf_size (s : ByteArray) (w : World) (A A2 : ByteArray) (n : Nat)
    (C1 : Hid (∀ w', Calls Tryd.prog 43 #[.string s, .string { data := #[32] }] w' fun e w'' => e = .returned (.tuple #[.string A, .string A2, .bool true]) ∧ Below w'.heap.size w' w''))
    (P1 : Hid (∀ w', Calls Tryd.prog 41 #[.string A] w' fun e w'' => e = .returned (.tuple #[.int .i64 (n : Int), .bool true]) ∧ Below w'.heap.size w' w''))
    (h1 : ¬ (n : Int) < 1) (h2 : ¬ (999999 : Int) < n) (h3 : (n : Int) ≤ s.size) (L X1 T K D : ByteArray) (X2 : Bool)
    (C2 : Hid (∀ w', Calls Tryd.prog 44 #[.string (s.extract 0 n), .string { data := #[10] }] w' fun e w'' => e = .returned (.tuple #[.string L, .bool true]) ∧ w' = w''))
    (C3 : Hid (∀ w', Calls Tryd.prog 43 #[.string L, .string { data := #[32] }] w' fun e w'' => e = .returned (.tuple #[.string X1, .string T, .bool X2]) ∧ Below w'.heap.size w' w''))
    (C4 : Hid (∀ w', Calls Tryd.prog 43 #[.string T, .string { data := #[61] }] w' fun e w'' => e = .returned (.tuple #[.string K, .string D, .bool true]) ∧ Below w'.heap.size w' w''))
    (Z : Int) (C5 : Hid (∀ w', Below w.heap.size w w' → Calls Tryd.prog 15 #[.agg #[.string K, .string D]] w' fun e w'' => e = .returned (.int .i64 Z) ∧ Below w'.heap.size w' w''))
    (h : ((n : Int) != Z) = true) : Calls Tryd.prog 32 #[.string s] w fun e w' => e = .returned (.tuple #[.agg (rz : List Value).toArray, .int .i64 6]) ∧ Below w.heap.size w w' := by
  have HZ := Lib.hid recZ; have HO := Lib.hid recO
  go_enter Tryd.func32, Tryd.ntmps32
  go_wp2_with (first | (refine wpList_alloc_obj rfl 32 rfl rz HZ.out ?_; intro w1 g1 b1; have H1 := Lib.hid g1; have B1 := Lib.hid b1; clear g1 b1))
  refine (C1.out _).mono ?_; rintro e w2 ⟨rfl, b2⟩
  have H2 := Lib.hid (H1.out.below b2 H1.out.lt)
  have B2 := Lib.hid (belT B1.out b2)
  clear b2
  go_wp2_with fail
  refine (P1.out _).mono ?_; rintro e w3 ⟨rfl, b3⟩
  have H3 := Lib.hid (H2.out.below b3 H2.out.lt)
  have B3 := Lib.hid (belT B2.out b3)
  clear b3
  go_wp2_with fail
  refine (C2.out _).mono ?_; rintro e w4 ⟨rfl, rfl⟩
  go_wp2_with fail
  refine (C3.out _).mono ?_; rintro e w5 ⟨rfl, b5⟩
  have H5 := Lib.hid (H3.out.below b5 H3.out.lt)
  have B5 := Lib.hid (belT B3.out b5)
  clear b5
  go_wp2_with fail
  refine (C4.out _).mono ?_; rintro e w6 ⟨rfl, b6⟩
  have H6 := Lib.hid (H5.out.below b6 H5.out.lt)
  have B6 := Lib.hid (belT B5.out b6)
  clear b6
  go_wp2_with (first | (refine wpList_alloc_obj rfl 32 rfl rz HZ.out ?_; intro w7 g7 b7; have R7 := Lib.hid g7; have H7 := Lib.hid (H6.out.below b7 H6.out.lt); have B7 := Lib.hid (belT B6.out b7); clear g7 b7) | (refine wpList_store_obj rfl 32 _ _ rfl w6.heap.size rfl [.string K, .string D] rz rfl 32 R7.out HO.out.2 rfl (rec_one _ _) ?_; intro w8 g8 t8; have R8 := Lib.hid g8; have H8 := Lib.hid (H7.out.turned t8 (Nat.ne_of_lt H6.out.lt)); have B8 := Lib.hid (B7.out.trans (t8.below B6.out.size)); have c0 := g8.get 0 rfl; have c1 := g8.get 1 rfl; clear g8 t8))
  refine (C5.out _ B8.out).mono ?_; rintro e w9 ⟨rfl, b9⟩
  have H9 := Lib.hid (H8.out.below b9 H8.out.lt)
  have R9 := Lib.hid (R8.out.below b9 R8.out.lt)
  have B9 := Lib.hid (belT B8.out b9)
  clear b9 c0 c1
  go_wp2_with (first | (refine wpList_store_obj rfl 32 _ _ rfl w.heap.size rfl rz rz rfl 32 H9.out HO.out.2 rfl rz_one ?_; intro w10 g10 t10; have H10 := Lib.hid g10; have T10 := Lib.hid t10; clear g10 t10))
  exact bodyPost_ret (results_obj_tmp Tryd.results32 HO.out _ w.heap.size rfl _ rz H10.out rfl) rfl ⟨rfl, B9.out.trans (T10.out.below (Nat.le_refl _))⟩
set_option maxHeartbeats 4000000 in
set_option maxRecDepth 100000 in
theorem pf_good (s : ByteArray) (w : World) (A A2 : ByteArray) (n : Nat)
    (C1 : Hid (∀ w', Calls Tryd.prog 43 #[.string s, .string { data := #[32] }] w' fun e w'' => e = .returned (.tuple #[.string A, .string A2, .bool true]) ∧ Below w'.heap.size w' w''))
    (P1 : Hid (∀ w', Calls Tryd.prog 41 #[.string A] w' fun e w'' => e = .returned (.tuple #[.int .i64 (n : Int), .bool true]) ∧ Below w'.heap.size w' w''))
    (h1 : ¬ (n : Int) < 1) (h2 : ¬ (999999 : Int) < n) (h3 : (n : Int) ≤ s.size) (L X1 T K D : ByteArray) (X2 : Bool)
    (C2 : Hid (∀ w', Calls Tryd.prog 44 #[.string (s.extract 0 n), .string { data := #[10] }] w' fun e w'' => e = .returned (.tuple #[.string L, .bool true]) ∧ w' = w''))
    (C3 : Hid (∀ w', Calls Tryd.prog 43 #[.string L, .string { data := #[32] }] w' fun e w'' => e = .returned (.tuple #[.string X1, .string T, .bool X2]) ∧ Below w'.heap.size w' w''))
    (C4 : Hid (∀ w', Calls Tryd.prog 43 #[.string T, .string { data := #[61] }] w' fun e w'' => e = .returned (.tuple #[.string K, .string D, .bool true]) ∧ Below w'.heap.size w' w''))
    (Z : Int) (C5 : Hid (∀ w', Below w.heap.size w w' → Calls Tryd.prog 15 #[.agg #[.string K, .string D]] w' fun e w'' => e = .returned (.int .i64 Z) ∧ Below w'.heap.size w' w''))
    (h : ((n : Int) != Z) = false) : Calls Tryd.prog 32 #[.string s] w fun e w' => e = .returned (.tuple #[.agg ([.string K, .string D] : List Value).toArray, .int .i64 0]) ∧ Below w.heap.size w w' := by
  have HZ := Lib.hid recZ; have HO := Lib.hid recO
  go_enter Tryd.func32, Tryd.ntmps32
  go_wp2_with (first | (refine wpList_alloc_obj rfl 32 rfl rz HZ.out ?_; intro w1 g1 b1; have H1 := Lib.hid g1; have B1 := Lib.hid b1; clear g1 b1))
  refine (C1.out _).mono ?_; rintro e w2 ⟨rfl, b2⟩
  have H2 := Lib.hid (H1.out.below b2 H1.out.lt)
  have B2 := Lib.hid (belT B1.out b2)
  clear b2
  go_wp2_with fail
  refine (P1.out _).mono ?_; rintro e w3 ⟨rfl, b3⟩
  have H3 := Lib.hid (H2.out.below b3 H2.out.lt)
  have B3 := Lib.hid (belT B2.out b3)
  clear b3
  go_wp2_with fail
  refine (C2.out _).mono ?_; rintro e w4 ⟨rfl, rfl⟩
  go_wp2_with fail
  refine (C3.out _).mono ?_; rintro e w5 ⟨rfl, b5⟩
  have H5 := Lib.hid (H3.out.below b5 H3.out.lt)
  have B5 := Lib.hid (belT B3.out b5)
  clear b5
  go_wp2_with fail
  refine (C4.out _).mono ?_; rintro e w6 ⟨rfl, b6⟩
  have H6 := Lib.hid (H5.out.below b6 H5.out.lt)
  have B6 := Lib.hid (belT B5.out b6)
  clear b6
  go_wp2_with (first | (refine wpList_alloc_obj rfl 32 rfl rz HZ.out ?_; intro w7 g7 b7; have R7 := Lib.hid g7; have H7 := Lib.hid (H6.out.below b7 H6.out.lt); have B7 := Lib.hid (belT B6.out b7); clear g7 b7) | (refine wpList_store_obj rfl 32 _ _ rfl w6.heap.size rfl [.string K, .string D] rz rfl 32 R7.out HO.out.2 rfl (rec_one _ _) ?_; intro w8 g8 t8; have R8 := Lib.hid g8; have H8 := Lib.hid (H7.out.turned t8 (Nat.ne_of_lt H6.out.lt)); have B8 := Lib.hid (B7.out.trans (t8.below B6.out.size)); have c0 := g8.get 0 rfl; have c1 := g8.get 1 rfl; clear g8 t8))
  refine (C5.out _ B8.out).mono ?_; rintro e w9 ⟨rfl, b9⟩
  have H9 := Lib.hid (H8.out.below b9 H8.out.lt)
  have R9 := Lib.hid (R8.out.below b9 R8.out.lt)
  have B9 := Lib.hid (belT B8.out b9)
  clear b9 c0 c1
  have c0 := R9.out.get 0 rfl
  have c1 := R9.out.get 1 rfl
  go_wp2_with (first | (refine wpList_store_obj rfl 32 _ _ rfl w.heap.size rfl [.string K, .string D] rz rfl 32 H9.out HO.out.2 rfl (rec_one _ _) ?_; intro w10 g10 t10; have H10 := Lib.hid g10; have T10 := Lib.hid t10; clear g10 t10))
  exact bodyPost_ret (results_obj_tmp Tryd.results32 HO.out _ w.heap.size rfl _ [.string K, .string D] H10.out rfl) rfl ⟨rfl, B9.out.trans (T10.out.below (Nat.le_refl _))⟩
end Go.Proofs.YtjmnhnijmaceeaaDoor.Pxr
