/-
  Layer 9: the program's parseFirst.
-/
import Derived.Test.YtbbaleambgaanaaGreatDoorPk08
import Derived.Test.YtbbaleambgaanaaGreatDoorPk24
import Derived.Test.YtbbaleambgaanaaGreatDoorPk06
namespace Go.Proofs.YtbbaleambgaanaaGreatDoor.Pxr
open Go.RowKit

set_option maxHeartbeats 2000000 in
set_option maxRecDepth 100000 in
theorem pf_early (s : ByteArray) (w : World) (A A2 : ByteArray) (SP OK : Bool) (N : Int)
    (C1 : Hid (∀ w', Calls Tryz.prog 177 #[.string s, .string { data := #[32] }] w' fun e w'' => e = .returned (.tuple #[.string A, .string A2, .bool SP]) ∧ Below w'.heap.size w' w''))
    (P1 : Hid (∀ w', Calls Tryz.prog 164 #[.string A] w' fun e w'' => e = .returned (.tuple #[.int .i64 N, .bool OK]) ∧ Below w'.heap.size w' w''))
    (h : SP = false ∨ (SP = true ∧ OK = false) ∨ (SP = true ∧ OK = true ∧ N < 1) ∨ (SP = true ∧ OK = true ∧ ¬ N < 1 ∧ 999999 < N)) : Calls Tryz.prog 160 #[.string s] w fun e w' => e = .returned (.tuple #[.agg (rz : List Value).toArray, .int .i64 6]) ∧ Below w.heap.size w w' := by
  have HZ := Lib.hid recZ; have HO := Lib.hid recO
  rcases h with rfl | ⟨rfl, rfl⟩ | ⟨rfl, rfl, h⟩ | ⟨rfl, rfl, h, h2⟩
  all_goals
    go_enter Tryz.func160, Tryz.ntmps160
    go_wp2_with (first | (refine wpList_alloc_obj rfl 107 rfl rz HZ.out ?_; intro w1 g1 b1; have H1 := Lib.hid g1; have B1 := Lib.hid b1; clear g1 b1))
    refine (C1.out _).mono ?_; rintro e w2 ⟨rfl, b2⟩
    have H2 := Lib.hid (H1.out.below b2 H1.out.lt)
    have B2 := Lib.hid (belT B1.out b2)
    clear b2
    go_wp2_with fail
    refine (P1.out _).mono ?_; rintro e w3 ⟨rfl, b3⟩
    have H3 := Lib.hid (H2.out.below b3 H2.out.lt)
    have B3 := Lib.hid (belT B2.out b3)
    clear b3
    go_wp2_with (first | (refine wpList_store_obj rfl 107 _ _ rfl w.heap.size rfl rz rz rfl 107 H3.out HO.out.2 rfl (rz_one) ?_; intro w4 g4 t4; have H4 := Lib.hid g4; have T4 := Lib.hid t4; clear g4 t4))
    exact bodyPost_ret (results_obj_tmp Tryz.results160 HO.out _ w.heap.size rfl _ rz H4.out rfl) rfl ⟨rfl, B3.out.trans (T4.out.below (Nat.le_refl _))⟩
set_option maxHeartbeats 2000000 in
set_option maxRecDepth 100000 in
theorem pf_trunc (s : ByteArray) (w : World) (A A2 : ByteArray) (N : Int)
    (C1 : Hid (∀ w', Calls Tryz.prog 177 #[.string s, .string { data := #[32] }] w' fun e w'' => e = .returned (.tuple #[.string A, .string A2, .bool true]) ∧ Below w'.heap.size w' w''))
    (P1 : Hid (∀ w', Calls Tryz.prog 164 #[.string A] w' fun e w'' => e = .returned (.tuple #[.int .i64 N, .bool true]) ∧ Below w'.heap.size w' w''))
    (h1 : ¬ N < 1) (h2 : ¬ 999999 < N) (h3 : (s.size : Int) < N) : Calls Tryz.prog 160 #[.string s] w fun e w' => e = .returned (.tuple #[.agg (rz : List Value).toArray, .int .i64 5]) ∧ Below w.heap.size w w' := by
  have HZ := Lib.hid recZ; have HO := Lib.hid recO
  go_enter Tryz.func160, Tryz.ntmps160
  go_wp2_with (first | (refine wpList_alloc_obj rfl 107 rfl rz HZ.out ?_; intro w1 g1 b1; have H1 := Lib.hid g1; have B1 := Lib.hid b1; clear g1 b1))
  refine (C1.out _).mono ?_; rintro e w2 ⟨rfl, b2⟩
  have H2 := Lib.hid (H1.out.below b2 H1.out.lt)
  have B2 := Lib.hid (belT B1.out b2)
  clear b2
  go_wp2_with fail
  refine (P1.out _).mono ?_; rintro e w3 ⟨rfl, b3⟩
  have H3 := Lib.hid (H2.out.below b3 H2.out.lt)
  have B3 := Lib.hid (belT B2.out b3)
  clear b3
  go_wp2_with (first | (refine wpList_store_obj rfl 107 _ _ rfl w.heap.size rfl rz rz rfl 107 H3.out HO.out.2 rfl (rz_one) ?_; intro w4 g4 t4; have H4 := Lib.hid g4; have T4 := Lib.hid t4; clear g4 t4))
  exact bodyPost_ret (results_obj_tmp Tryz.results160 HO.out _ w.heap.size rfl _ rz H4.out rfl) rfl ⟨rfl, B3.out.trans (T4.out.below (Nat.le_refl _))⟩
set_option maxHeartbeats 4000000 in
set_option maxRecDepth 100000 in
theorem pf_noline (s : ByteArray) (w : World) (A A2 : ByteArray) (n : Nat)
    (C1 : Hid (∀ w', Calls Tryz.prog 177 #[.string s, .string { data := #[32] }] w' fun e w'' => e = .returned (.tuple #[.string A, .string A2, .bool true]) ∧ Below w'.heap.size w' w''))
    (P1 : Hid (∀ w', Calls Tryz.prog 164 #[.string A] w' fun e w'' => e = .returned (.tuple #[.int .i64 (n : Int), .bool true]) ∧ Below w'.heap.size w' w''))
    (h1 : ¬ (n : Int) < 1) (h2 : ¬ (999999 : Int) < n) (h3 : (n : Int) ≤ s.size) (L X1 T K D : ByteArray) (NL X2 EQ : Bool)
    (C2 : Hid (∀ w', Calls Tryz.prog 178 #[.string (s.extract 0 n), .string { data := #[10] }] w' fun e w'' => e = .returned (.tuple #[.string L, .bool NL]) ∧ w' = w''))
    (C3 : Hid (∀ w', Calls Tryz.prog 177 #[.string L, .string { data := #[32] }] w' fun e w'' => e = .returned (.tuple #[.string X1, .string T, .bool X2]) ∧ Below w'.heap.size w' w''))
    (C4 : Hid (∀ w', Calls Tryz.prog 177 #[.string T, .string { data := #[61] }] w' fun e w'' => e = .returned (.tuple #[.string K, .string D, .bool EQ]) ∧ Below w'.heap.size w' w''))
    (h : NL = false ∨ (NL = true ∧ EQ = false)) : Calls Tryz.prog 160 #[.string s] w fun e w' => e = .returned (.tuple #[.agg (rz : List Value).toArray, .int .i64 6]) ∧ Below w.heap.size w w' := by
  have HZ := Lib.hid recZ; have HO := Lib.hid recO
  rcases h with rfl | ⟨rfl, rfl⟩
  all_goals
    go_enter Tryz.func160, Tryz.ntmps160
    go_wp2_with (first | (refine wpList_alloc_obj rfl 107 rfl rz HZ.out ?_; intro w1 g1 b1; have H1 := Lib.hid g1; have B1 := Lib.hid b1; clear g1 b1))
    refine (C1.out _).mono ?_; rintro e w2 ⟨rfl, b2⟩
    have H2 := Lib.hid (H1.out.below b2 H1.out.lt)
    have B2 := Lib.hid (belT B1.out b2)
    clear b2
    go_wp2_with fail
    refine (P1.out _).mono ?_; rintro e w3 ⟨rfl, b3⟩
    have H3 := Lib.hid (H2.out.below b3 H2.out.lt)
    have B3 := Lib.hid (belT B2.out b3)
    clear b3
    go_wp2_with fail
    refine (C2.out _).mono ?_; rintro e w4 ⟨rfl, rfl⟩
    go_wp2_with fail
    refine (C3.out _).mono ?_; rintro e w5 ⟨rfl, b5⟩
    have H5 := Lib.hid (H3.out.below b5 H3.out.lt)
    have B5 := Lib.hid (belT B3.out b5)
    clear b5
    go_wp2_with fail
    refine (C4.out _).mono ?_; rintro e w6 ⟨rfl, b6⟩
    have H6 := Lib.hid (H5.out.below b6 H5.out.lt)
    have B6 := Lib.hid (belT B5.out b6)
    clear b6
    go_wp2_with (first | (refine wpList_alloc_obj rfl 107 rfl rz HZ.out ?_; intro w7 g7 b7; have R7 := Lib.hid g7; have H7 := Lib.hid (H6.out.below b7 H6.out.lt); have B7 := Lib.hid (belT B6.out b7); clear g7 b7) | (refine wpList_store_obj rfl 107 _ _ rfl w6.heap.size rfl [.string K, .string D] rz rfl 107 R7.out HO.out.2 rfl (rec_one _ _) ?_; intro w8 g8 t8; have R8 := Lib.hid g8; have H8 := Lib.hid (H7.out.turned t8 (Nat.ne_of_lt H6.out.lt)); have B8 := Lib.hid (B7.out.trans (t8.below B6.out.size)); clear g8 t8) | (refine wpList_store_obj rfl 107 _ _ rfl w.heap.size rfl rz rz rfl 107 H8.out HO.out.2 rfl rz_one ?_; intro w9 g9 t9; have H9 := Lib.hid g9; have T9 := Lib.hid t9; clear g9 t9))
    exact bodyPost_ret (results_obj_tmp Tryz.results160 HO.out _ w.heap.size rfl _ rz H9.out rfl) rfl ⟨rfl, B8.out.trans (T9.out.below (Nat.le_refl _))⟩
set_option maxHeartbeats 4000000 in
set_option maxRecDepth 100000 in
theorem pf_size (s : ByteArray) (w : World) (A A2 : ByteArray) (n : Nat)
    (C1 : Hid (∀ w', Calls Tryz.prog 177 #[.string s, .string { data := #[32] }] w' fun e w'' => e = .returned (.tuple #[.string A, .string A2, .bool true]) ∧ Below w'.heap.size w' w''))
    (P1 : Hid (∀ w', Calls Tryz.prog 164 #[.string A] w' fun e w'' => e = .returned (.tuple #[.int .i64 (n : Int), .bool true]) ∧ Below w'.heap.size w' w''))
    (h1 : ¬ (n : Int) < 1) (h2 : ¬ (999999 : Int) < n) (h3 : (n : Int) ≤ s.size) (L X1 T K D : ByteArray) (X2 : Bool)
    (C2 : Hid (∀ w', Calls Tryz.prog 178 #[.string (s.extract 0 n), .string { data := #[10] }] w' fun e w'' => e = .returned (.tuple #[.string L, .bool true]) ∧ w' = w''))
    (C3 : Hid (∀ w', Calls Tryz.prog 177 #[.string L, .string { data := #[32] }] w' fun e w'' => e = .returned (.tuple #[.string X1, .string T, .bool X2]) ∧ Below w'.heap.size w' w''))
    (C4 : Hid (∀ w', Calls Tryz.prog 177 #[.string T, .string { data := #[61] }] w' fun e w'' => e = .returned (.tuple #[.string K, .string D, .bool true]) ∧ Below w'.heap.size w' w''))
    (Z : Int) (C5 : Hid (∀ w', Below w.heap.size w w' → Calls Tryz.prog 120 #[.agg #[.string K, .string D]] w' fun e w'' => e = .returned (.int .i64 Z) ∧ Below w'.heap.size w' w''))
    (h : ((n : Int) != Z) = true) : Calls Tryz.prog 160 #[.string s] w fun e w' => e = .returned (.tuple #[.agg (rz : List Value).toArray, .int .i64 6]) ∧ Below w.heap.size w w' := by
  have HZ := Lib.hid recZ; have HO := Lib.hid recO
  go_enter Tryz.func160, Tryz.ntmps160
  go_wp2_with (first | (refine wpList_alloc_obj rfl 107 rfl rz HZ.out ?_; intro w1 g1 b1; have H1 := Lib.hid g1; have B1 := Lib.hid b1; clear g1 b1))
  refine (C1.out _).mono ?_; rintro e w2 ⟨rfl, b2⟩
  have H2 := Lib.hid (H1.out.below b2 H1.out.lt)
  have B2 := Lib.hid (belT B1.out b2)
  clear b2
  go_wp2_with fail
  refine (P1.out _).mono ?_; rintro e w3 ⟨rfl, b3⟩
  have H3 := Lib.hid (H2.out.below b3 H2.out.lt)
  have B3 := Lib.hid (belT B2.out b3)
  clear b3
  go_wp2_with fail
  refine (C2.out _).mono ?_; rintro e w4 ⟨rfl, rfl⟩
  go_wp2_with fail
  refine (C3.out _).mono ?_; rintro e w5 ⟨rfl, b5⟩
  have H5 := Lib.hid (H3.out.below b5 H3.out.lt)
  have B5 := Lib.hid (belT B3.out b5)
  clear b5
  go_wp2_with fail
  refine (C4.out _).mono ?_; rintro e w6 ⟨rfl, b6⟩
  have H6 := Lib.hid (H5.out.below b6 H5.out.lt)
  have B6 := Lib.hid (belT B5.out b6)
  clear b6
  go_wp2_with (first | (refine wpList_alloc_obj rfl 107 rfl rz HZ.out ?_; intro w7 g7 b7; have R7 := Lib.hid g7; have H7 := Lib.hid (H6.out.below b7 H6.out.lt); have B7 := Lib.hid (belT B6.out b7); clear g7 b7) | (refine wpList_store_obj rfl 107 _ _ rfl w6.heap.size rfl [.string K, .string D] rz rfl 107 R7.out HO.out.2 rfl (rec_one _ _) ?_; intro w8 g8 t8; have R8 := Lib.hid g8; have H8 := Lib.hid (H7.out.turned t8 (Nat.ne_of_lt H6.out.lt)); have B8 := Lib.hid (B7.out.trans (t8.below B6.out.size)); have c0 := g8.get 0 rfl; have c1 := g8.get 1 rfl; clear g8 t8))
  refine (C5.out _ B8.out).mono ?_; rintro e w9 ⟨rfl, b9⟩
  have H9 := Lib.hid (H8.out.below b9 H8.out.lt)
  have R9 := Lib.hid (R8.out.below b9 R8.out.lt)
  have B9 := Lib.hid (belT B8.out b9)
  clear b9 c0 c1
  go_wp2_with (first | (refine wpList_store_obj rfl 107 _ _ rfl w.heap.size rfl rz rz rfl 107 H9.out HO.out.2 rfl rz_one ?_; intro w10 g10 t10; have H10 := Lib.hid g10; have T10 := Lib.hid t10; clear g10 t10))
  exact bodyPost_ret (results_obj_tmp Tryz.results160 HO.out _ w.heap.size rfl _ rz H10.out rfl) rfl ⟨rfl, B9.out.trans (T10.out.below (Nat.le_refl _))⟩
set_option maxHeartbeats 4000000 in
set_option maxRecDepth 100000 in
theorem pf_good (s : ByteArray) (w : World) (A A2 : ByteArray) (n : Nat)
    (C1 : Hid (∀ w', Calls Tryz.prog 177 #[.string s, .string { data := #[32] }] w' fun e w'' => e = .returned (.tuple #[.string A, .string A2, .bool true]) ∧ Below w'.heap.size w' w''))
    (P1 : Hid (∀ w', Calls Tryz.prog 164 #[.string A] w' fun e w'' => e = .returned (.tuple #[.int .i64 (n : Int), .bool true]) ∧ Below w'.heap.size w' w''))
    (h1 : ¬ (n : Int) < 1) (h2 : ¬ (999999 : Int) < n) (h3 : (n : Int) ≤ s.size) (L X1 T K D : ByteArray) (X2 : Bool)
    (C2 : Hid (∀ w', Calls Tryz.prog 178 #[.string (s.extract 0 n), .string { data := #[10] }] w' fun e w'' => e = .returned (.tuple #[.string L, .bool true]) ∧ w' = w''))
    (C3 : Hid (∀ w', Calls Tryz.prog 177 #[.string L, .string { data := #[32] }] w' fun e w'' => e = .returned (.tuple #[.string X1, .string T, .bool X2]) ∧ Below w'.heap.size w' w''))
    (C4 : Hid (∀ w', Calls Tryz.prog 177 #[.string T, .string { data := #[61] }] w' fun e w'' => e = .returned (.tuple #[.string K, .string D, .bool true]) ∧ Below w'.heap.size w' w''))
    (Z : Int) (C5 : Hid (∀ w', Below w.heap.size w w' → Calls Tryz.prog 120 #[.agg #[.string K, .string D]] w' fun e w'' => e = .returned (.int .i64 Z) ∧ Below w'.heap.size w' w''))
    (h : ((n : Int) != Z) = false) : Calls Tryz.prog 160 #[.string s] w fun e w' => e = .returned (.tuple #[.agg ([.string K, .string D] : List Value).toArray, .int .i64 0]) ∧ Below w.heap.size w w' := by
  have HZ := Lib.hid recZ; have HO := Lib.hid recO
  go_enter Tryz.func160, Tryz.ntmps160
  go_wp2_with (first | (refine wpList_alloc_obj rfl 107 rfl rz HZ.out ?_; intro w1 g1 b1; have H1 := Lib.hid g1; have B1 := Lib.hid b1; clear g1 b1))
  refine (C1.out _).mono ?_; rintro e w2 ⟨rfl, b2⟩
  have H2 := Lib.hid (H1.out.below b2 H1.out.lt)
  have B2 := Lib.hid (belT B1.out b2)
  clear b2
  go_wp2_with fail
  refine (P1.out _).mono ?_; rintro e w3 ⟨rfl, b3⟩
  have H3 := Lib.hid (H2.out.below b3 H2.out.lt)
  have B3 := Lib.hid (belT B2.out b3)
  clear b3
  go_wp2_with fail
  refine (C2.out _).mono ?_; rintro e w4 ⟨rfl, rfl⟩
  go_wp2_with fail
  refine (C3.out _).mono ?_; rintro e w5 ⟨rfl, b5⟩
  have H5 := Lib.hid (H3.out.below b5 H3.out.lt)
  have B5 := Lib.hid (belT B3.out b5)
  clear b5
  go_wp2_with fail
  refine (C4.out _).mono ?_; rintro e w6 ⟨rfl, b6⟩
  have H6 := Lib.hid (H5.out.below b6 H5.out.lt)
  have B6 := Lib.hid (belT B5.out b6)
  clear b6
  go_wp2_with (first | (refine wpList_alloc_obj rfl 107 rfl rz HZ.out ?_; intro w7 g7 b7; have R7 := Lib.hid g7; have H7 := Lib.hid (H6.out.below b7 H6.out.lt); have B7 := Lib.hid (belT B6.out b7); clear g7 b7) | (refine wpList_store_obj rfl 107 _ _ rfl w6.heap.size rfl [.string K, .string D] rz rfl 107 R7.out HO.out.2 rfl (rec_one _ _) ?_; intro w8 g8 t8; have R8 := Lib.hid g8; have H8 := Lib.hid (H7.out.turned t8 (Nat.ne_of_lt H6.out.lt)); have B8 := Lib.hid (B7.out.trans (t8.below B6.out.size)); have c0 := g8.get 0 rfl; have c1 := g8.get 1 rfl; clear g8 t8))
  refine (C5.out _ B8.out).mono ?_; rintro e w9 ⟨rfl, b9⟩
  have H9 := Lib.hid (H8.out.below b9 H8.out.lt)
  have R9 := Lib.hid (R8.out.below b9 R8.out.lt)
  have B9 := Lib.hid (belT B8.out b9)
  clear b9 c0 c1
  have c0 := R9.out.get 0 rfl
  have c1 := R9.out.get 1 rfl
  go_wp2_with (first | (refine wpList_store_obj rfl 107 _ _ rfl w.heap.size rfl [.string K, .string D] rz rfl 107 H9.out HO.out.2 rfl (rec_one _ _) ?_; intro w10 g10 t10; have H10 := Lib.hid g10; have T10 := Lib.hid t10; clear g10 t10))
  exact bodyPost_ret (results_obj_tmp Tryz.results160 HO.out _ w.heap.size rfl _ [.string K, .string D] H10.out rfl) rfl ⟨rfl, B9.out.trans (T10.out.below (Nat.le_refl _))⟩
end Go.Proofs.YtbbaleambgaanaaGreatDoor.Pxr
/-
  Layer 9: the program's parseFirst, its ways together.
-/
namespace Go.Proofs.YtbbaleambgaanaaGreatDoor.Pxr
open Go.RowKit

/-- the record that comes back: nothing where there is an error -/
def tkX (zs : List Int) : Rec := if tkE zs = 0 then tkR zs else ({ data := #[] }, { data := #[] })

theorem bef_bd {c : Int} {zs : List Int} (h : ∀ z ∈ zs, 0 ≤ z ∧ z ≤ 255) : ∀ z ∈ bef c zs, 0 ≤ z ∧ z ≤ 255 := fun z hz => h z ((List.takeWhile_prefix _).subset hz)
theorem aft_bd {c : Int} {zs : List Int} (h : ∀ z ∈ zs, 0 ≤ z ∧ z ≤ 255) : ∀ z ∈ aft c zs, 0 ≤ z ∧ z ≤ 255 := fun z hz => h z (List.mem_of_mem_drop hz)
theorem take_bd {zs : List Int} (n : Nat) (h : ∀ z ∈ zs, 0 ≤ z ∧ z ≤ 255) : ∀ z ∈ zs.take n, 0 ≤ z ∧ z ≤ 255 := fun z hz => h z (List.mem_of_mem_take hz)
theorem bef_of_take {c : Int} {zs : List Int} {m : Nat} (h : c ∈ zs) (hm : (bef c zs).length < m) : bef c (zs.take m) = bef c zs ∧ c ∈ zs.take m := by
  obtain ⟨k, hk⟩ : ∃ k, m = (bef c zs).length + (k + 1) := ⟨m - (bef c zs).length - 1, by omega⟩
  have e : zs.take m = bef c zs ++ c :: (zs.drop ((bef c zs).length + 1)).take k := by
    conv => lhs; rw [bef_split h]
    rw [hk, List.take_length_add_append, List.take_succ_cons]
  constructor
  · rw [e, bef_app (bef_no c zs)]
  · rw [e]; simp
theorem no_of_take {c : Int} {zs : List Int} {m : Nat} (hm : m ≤ (bef c zs).length) : c ∉ zs.take m := fun h => by
  have e : zs.take m = (bef c zs).take m := by
    conv => rhs; rw [bef_take, List.take_take, Nat.min_eq_left hm]
  rw [e] at h
  exact bef_no c zs (List.mem_of_mem_take h)
theorem str_bd {zs : List Int} {m : Nat} (h : zs.length ≤ m) (hb : ∀ z ∈ zs, 0 ≤ z ∧ z ≤ 255) : (strOfNums zs).size ≤ m := by
  rw [← numsOf_length, numsOf_strOfNums hb]; exact h

set_option maxHeartbeats 1000000 in
theorem pfirst_any (s : ByteArray) (w : World) (V : Vars w) (hs : s.size ≤ 300000) : Calls Tryz.prog 160 #[.string s] w fun e w' =>
    e = .returned (.tuple #[.agg #[.string (tkX (numsOf s)).1, .string (tkX (numsOf s)).2], .int .i64 (tkE (numsOf s))]) ∧ Below w.heap.size w w' := by
  obtain ⟨zs, hzs⟩ : ∃ zs, zs = numsOf s := ⟨_, rfl⟩
  have hb : ∀ z ∈ zs, 0 ≤ z ∧ z ≤ 255 := by rw [hzs]; exact numsOf_bd s
  have hlen : zs.length = s.size := by rw [hzs, numsOf_length]
  have mx : ∀ k : Nat, k ≤ 300000 → k ≤ maxLen := fun k hk => by unfold maxLen; omega
  rw [← hzs]
  have C1 : Hid (∀ w', Calls Tryz.prog 177 #[.string s, .string { data := #[32] }] w' fun e w'' => e = .returned (.tuple #[.string (strOfNums (tkD zs)), .string (strOfNums (aft 32 zs)), .bool (decide ((32 : Int) ∈ zs))]) ∧ Below w'.heap.size w' w'') := fun w' => by
    rw [hzs]; exact cut_any s 32 w' (mx _ hs)
  have hA : numsOf (strOfNums (tkD zs)) = tkD zs := numsOf_strOfNums (bef_bd hb)
  have hAs : (strOfNums (tkD zs)).size ≤ maxLen := mx _ (str_bd (by have := bef_le 32 zs; unfold tkD; omega) (bef_bd hb))
  have P1 : Hid (∀ w', Calls Tryz.prog 164 #[.string (strOfNums (tkD zs))] w' fun e w'' => e = .returned (.tuple #[.int .i64 (pnV (tkD zs)), .bool (decOk (tkD zs))]) ∧ Below w'.heap.size w' w'') := fun w' => by
    have := pnum_any (strOfNums (tkD zs)) w' hAs
    rwa [hA] at this
  by_cases h1 : (32 : Int) ∉ zs ∨ decOk (tkD zs) = false ∨ tkN zs = 0 ∨ 999999 < tkN zs
  · have eE : tkE zs = 6 := by unfold tkE; rw [if_pos h1]
    have eX : tkX zs = ({ data := #[] }, { data := #[] }) := by unfold tkX; rw [eE]; rfl
    rw [eX, eE]
    refine pf_early s w _ _ _ _ _ C1 P1 ?_
    by_cases a1 : (32 : Int) ∈ zs
    · rw [decide_eq_true a1]
      by_cases a2 : decOk (tkD zs) = false
      · exact .inr (.inl ⟨rfl, a2⟩)
      · have a2' : decOk (tkD zs) = true := by simpa using a2
        have a3 := (h1.resolve_left (fun h => h a1)).resolve_left a2
        have ep : pnV (tkD zs) = min (tkN zs : Int) 1099511627777 := by unfold pnV; rw [if_pos a2']; rfl
        rw [ep]
        rcases a3 with a3 | a3
        · exact .inr (.inr (.inl ⟨rfl, a2', by omega⟩))
        · exact .inr (.inr (.inr ⟨rfl, a2', by omega, by omega⟩))
    · rw [decide_eq_false a1]; exact .inl rfl
  · have h1' := h1
    simp only [not_or, Decidable.not_not, Bool.not_eq_false, Nat.not_lt] at h1
    obtain ⟨a1, a2, a3, a4⟩ := h1
    rw [decide_eq_true a1] at C1
    have ep : pnV (tkD zs) = (tkN zs : Int) := by unfold pnV; rw [if_pos a2]; show min (tkN zs : Int) _ = _; omega
    rw [ep, a2] at P1
    by_cases h2 : zs.length < tkN zs
    · have eE : tkE zs = 5 := by unfold tkE; rw [if_neg h1', if_pos h2]
      have eX : tkX zs = ({ data := #[] }, { data := #[] }) := by unfold tkX; rw [eE]; rfl
      rw [eX, eE]
      exact pf_trunc s w _ _ _ C1 P1 (by omega) (by omega) (by omega)
    · obtain ⟨n, hn⟩ : ∃ n, n = tkN zs := ⟨_, rfl⟩
      rw [← hn] at P1 a3 a4 h2
      have hex : numsOf (s.extract 0 n) = zs.take n := by rw [nums_ext, ← hzs]; rfl
      have hexs : (s.extract 0 n).size = n := by rw [← numsOf_length, hex, List.length_take]; omega
      have cutA : ∀ (t : ByteArray) (c : UInt8), t.size ≤ 300000 → Hid (∀ w', Calls Tryz.prog 177 #[.string t, .string ⟨#[c]⟩] w' fun e w'' =>
          e = .returned (.tuple #[.string (strOfNums (bef c.toNat (numsOf t))), .string (strOfNums (aft c.toNat (numsOf t))), .bool (decide ((c.toNat : Int) ∈ numsOf t))]) ∧ Below w'.heap.size w' w'') := fun t c ht w' => cut_any t c w' (mx _ ht)
      have asz : ∀ (c : Int) (t : ByteArray), t.size ≤ 300000 → (strOfNums (aft c (numsOf t))).size ≤ 300000 := fun c t ht => str_bd (by unfold aft; rw [List.length_drop, numsOf_length]; omega) (aft_bd (numsOf_bd t))
      by_cases h3 : zs.getD (n - 1) 0 = 10
      · have C2 : Hid (∀ w', Calls Tryz.prog 178 #[.string (s.extract 0 n), .string { data := #[10] }] w' fun e w'' => e = .returned (.tuple #[.string ((s.extract 0 n).extract 0 (n - 1)), .bool true]) ∧ w' = w'') := fun w' => by
          have := suf_yes (s.extract 0 n) w' (mx _ (by omega)) (by omega) (by rw [hex, hexs, List.getD_eq_getElem?_getD, List.getElem?_take, if_pos (by omega), ← List.getD_eq_getElem?_getD]; exact h3)
          rwa [hexs] at this
        obtain ⟨L, hL⟩ : ∃ L, L = (s.extract 0 n).extract 0 (n - 1) := ⟨_, rfl⟩
        rw [← hL] at C2
        have hLn : numsOf L = zs.take (n - 1) := by rw [hL, nums_ext, hex, List.drop_zero, Nat.sub_zero, List.take_take, Nat.min_eq_left (by omega)]
        have hLs : L.size ≤ 300000 := by rw [← numsOf_length, hLn, List.length_take]; omega
        have C3 := cutA L 32 hLs
        obtain ⟨T, hT⟩ : ∃ T, T = strOfNums (aft ((32 : UInt8).toNat : Int) (numsOf L)) := ⟨_, rfl⟩
        have hTn : numsOf T = aft 32 (zs.take (n - 1)) := by rw [hT, hLn]; exact numsOf_strOfNums (aft_bd (take_bd _ hb))
        have hTs : T.size ≤ 300000 := by rw [hT]; exact asz _ L hLs
        rw [← hT] at C3
        have C4 := cutA T 61 hTs
        by_cases h4 : n < (tkD zs).length + 2
        · have hT0 : numsOf T = [] := by rw [hTn]; exact aft_none (no_of_take (by unfold tkD at h4; omega))
          have hEQ : decide (((61 : UInt8).toNat : Int) ∈ numsOf T) = false := by rw [hT0]; rfl
          rw [hEQ] at C4
          have eE : tkE zs = 6 := by unfold tkE; rw [if_neg h1', if_neg (by rw [← hn]; exact h2), if_pos (.inl (by rw [← hn]; exact h4))]
          have eX : tkX zs = ({ data := #[] }, { data := #[] }) := by unfold tkX; rw [eE]; rfl
          rw [eX, eE]
          exact pf_noline s w _ _ n C1 P1 (by omega) (by omega) (by omega) L _ T _ _ true _ false C2 C3 C4 (.inr ⟨rfl, rfl⟩)
        · have hTB : numsOf T = tkB zs := by
            rw [hTn]; unfold aft
            rw [(bef_of_take a1 (show (bef 32 zs).length < n - 1 by unfold tkD at h4; omega)).1]
            unfold tkB; rw [← hn]; rfl
          rw [hTB] at C4
          by_cases h5 : (61 : Int) ∈ tkB zs
          · have hEQ : decide (((61 : UInt8).toNat : Int) ∈ tkB zs) = true := decide_eq_true h5
            rw [hEQ] at C4
            have hKD : strOfNums (bef ((61 : UInt8).toNat : Int) (tkB zs)) = (tkR zs).1 ∧ strOfNums (aft ((61 : UInt8).toNat : Int) (tkB zs)) = (tkR zs).2 := ⟨rfl, rfl⟩
            rw [hKD.1, hKD.2] at C4
            have C3' : Hid (∀ w', Calls Tryz.prog 177 #[.string L, .string { data := #[32] }] w' fun e w'' => e = .returned (.tuple #[.string (strOfNums (bef ((32 : UInt8).toNat : Int) (numsOf L))), .string T, .bool (decide (((32 : UInt8).toNat : Int) ∈ numsOf L))]) ∧ Below w'.heap.size w' w'') := C3
            have ho := oth_tk hb
            have ho6 : oth ((tkR zs).1, (tkR zs).2) ≤ 1000000 := by
              show oth (tkR zs) ≤ _
              rw [ho]; have := kv_len zs; omega
            have C5 : Hid (∀ w', Below w.heap.size w w' → Calls Tryz.prog 120 #[.agg #[.string (tkR zs).1, .string (tkR zs).2]] w' fun e w'' => e = .returned (.int .i64 ((szR (tkR zs) : Nat) : Int)) ∧ Below w'.heap.size w' w'') := fun w' hbw =>
              size_any (tkR zs).1 (tkR zs).2 w' (V.go hbw) ho6
            have hsz : szR (tkR zs) = szN ((tkK zs).length + (tkV zs).length + 3) := by unfold szR; rw [ho]
            by_cases h6 : szN ((tkK zs).length + (tkV zs).length + 3) = tkN zs
            · have T0 : TkOk zs := ⟨a1, a2, by omega, by omega, by omega, by omega, by rw [← hn]; exact h3, h5, h6⟩
              have eE : tkE zs = 0 := (tkE_ok zs).2 T0
              have eX : tkX zs = tkR zs := by unfold tkX; rw [if_pos eE]
              rw [eX, eE]
              exact pf_good s w _ _ n C1 P1 (by omega) (by omega) (by omega) L _ T _ _ _ C2 C3' C4 _ C5 (by rw [hsz, h6, hn]; simp)
            · have eE : tkE zs = 6 := by unfold tkE; rw [if_neg h1', if_neg (by rw [← hn]; exact h2), if_pos (.inr (.inr (.inr h6)))]
              have eX : tkX zs = ({ data := #[] }, { data := #[] }) := by unfold tkX; rw [eE]; rfl
              rw [eX, eE]
              exact pf_size s w _ _ n C1 P1 (by omega) (by omega) (by omega) L _ T _ _ _ C2 C3' C4 _ C5 (by rw [hsz, hn]; simp; omega)
          · have hEQ : decide (((61 : UInt8).toNat : Int) ∈ tkB zs) = false := decide_eq_false h5
            rw [hEQ] at C4
            have eE : tkE zs = 6 := by unfold tkE; rw [if_neg h1', if_neg (by rw [← hn]; exact h2), if_pos (.inr (.inr (.inl h5)))]
            have eX : tkX zs = ({ data := #[] }, { data := #[] }) := by unfold tkX; rw [eE]; rfl
            rw [eX, eE]
            exact pf_noline s w _ _ n C1 P1 (by omega) (by omega) (by omega) L _ T _ _ true _ false C2 C3 C4 (.inr ⟨rfl, rfl⟩)
      · have C2 : Hid (∀ w', Calls Tryz.prog 178 #[.string (s.extract 0 n), .string { data := #[10] }] w' fun e w'' => e = .returned (.tuple #[.string (s.extract 0 n), .bool false]) ∧ w' = w'') := fun w' =>
          suf_no (s.extract 0 n) w' (mx _ (by omega)) (.inr (by rw [hex, hexs, List.getD_eq_getElem?_getD, List.getElem?_take, if_pos (by omega), ← List.getD_eq_getElem?_getD]; exact h3))
        have C3 := cutA (s.extract 0 n) 32 (by omega)
        have C4 := cutA (strOfNums (aft ((32 : UInt8).toNat : Int) (numsOf (s.extract 0 n)))) 61 (asz _ _ (by omega))
        have eE : tkE zs = 6 := by unfold tkE; rw [if_neg h1', if_neg (by rw [← hn]; exact h2), if_pos (.inr (.inl (by rw [← hn]; exact h3)))]
        have eX : tkX zs = ({ data := #[] }, { data := #[] }) := by unfold tkX; rw [eE]; rfl
        rw [eX, eE]
        exact pf_noline s w _ _ n C1 P1 (by omega) (by omega) (by omega) _ _ _ _ _ false _ _ C2 C3 C4 (.inl rfl)
end Go.Proofs.YtbbaleambgaanaaGreatDoor.Pxr
/-
  Layer 9: the program's Parse.
-/
namespace Go.Proofs.YtbbaleambgaanaaGreatDoor.Pxr
open Go.RowKit

/-- the call returned these records, this number, this error; nothing that was there in w has turned -/
def RetRecs (rs : List Rec) (N : Nat) (E : Int) (w : World) (e : Ending) (w' : World) : Prop :=
  ∃ a l c, e = .returned (.tuple #[.slice a l c, .int .i64 (N : Int), .int .i64 E]) ∧ l = rs.length ∧ l ≤ c ∧ c ≤ maxLen ∧ RecsIn w' a rs ∧ Below w.heap.size w w'
theorem RetRecs.nil {N : Nat} {E : Int} {w w' : World} (h : Below w.heap.size w w') : RetRecs [] N E w (.returned (.tuple #[.slice none 0 0, .int .i64 (N : Int), .int .i64 E])) w' :=
  ⟨none, 0, 0, rfl, rfl, Nat.le_refl _, Nat.zero_le _, .inl rfl, h⟩

/-- the same; the records lie in new memory -/
def RetRecsF (rs : List Rec) (N : Nat) (E : Int) (w : World) (e : Ending) (w' : World) : Prop :=
  ∃ a l c, e = .returned (.tuple #[.slice a l c, .int .i64 (N : Int), .int .i64 E]) ∧ l = rs.length ∧ l ≤ c ∧ c ≤ maxLen ∧ RecsIn w' a rs ∧ Below w.heap.size w w' ∧ ∀ x, a = some x → w.heap.size ≤ x.block
theorem RetRecsF.nil {N : Nat} {E : Int} {w w' : World} (h : Below w.heap.size w w') : RetRecsF [] N E w (.returned (.tuple #[.slice none 0 0, .int .i64 (N : Int), .int .i64 E])) w' :=
  ⟨none, 0, 0, rfl, rfl, Nat.le_refl _, Nat.zero_le _, .inl rfl, h, fun x hx => by cases hx⟩
theorem RetRecsF.ret {rs : List Rec} {N : Nat} {E : Int} {w w' : World} {e : Ending} (h : RetRecsF rs N E w e w') : RetRecs rs N E w e w' := by
  obtain ⟨a, l, c, h1, h2, h3, h4, h5, h6, _⟩ := h
  exact ⟨a, l, c, h1, h2, h3, h4, h5, h6⟩

theorem tkX_sz {zs : List Int} (hz : ∀ z ∈ zs, 0 ≤ z ∧ z ≤ 255) (hl : zs.length ≤ 300000) : (tkX zs).1.size ≤ 300000 ∧ (tkX zs).2.size ≤ 300000 := by
  unfold tkX
  split
  · have := kv_len zs
    obtain ⟨h1, h2⟩ := bd_of_take hz
    exact ⟨str_bd (by omega) h1, str_bd (by omega) h2⟩
  · exact ⟨Nat.zero_le _, Nat.zero_le _⟩

set_option maxHeartbeats 8000000 in
set_option maxRecDepth 100000 in
theorem parse_new (a : Option Addr) (n cap : Nat) (zs : List Int) (w : World) (V : Vars w) (hn : zs.length = n) (hz : ∀ z ∈ zs, 0 ≤ z ∧ z ≤ 255) (hi : BytesIn w a zs) (hN : n ≤ 300000) :
    Calls Tryz.prog 129 #[.slice a n cap] w (RetRecsF (parZ zs).1 (parZ zs).2.1 (parZ zs).2.2 w) := by
  obtain ⟨PR, hPR⟩ := named (parZ zs).1
  obtain ⟨PN, hPN⟩ := named (parZ zs).2.1
  obtain ⟨PE, hPE⟩ := named (parZ zs).2.2
  have hP : Hid (parZ zs = (PR, PN, PE)) := by show _ = _; rw [hPR.out, hPN.out, hPE.out]
  rw [← hPR.out, ← hPN.out, ← hPE.out]
  by_cases hb : 262144 < n
  · have e : (PR, PN, PE) = (([] : List Rec), 0, (7 : Int)) := by rw [← hP.out]; unfold parZ; rw [if_pos (by omega)]
    simp only [Prod.mk.injEq] at e
    obtain ⟨rfl, rfl, rfl⟩ := e
    have m1 : (262144 : Int) < n := by omega
    clear hP hPR hPN hPE
    go_enter Tryz.func129, Tryz.ntmps129
    go_wp2
    go_ret3
    exact .nil (Below.refl _ _)
  · have m1 : ¬ (262144 : Int) < n := by omega
    obtain ⟨i0, hI⟩ := recI
    obtain ⟨S, hS⟩ := named (strOfNums zs)
    have hSn : numsOf S = zs := by rw [hS.out]; exact numsOf_strOfNums hz
    have hSs : S.size = n := by rw [← numsOf_length, hSn, hn]
    have hcv := run_str_in (P := Tryz.prog) Tryz.underlying24 Tryz.underlying5 Tryz.underlying9 hi n cap hn
    rw [← hS.out] at hcv
    have HP0 : Hid (pgo (n + 1) [] 0 zs = (PR, PN, PE)) := by show _ = _; rw [← hP.out]; unfold parZ; rw [hn, if_neg hb]
    have HV := Lib.hid V
    have NS := Lib.hid hSn; have SS := Lib.hid hSs; have HZB := Lib.hid hz; have HNL := Lib.hid hn
    have hJ := Lib.hid recJ; have HZ := Lib.hid recZ; have HO := Lib.hid recO
    have HB := Lib.hid hb
    have HUnd := Lib.hid Tryz.underlying57
    obtain ⟨B, hBd⟩ := named w.heap.size
    clear hP hPR hPN hPE hSn hSs hz hi V hn hb hN
    go_enter Tryz.func129, Tryz.ntmps129
    go_wp2_with fail
    clear hcv
    go_loopw [6, 7] (fun l o wr => ∃ (out : List Rec) (at_ f : Nat), o = .int .i64 at_ ∧ at_ ≤ n ∧ out.length ≤ at_ ∧ n < at_ + f ∧ pgo f out at_ zs = (PR, PN, PE) ∧ wr.ownsRow w.heap.size 107 2 l out.length (recCells out) ∧ Below w.heap.size w wr)
      (fun _ o _ => n + 1 - (intOf o).toNat)
    case atStart => exact ⟨[], 0, n + 1, rfl, Nat.zero_le _, Nat.le_refl _, by omega, HP0.out, ⟨rfl, .inl ⟨rfl, rfl⟩⟩, Below.refl _ _⟩
    case round =>
      obtain ⟨out, at_, f, rfl, hat, hol, hf, hgo, hown, hbel⟩ := hrel
      obtain ⟨g, rfl⟩ : ∃ g, f = g + 1 := ⟨f - 1, by omega⟩
      have HG := Lib.hid hgo; have HW := Lib.hid hown; have HL := Lib.hid hbel; have HF := Lib.hid hf; have HOL := Lib.hid hol
      obtain ⟨va, vc, hv, hvn, hvc, hvm, hvi, hvb⟩ := RecsIn.of_own hown
      subst hv
      have HVB := Lib.hid hvb; have HVI := Lib.hid hvi; have HVC := Lib.hid hvc; have HVM := Lib.hid hvm
      clear hgo hown hbel hf hol hvi hvn hvc hvm hvb
      by_cases hlt : at_ < n
      · have q1 : (at_ : Int) < S.size := by rw [SS.out]; omega
        have q2 : (at_ : Int) ≤ S.size := by omega
        have hzn : ¬ zs.length ≤ at_ := by rw [HNL.out]; omega
        obtain ⟨sub, hsub⟩ := named (S.extract at_ S.size)
        have hsubn : numsOf sub = zs.drop at_ := by
          rw [hsub.out, nums_ext, NS.out, List.take_of_length_le (by rw [List.length_drop, SS.out, HNL.out]; omega)]
        have hsubs : sub.size ≤ 300000 := by rw [← numsOf_length, hsubn, List.length_drop, HNL.out]; have := HB.out; omega
        have PF := pfirst_any sub wr (HV.out.go HL.out) hsubs
        rw [hsubn] at PF
        have hdz : ∀ z ∈ zs.drop at_, 0 ≤ z ∧ z ≤ 255 := fun z hz0 => HZB.out z (List.mem_of_mem_drop hz0)
        have XS := tkX_sz hdz (by rw [List.length_drop, HNL.out]; have := HB.out; omega)
        obtain ⟨E, hE⟩ := named (tkE (zs.drop at_))
        obtain ⟨K, hK⟩ := named (tkX (zs.drop at_)).1
        obtain ⟨D, hD⟩ := named (tkX (zs.drop at_)).2
        rw [← hE.out, ← hK.out, ← hD.out] at PF
        rw [← hK.out, ← hD.out] at XS
        have HPF := Lib.hid PF
        have HXS := Lib.hid XS
        have HZN := Lib.hid hzn
        clear PF XS hsubn hsubs hdz hzn hlt
        by_cases hE0 : E = 0
        · have T0 : TkOk (zs.drop at_) := (tkE_ok _).1 (by rw [← hE.out]; exact hE0)
          have hX : tkX (zs.drop at_) = tkR (zs.drop at_) := by unfold tkX; rw [if_pos (by rw [← hE.out]; exact hE0)]
          have hKD : Hid ((K, D) = tkR (zs.drop at_)) := by show _ = _; rw [hK.out, hD.out, hX]
          have hte : Hid (tkE (zs.drop at_) = 0) := by show _ = _; rw [← hE.out]; exact hE0
          have hdz : ∀ z ∈ zs.drop at_, 0 ≤ z ∧ z ≤ 255 := fun z hz0 => HZB.out z (List.mem_of_mem_drop hz0)
          have hSZ : Hid (szR (K, D) = tkN (zs.drop at_)) := by show _ = _; rw [hKD.out]; exact (tk_en hdz T0).2
          have hoth : Hid (oth (K, D) ≤ 1000000) := by
            show _ ≤ _
            rw [hKD.out, oth_tk hdz]
            have := kv_len (zs.drop at_)
            rw [List.length_drop, HNL.out] at this
            have := HB.out
            omega
          have hTN : 1 ≤ tkN (zs.drop at_) ∧ tkN (zs.drop at_) ≤ n - at_ := ⟨T0.pos, by have := T0.len; rw [List.length_drop, HNL.out] at this; exact this⟩
          have HTN := Lib.hid hTN
          subst hE0
          obtain ⟨C, hC⟩ := named (chkN out (K, D))
          have HCN := Lib.hid fun (w' : World) (hb : Below w.heap.size w w') (hr : RecsIn w' va out) =>
            (show Calls Tryz.prog 118 #[.slice va out.length vc, .agg #[.string K, .string D]] w' fun e w'' => e = .returned (.int .i64 C) ∧ Below w'.heap.size w' w'' by
              rw [hC.out]; exact next_any va out.length vc out K D w' (HV.out.go hb) (by have := HXS.out; unfold maxLen; omega) rfl HVC.out HVM.out hr)
          clear T0 hX hTN hdz
          go_wp2_with fail
          rw [← hsub.out]
          refine HPF.out.mono ?_; rintro e w1 ⟨rfl, b1⟩
          have HNE : Hid (some w1.heap.size ≠ (Value.slice va out.length vc).ownBlock) := fun e => by
            cases hq : va with
            | none => rw [hq] at e; cases e
            | some x =>
              rw [hq] at e
              have h1 := (HVB.out x hq).2
              have h2 := b1.size
              have h3 : w1.heap.size = x.block := Option.some.inj e
              omega
          have I1 := Lib.hid (HVI.out.below b1)
          have W1 := Lib.hid (own_stay HW.out b1 (Nat.le_refl _))
          have B1 := Lib.hid (belT HL.out b1)
          clear b1
          go_wp2_with (first | (refine wpList_alloc_obj rfl 107 rfl rz HZ.out ?_; intro w2 g2 b2; have R2 := Lib.hid g2; have A2 := Lib.hid b2; have B2 := Lib.hid (belT B1.out b2); clear g2 b2) | (refine wpList_store_obj rfl 107 _ _ rfl w1.heap.size rfl [.string K, .string D] rz rfl 107 R2.out HO.out.2 rfl (rec_one _ _) ?_; intro w3 g3 t3; have R3 := Lib.hid g3; have A3 := Lib.hid (A2.out.trans (t3.below (Nat.le_refl w1.heap.size))); have I3 := Lib.hid (I1.out.below A3.out); have W3 := Lib.hid (own_stay W1.out A3.out (Nat.le_refl _)); have B3 := Lib.hid (belT B1.out A3.out); have c0 := g3.get 0 rfl; have c1 := g3.get 1 rfl; clear g3 t3))
          refine (HCN.out _ B3.out I3.out).mono ?_; rintro e w4 ⟨rfl, b4⟩
          have R4 := Lib.hid (R3.out.below b4 R3.out.lt)
          have W4 := Lib.hid (own_stay W3.out b4 (Nat.le_refl _))
          have B4 := Lib.hid (belT B3.out b4)
          clear b4 c0 c1
          by_cases hC0 : C = 0
          · have HG2 : Hid (pgo g (out ++ [(K, D)]) (at_ + tkN (zs.drop at_)) zs = (PR, PN, PE)) := by
              show _ = _
              have := HG.out
              rw [pgo_go HZN.out hte.out (by rw [← hKD.out, ← hC.out]; exact hC0), ← hKD.out] at this
              exact this
            have SA := Lib.hid (fun (w' : World) (hb : Below w.heap.size w w') => size_any K D w' (HV.out.go hb) hoth.out)
            rw [hSZ.out] at SA
            obtain ⟨tn, htn⟩ := named (tkN (zs.drop at_))
            rw [← htn.out] at SA HTN HG2
            have c0 := R4.out.get 0 rfl
            have c1 := R4.out.get 1 rfl
            have LR := Lib.hid R4.out.lt
            have hva := RecsIn.of_own W4.out
            have ho6 : Hid (out.length ≤ 1000000) := by show _ ≤ _; have := HOL.out; have := HB.out; omega
            have p1 : (at_ : Int) + tn ≤ 1000000 := by have := HTN.out; have := HB.out; omega
            have HC0 := Lib.hid hC0
            subst hC0
            clear hva
            go_wp2_with (first | (refine wpList_lit_rec rfl _ 107 _ rfl HUnd.out _ hJ.out K D rfl ?_; intro w5 g5 b5; have G5 := Lib.hid g5; have R5 := Lib.hid (R4.out.below b5 LR.out); have W5 := Lib.hid (own_stay W4.out b5 (Nat.le_refl _)); have B5 := Lib.hid (belT B4.out b5); clear g5 b5) | (at_builtin; refine wpList_append_rec rfl _ _ _ rfl w.heap.size _ i0 _ HUnd.out hI _ out.length out rfl W5.out w4.heap.size (K, D) rfl G5.out ho6.out B5.out.size ?_; intro v6 w6 o6 b6 k6; have W6 := Lib.hid o6; have B6 := Lib.hid (B5.out.trans b6); have r6 := (k6 w1.heap.size R5.out.lt HNE.out).trans R5.out; have R6 : Hid (ObjAt w6 w1.heap.size 107 [.string K, .string D]) := r6; have d0 := R6.out.get 0 rfl; have d1 := R6.out.get 1 rfl; clear o6 b6 k6 r6))
            refine (SA.out _ B6.out).mono ?_; rintro e w7 ⟨rfl, b7⟩
            have W7 := Lib.hid (own_stay W6.out b7 (Nat.le_refl _))
            have B7 := Lib.hid (belT B6.out b7)
            clear b7 d0 d1 c0 c1
            go_wp2
            go_roundw
            case rel => exact ⟨out ++ [(K, D)], at_ + tn, g, by go_num, by have := HTN.out; omega, by rw [List.length_append, List.length_singleton]; have := HTN.out; have := HOL.out; omega, by have := HTN.out; have := HF.out; omega, HG2.out, by rw [List.length_append, List.length_singleton]; exact W7.out, B7.out⟩
            case measure => simp [intOf]; have := HTN.out; omega
          · have q3 : (C == 0) = false := by simpa using hC0
            have q4 : (C != 0) = true := by simpa using hC0
            have R0 : Hid (([] : List Rec) = PR ∧ at_ = PN ∧ C = PE) := by
              show _ ∧ _ ∧ _
              have := HG.out
              rw [pgo_wrong HZN.out hte.out (by rw [← hKD.out, ← hC.out]; exact hC0), ← hKD.out, ← hC.out] at this
              simpa using this
            clear hC0
            go_wp2
            go_ret3
            obtain ⟨r1, r2, r3⟩ := R0.out
            rw [← r1, ← r2, ← r3]
            exact .nil B4.out
        · have q3 : (E == 0) = false := by simpa using hE0
          have q4 : (E != 0) = true := by simpa using hE0
          have R0 : Hid (([] : List Rec) = PR ∧ at_ = PN ∧ E = PE) := by
            show _ ∧ _ ∧ _
            have := HG.out
            rw [pgo_bad HZN.out (by rw [← hE.out]; exact hE0), ← hE.out] at this
            simpa using this
          clear hE0
          go_wp2_with fail
          rw [← hsub.out]
          refine HPF.out.mono ?_; rintro e w1 ⟨rfl, b1⟩
          have B1 := Lib.hid (belT HL.out b1)
          clear b1
          go_wp2_with (first | (refine wpList_alloc_obj rfl 107 rfl rz HZ.out ?_; intro w2 g2 b2; have R2 := Lib.hid g2; have B2 := Lib.hid (belT B1.out b2); clear g2 b2) | (refine wpList_store_obj rfl 107 _ _ rfl w1.heap.size rfl [.string K, .string D] rz rfl 107 R2.out HO.out.2 rfl (rec_one _ _) ?_; intro w3 g3 t3; have R3 := Lib.hid g3; have B3 := Lib.hid (B2.out.trans (t3.below B1.out.size)); clear g3 t3))
          go_ret3
          obtain ⟨r1, r2, r3⟩ := R0.out
          rw [← r1, ← r2, ← r3]
          exact .nil B3.out
      · obtain rfl : at_ = n := by omega
        have q1 : ¬ (at_ : Int) < S.size := by rw [SS.out]; omega
        have R0 : Hid (out = PR ∧ at_ = PN ∧ (0 : Int) = PE) := by
          show _ ∧ _ ∧ _
          have := HG.out
          rw [pgo_stop (by rw [HNL.out]; exact Nat.le_refl _), HNL.out] at this
          simpa using this
        clear hlt
        go_wp2
        go_ret3
        obtain ⟨r1, r2, r3⟩ := R0.out
        rw [← r1, ← r2, ← r3]
        exact ⟨va, out.length, vc, rfl, rfl, HVC.out, HVM.out, HVI.out, HL.out, fun x hx => (HVB.out x hx).1⟩
theorem parse_any (a : Option Addr) (n cap : Nat) (zs : List Int) (w : World) (V : Vars w) (hn : zs.length = n) (hz : ∀ z ∈ zs, 0 ≤ z ∧ z ≤ 255) (hi : BytesIn w a zs) (hN : n ≤ 300000) :
    Calls Tryz.prog 129 #[.slice a n cap] w (RetRecs (parZ zs).1 (parZ zs).2.1 (parZ zs).2.2 w) :=
  (parse_new a n cap zs w V hn hz hi hN).mono fun _ _ h => h.ret
end Go.Proofs.YtbbaleambgaanaaGreatDoor.Pxr
