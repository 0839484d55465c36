/-
  Layer 7: what stands in the program's block behind each row of its table. No memory.
-/
import Derived.Test.YtbgmhdhfcckbbaaDoorUstMore
namespace Go.Proofs.YtbgmhdhfcckbbaaDoor.Ust
open Oct Cst Chk

/-- the rows' offsets and widths -/
def offT (j : Nat) : Nat := [0, 100, 108, 116, 124, 136, 156, 157, 257, 263, 329, 337, 345].getD j 0
def wdT (j : Nat) : Nat := [100, 8, 8, 8, 12, 12, 1, 100, 6, 2, 8, 8, 155].getD j 0

section
variable (T : Int) (nm pf lk : ByteArray) (md sz : Int)
/-- what row j writes -/
def valT (j : Nat) : List Int :=
  [fldS (numsOf nm) 100, fld 7 md, fld 7 0, fld 7 0, fld 11 sz, fld 11 0, [T], fldS (numsOf lk) 100, [117, 115, 116, 97, 114, 0], [48, 48], fld 7 0, fld 7 0, fldS (numsOf pf) 155].getD j []
/-- the block behind j rows -/
def cont : Nat → List Int
  | 0 => zeros 512
  | j + 1 => lay (cont j) (offT j) (valT T nm pf lk md sz j)
end

theorem zeros_add (m n : Nat) : zeros (m + n) = zeros m ++ zeros n := List.replicate_append_replicate.symm
theorem lay_grow (A V : List Int) (g r : Nat) {o m : Nat} (ho : o = A.length + g) (hm : m = g + (V.length + r)) : lay (A ++ zeros m) o V = (A ++ (zeros g ++ V)) ++ zeros r := by
  subst ho; subst hm
  unfold lay
  rw [zeros_add g, zeros_add V.length, ← List.append_assoc A]
  have hl : (A ++ zeros g).length = A.length + g := by simp [zeros_length]
  rw [show A.length + g = (A ++ zeros g).length from hl.symm, List.take_left, ← List.drop_drop, List.drop_left]
  rw [List.drop_left' (zeros_length V.length)]
  simp [List.append_assoc]

section
variable {T : Int} {nm pf lk : ByteArray} {md sz : Int}
theorem valT_length (h : ckH T nm pf lk md sz = 0) {j : Nat} (hj : j < 13) : (valT T nm pf lk md sz j).length = wdT j := by
  obtain ⟨_, h2, h3, h4, _⟩ := ckH_zero.1 h
  have l1 := fldS_length _ _ (ce_len (k := 100) h2)
  have l2 := fldS_length _ _ (ce_len (k := 100) h3)
  have l3 := fldS_length _ _ (ce_len (k := 155) h4)
  have f7 := fld_length 7
  have f11 := fld_length 11
  match j, hj with
  | 0, _ => exact l1
  | 1, _ => exact f7 _
  | 2, _ => exact f7 _
  | 3, _ => exact f7 _
  | 4, _ => exact f11 _
  | 5, _ => exact f11 _
  | 6, _ => rfl
  | 7, _ => exact l2
  | 8, _ => rfl
  | 9, _ => rfl
  | 10, _ => exact f7 _
  | 11, _ => exact f7 _
  | 12, _ => exact l3
theorem wdT_fit {j : Nat} (hj : j < 13) : offT j + wdT j ≤ 500 := by
  match j, hj with
  | 0, _ => decide
  | 1, _ => decide
  | 2, _ => decide
  | 3, _ => decide
  | 4, _ => decide
  | 5, _ => decide
  | 6, _ => decide
  | 7, _ => decide
  | 8, _ => decide
  | 9, _ => decide
  | 10, _ => decide
  | 11, _ => decide
  | 12, _ => decide
theorem cont_length (h : ckH T nm pf lk md sz = 0) : ∀ {j : Nat}, j ≤ 13 → (cont T nm pf lk md sz j).length = 512
  | 0, _ => zeros_length 512
  | j + 1, hj => by
    have ih := cont_length h (j := j) (by omega)
    have hv := valT_length h (j := j) (by omega)
    have hw := wdT_fit (j := j) (by omega)
    unfold cont
    rw [lay_length _ _ _ (by omega), ih]

/-- behind all rows: all but the checksum -/
theorem cont_last (h : ckH T nm pf lk md sz = 0) : cont T nm pf lk md sz 13 = headA (numsOf nm) md sz ++ (zeros 8 ++ tailB T (numsOf pf) (numsOf lk)) := by
  obtain ⟨_, h2, h3, h4, _⟩ := ckH_zero.1 h
  have l1 := fldS_length _ _ (ce_len (k := 100) h2)
  have l2 := fldS_length _ _ (ce_len (k := 100) h3)
  have l3 := fldS_length _ _ (ce_len (k := 155) h4)
  have f7 := fld_length 7
  have f11 := fld_length 11
  have zl := zeros_length
  have e64 : zeros 64 = zeros 32 ++ zeros 32 := zeros_add 32 32
  obtain ⟨N, hN⟩ : ∃ N, N = fldS (numsOf nm) 100 := ⟨_, rfl⟩
  obtain ⟨L, hL⟩ : ∃ N, N = fldS (numsOf lk) 100 := ⟨_, rfl⟩
  obtain ⟨Q, hQ⟩ : ∃ N, N = fldS (numsOf pf) 155 := ⟨_, rfl⟩
  obtain ⟨M, hM⟩ : ∃ N, N = fld 7 md := ⟨_, rfl⟩
  obtain ⟨S, hS⟩ : ∃ N, N = fld 11 sz := ⟨_, rfl⟩
  obtain ⟨Z, hZ⟩ : ∃ N, N = fld 7 0 := ⟨_, rfl⟩
  obtain ⟨Y, hY⟩ : ∃ N, N = fld 11 0 := ⟨_, rfl⟩
  have m1 : M.length = 8 := by rw [hM]; exact f7 _
  have m2 : S.length = 12 := by rw [hS]; exact f11 _
  have m3 : Z.length = 8 := by rw [hZ]; exact f7 _
  have m4 : Y.length = 12 := by rw [hY]; exact f11 _
  rw [← hN] at l1; rw [← hL] at l2; rw [← hQ] at l3
  have c0 : cont T nm pf lk md sz 1 = ([] ++ (zeros 0 ++ N)) ++ zeros 412 := by
    show lay (zeros 512) 0 (fldS (numsOf nm) 100) = _
    rw [← hN]; exact lay_grow [] N 0 412 rfl (by rw [l1])
  have c1 : cont T nm pf lk md sz 2 = (N ++ (zeros 0 ++ M)) ++ zeros 404 := by
    show lay (cont T nm pf lk md sz 1) 100 (fld 7 md) = _
    rw [c0, ← hM]; exact lay_grow N M 0 404 (by simp [l1]) (by simp [m1])
  obtain ⟨A1, hA1⟩ : ∃ A, A = N ++ (zeros 0 ++ M) := ⟨_, rfl⟩
  have a1 : A1.length = 108 := by simp [hA1, l1, m1, zl]
  have c2 : cont T nm pf lk md sz 3 = (A1 ++ (zeros 0 ++ Z)) ++ zeros 396 := by
    show lay (cont T nm pf lk md sz 2) 108 (fld 7 0) = _
    rw [c1, ← hZ, ← hA1]; exact lay_grow A1 Z 0 396 (by simp [a1]) (by simp [m3])
  obtain ⟨A2, hA2⟩ : ∃ A, A = A1 ++ (zeros 0 ++ Z) := ⟨_, rfl⟩
  have a2 : A2.length = 116 := by simp [hA2, a1, m3, zl]
  have c3 : cont T nm pf lk md sz 4 = (A2 ++ (zeros 0 ++ Z)) ++ zeros 388 := by
    show lay (cont T nm pf lk md sz 3) 116 (fld 7 0) = _
    rw [c2, ← hZ, ← hA2]; exact lay_grow A2 Z 0 388 (by simp [a2]) (by simp [m3])
  obtain ⟨A3, hA3⟩ : ∃ A, A = A2 ++ (zeros 0 ++ Z) := ⟨_, rfl⟩
  have a3 : A3.length = 124 := by simp [hA3, a2, m3, zl]
  have c4 : cont T nm pf lk md sz 5 = (A3 ++ (zeros 0 ++ S)) ++ zeros 376 := by
    show lay (cont T nm pf lk md sz 4) 124 (fld 11 sz) = _
    rw [c3, ← hS, ← hA3]; exact lay_grow A3 S 0 376 (by simp [a3]) (by simp [m2])
  obtain ⟨A4, hA4⟩ : ∃ A, A = A3 ++ (zeros 0 ++ S) := ⟨_, rfl⟩
  have a4 : A4.length = 136 := by simp [hA4, a3, m2, zl]
  have c5 : cont T nm pf lk md sz 6 = (A4 ++ (zeros 0 ++ Y)) ++ zeros 364 := by
    show lay (cont T nm pf lk md sz 5) 136 (fld 11 0) = _
    rw [c4, ← hY, ← hA4]; exact lay_grow A4 Y 0 364 (by simp [a4]) (by simp [m4])
  obtain ⟨A5, hA5⟩ : ∃ A, A = A4 ++ (zeros 0 ++ Y) := ⟨_, rfl⟩
  have a5 : A5.length = 148 := by simp [hA5, a4, m4, zl]
  have c6 : cont T nm pf lk md sz 7 = (A5 ++ (zeros 8 ++ [T])) ++ zeros 355 := by
    show lay (cont T nm pf lk md sz 6) 156 [T] = _
    rw [c5, ← hA5]; exact lay_grow A5 [T] 8 355 (by simp [a5]) (by simp)
  obtain ⟨A6, hA6⟩ : ∃ A, A = A5 ++ (zeros 8 ++ [T]) := ⟨_, rfl⟩
  have a6 : A6.length = 157 := by simp [hA6, a5, zl]
  have c7 : cont T nm pf lk md sz 8 = (A6 ++ (zeros 0 ++ L)) ++ zeros 255 := by
    show lay (cont T nm pf lk md sz 7) 157 (fldS (numsOf lk) 100) = _
    rw [c6, ← hL, ← hA6]; exact lay_grow A6 L 0 255 (by simp [a6]) (by simp [l2])
  obtain ⟨A7, hA7⟩ : ∃ A, A = A6 ++ (zeros 0 ++ L) := ⟨_, rfl⟩
  have a7 : A7.length = 257 := by simp [hA7, a6, l2, zl]
  have c8 : cont T nm pf lk md sz 9 = (A7 ++ (zeros 0 ++ [117, 115, 116, 97, 114, 0])) ++ zeros 249 := by
    show lay (cont T nm pf lk md sz 8) 257 [117, 115, 116, 97, 114, 0] = _
    rw [c7, ← hA7]; exact lay_grow A7 _ 0 249 (by simp [a7]) (by simp)
  obtain ⟨A8, hA8⟩ : ∃ A, A = A7 ++ (zeros 0 ++ [117, 115, 116, 97, 114, 0]) := ⟨_, rfl⟩
  have a8 : A8.length = 263 := by simp [hA8, a7, zl]
  have c9 : cont T nm pf lk md sz 10 = (A8 ++ (zeros 0 ++ [48, 48])) ++ zeros 247 := by
    show lay (cont T nm pf lk md sz 9) 263 [48, 48] = _
    rw [c8, ← hA8]; exact lay_grow A8 _ 0 247 (by simp [a8]) (by simp)
  obtain ⟨A9, hA9⟩ : ∃ A, A = A8 ++ (zeros 0 ++ [48, 48]) := ⟨_, rfl⟩
  have a9 : A9.length = 265 := by simp [hA9, a8, zl]
  have c10 : cont T nm pf lk md sz 11 = (A9 ++ (zeros 64 ++ Z)) ++ zeros 175 := by
    show lay (cont T nm pf lk md sz 10) 329 (fld 7 0) = _
    rw [c9, ← hZ, ← hA9]; exact lay_grow A9 Z 64 175 (by simp [a9]) (by simp [m3])
  obtain ⟨A10, hA10⟩ : ∃ A, A = A9 ++ (zeros 64 ++ Z) := ⟨_, rfl⟩
  have a10 : A10.length = 337 := by simp [hA10, a9, m3, zl]
  have c11 : cont T nm pf lk md sz 12 = (A10 ++ (zeros 0 ++ Z)) ++ zeros 167 := by
    show lay (cont T nm pf lk md sz 11) 337 (fld 7 0) = _
    rw [c10, ← hZ, ← hA10]; exact lay_grow A10 Z 0 167 (by simp [a10]) (by simp [m3])
  obtain ⟨A11, hA11⟩ : ∃ A, A = A10 ++ (zeros 0 ++ Z) := ⟨_, rfl⟩
  have a11 : A11.length = 345 := by simp [hA11, a10, m3, zl]
  have c12 : cont T nm pf lk md sz 13 = (A11 ++ (zeros 0 ++ Q)) ++ zeros 12 := by
    show lay (cont T nm pf lk md sz 12) 345 (fldS (numsOf pf) 155) = _
    rw [c11, ← hQ, ← hA11]; exact lay_grow A11 Q 0 12 (by simp [a11]) (by simp [l3])
  rw [c12, hA11, hA10, hA9, hA8, hA7, hA6, hA5, hA4, hA3, hA2, hA1, e64]
  unfold headA tailB magic
  rw [← hN, ← hL, ← hQ, ← hM, ← hS, ← hZ, ← hY]
  have z0 : zeros 0 = [] := rfl
  simp only [z0, List.nil_append, List.append_assoc, List.cons_append]

theorem cont_sealed (h : ckH T nm pf lk md sz = 0) : sealZ (cont T nm pf lk md sz 13) = encH T nm pf lk md sz := by
  obtain ⟨_, h2, h3, h4, _⟩ := ckH_zero.1 h
  have la := headA_length (md := md) (sz := sz) (ce_len (k := 100) h2)
  have hF : (zeros 8).length = 8 := zeros_length 8
  have e1 : cont T nm pf lk md sz 13 = lay (rawH T nm pf lk md sz) 148 (zeros 8) := by
    rw [cont_last h]
    unfold lay
    rw [hF]
    have a1 : (rawH T nm pf lk md sz).take 148 = headA (numsOf nm) md sz := app_take la
    have a2 : (rawH T nm pf lk md sz).drop (148 + 8) = tailB T (numsOf pf) (numsOf lk) := by
      unfold rawH
      rw [app_drop 148 8 la rfl, app_drop 8 0 sp8_length rfl, List.drop_zero]
    rw [a1, a2]
  rw [e1, sealZ_lay _ _ (raw_length h) hF]
  rfl
end
end Go.Proofs.YtbgmhdhfcckbbaaDoor.Ust
