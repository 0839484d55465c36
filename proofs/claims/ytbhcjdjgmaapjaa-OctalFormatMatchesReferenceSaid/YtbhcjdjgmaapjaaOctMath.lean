/-
  The numbers of layer 1: the greatest number of k octal digits.
-/
namespace Go.Proofs.Ytbhcjdjgmaapjaa

/-- the greatest number of k octal digits -/
def mx (k : Nat) : Int := 8 ^ k - 1

theorem mx_zero : mx 0 = 0 := rfl
theorem mx_succ (k : Nat) : mx (k + 1) = mx k * 8 + 7 := by unfold mx; rw [Int.pow_succ]; omega
theorem mx_nonneg (k : Nat) : 0 ≤ mx k := by
  induction k with
  | zero => exact Int.le_refl 0
  | succ k ih => rw [mx_succ]; omega
theorem mx_mono {j k : Nat} (h : j ≤ k) : mx j ≤ mx k := by
  induction h with
  | refl => exact Int.le_refl _
  | step _ ih => rw [mx_succ]; have := mx_nonneg (by assumption); omega
theorem mx_20 : mx 20 = 1152921504606846975 := by decide
theorem mx_21 : mx 21 = 9223372036854775807 := by decide
theorem mx_small {k : Nat} (h : k < 21) : mx k ≤ 1152921504606846975 := by have := mx_mono (show k ≤ 20 by omega); rw [mx_20] at this; exact this
theorem mx_le {k : Nat} (h : k ≤ 21) : mx k ≤ 9223372036854775807 := by have := mx_mono h; rw [mx_21] at this; exact this


/-- what is left of n behind j divisions by 8 -/
def sh (n : Int) (j : Nat) : Int := n / 8 ^ j
theorem sh_zero (n : Int) : sh n 0 = n := by simp [sh]
theorem sh_succ (n : Int) (j : Nat) : sh n (j + 1) = sh n j / 8 := by
  unfold sh; rw [Int.pow_succ, Int.ediv_ediv_of_nonneg (Int.pow_nonneg (by decide))]
theorem sh_nonneg {n : Int} (h : 0 ≤ n) (j : Nat) : 0 ≤ sh n j := Int.ediv_nonneg h (Int.pow_nonneg (by decide))
theorem sh_le {n : Int} (h : 0 ≤ n) (j : Nat) : sh n j ≤ n := Int.ediv_le_self _ h

/-- the j least digits of n, the greatest first -/
def oct : Nat → Int → List Int
  | 0, _ => []
  | j + 1, n => (48 + sh n j % 8) :: oct j n
theorem oct_length (j : Nat) (n : Int) : (oct j n).length = j := by induction j with
  | zero => rfl
  | succ j ih => simp [oct, ih]
/-- the field of n with k digits -/
def fld (k : Nat) (n : Int) : List Int := oct k n ++ [0]
theorem fld_length (k : Nat) (n : Int) : (fld k n).length = k + 1 := by simp [fld, oct_length]
/-- the field when j digits are filled -/
def part (k j : Nat) (n : Int) : List Int := List.replicate (k - j) 0 ++ (oct j n ++ [0])
theorem part_zero (k : Nat) (n : Int) : part k 0 n = List.replicate (k + 1) 0 := by
  simp [part, oct, List.replicate_succ']
theorem part_full (k : Nat) (n : Int) : part k k n = fld k n := by simp [part, fld]
theorem part_step {k j : Nat} (n : Int) (h : j < k) : (part k j n).set (k - 1 - j) (48 + sh n j % 8) = part k (j + 1) n := by
  unfold part
  have e : k - j = (k - 1 - j) + 1 := by omega
  rw [e, List.replicate_succ', List.append_assoc, List.set_append_right _ _ (by simp)]
  simp [oct, show k - (j + 1) = k - 1 - j by omega]
theorem part_at {k j : Nat} (n : Int) (h : j < k) : (part k j n)[k - 1 - j]? = some 0 := by
  unfold part
  rw [List.getElem?_append_left (by rw [List.length_replicate]; omega), List.getElem?_replicate, if_pos (by omega)]

theorem part_lt {k j : Nat} (n : Int) (h : j < k) : (part k j n).length = k + 1 := by simp [part, oct_length]; omega

/-- the number of a list of digits -/
def val (ds : List Int) : Int := ds.foldl (fun a c => a * 8 + (c - 48)) 0
theorem val_nil : val [] = 0 := rfl
theorem val_snoc (ds : List Int) (c : Int) : val (ds ++ [c]) = val ds * 8 + (c - 48) := by simp [val, List.foldl_append]
def OctD (ds : List Int) : Prop := ∀ d ∈ ds, 48 ≤ d ∧ d ≤ 55
theorem take_snoc {ds : List Int} {j : Nat} (h : j < ds.length) : ds.take (j + 1) = ds.take j ++ [ds.getD j 0] := by
  rw [List.take_succ_eq_append_getElem h]; simp [h]
theorem val_bd : ∀ (j : Nat) (ds : List Int), ds.length = j → OctD ds → 0 ≤ val ds ∧ val ds ≤ mx j
  | 0, ds, h, _ => by
    obtain rfl : ds = [] := List.length_eq_zero_iff.1 h
    exact ⟨Int.le_refl 0, Int.le_refl 0⟩
  | j + 1, ds, h, hd => by
    have hne : ds ≠ [] := by intro e; rw [e] at h; simp at h
    obtain ⟨xs, c, rfl⟩ : ∃ xs c, ds = xs ++ [c] := ⟨ds.dropLast, ds.getLast hne, (List.dropLast_concat_getLast hne).symm⟩
    have ih := val_bd j xs (by simpa using h) (fun d m => hd d (by simp [m]))
    have := hd c (by simp)
    rw [val_snoc, mx_succ]
    omega

theorem oct_bd (j : Nat) (n : Int) : OctD (oct j n) := by
  induction j with
  | zero => intro d h; simp [oct] at h
  | succ j ih =>
    intro d h
    rcases List.mem_cons.1 h with rfl | h
    · omega
    · exact ih d h
theorem fld_bd (k : Nat) (n : Int) : ∀ z ∈ fld k n, 0 ≤ z ∧ z ≤ 255 := by
  intro z h
  rcases List.mem_append.1 h with h | h
  · have := oct_bd k n z h; omega
  · obtain rfl : z = 0 := by simpa using h
    omega

end Go.Proofs.Ytbhcjdjgmaapjaa
