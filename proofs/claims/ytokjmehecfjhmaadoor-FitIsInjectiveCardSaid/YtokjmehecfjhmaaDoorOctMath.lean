/-
  The numbers of layer 1: the greatest number of k octal digits.
-/
namespace Go.Proofs.YtokjmehecfjhmaaDoor.Oct

/-- the greatest number of k octal digits -/
def mx (k : Nat) : Int := 8 ^ k - 1

theorem mx_zero : mx 0 = 0 := rfl
theorem mx_succ (k : Nat) : mx (k + 1) = mx k * 8 + 7 := by unfold mx; rw [Int.pow_succ]; omega
theorem mx_nonneg (k : Nat) : 0 ≤ mx k := by
  induction k with
  | zero => exact Int.le_refl 0
  | succ k ih => rw [mx_succ]; omega
theorem mx_mono {j k : Nat} (h : j ≤ k) : mx j ≤ mx k := by
  induction h with
  | refl => exact Int.le_refl _
  | step _ ih => rw [mx_succ]; have := mx_nonneg (by assumption); omega
theorem mx_20 : mx 20 = 1152921504606846975 := by decide
theorem mx_21 : mx 21 = 9223372036854775807 := by decide
theorem mx_small {k : Nat} (h : k < 21) : mx k ≤ 1152921504606846975 := by have := mx_mono (show k ≤ 20 by omega); rw [mx_20] at this; exact this
theorem mx_le {k : Nat} (h : k ≤ 21) : mx k ≤ 9223372036854775807 := by have := mx_mono h; rw [mx_21] at this; exact this


/-- what is left of n behind j divisions by 8 -/
def sh (n : Int) (j : Nat) : Int := n / 8 ^ j
theorem sh_zero (n : Int) : sh n 0 = n := by simp [sh]
theorem sh_succ (n : Int) (j : Nat) : sh n (j + 1) = sh n j / 8 := by
  unfold sh; rw [Int.pow_succ, Int.ediv_ediv_of_nonneg (Int.pow_nonneg (by decide))]
theorem sh_nonneg {n : Int} (h : 0 ≤ n) (j : Nat) : 0 ≤ sh n j := Int.ediv_nonneg h (Int.pow_nonneg (by decide))
theorem sh_le {n : Int} (h : 0 ≤ n) (j : Nat) : sh n j ≤ n := Int.ediv_le_self _ h

/-- the j least digits of n, the greatest first -/
def oct : Nat → Int → List Int
  | 0, _ => []
  | j + 1, n => (48 + sh n j % 8) :: oct j n
theorem oct_length (j : Nat) (n : Int) : (oct j n).length = j := by induction j with
  | zero => rfl
  | succ j ih => simp [oct, ih]
/-- the field of n with k digits -/
def fld (k : Nat) (n : Int) : List Int := oct k n ++ [0]
theorem fld_length (k : Nat) (n : Int) : (fld k n).length = k + 1 := by simp [fld, oct_length]
/-- the field when j digits are filled -/
def part (k j : Nat) (n : Int) : List Int := List.replicate (k - j) 0 ++ (oct j n ++ [0])
theorem part_zero (k : Nat) (n : Int) : part k 0 n = List.replicate (k + 1) 0 := by
  simp [part, oct, List.replicate_succ']
theorem part_full (k : Nat) (n : Int) : part k k n = fld k n := by simp [part, fld]
theorem part_step {k j : Nat} (n : Int) (h : j < k) : (part k j n).set (k - 1 - j) (48 + sh n j % 8) = part k (j + 1) n := by
  unfold part
  have e : k - j = (k - 1 - j) + 1 := by omega
  rw [e, List.replicate_succ', List.append_assoc, List.set_append_right _ _ (by simp)]
  simp [oct, show k - (j + 1) = k - 1 - j by omega]
theorem part_at {k j : Nat} (n : Int) (h : j < k) : (part k j n)[k - 1 - j]? = some 0 := by
  unfold part
  rw [List.getElem?_append_left (by rw [List.length_replicate]; omega), List.getElem?_replicate, if_pos (by omega)]

theorem part_lt {k j : Nat} (n : Int) (h : j < k) : (part k j n).length = k + 1 := by simp [part, oct_length]; omega

/-- the number of a list of digits -/
def val (ds : List Int) : Int := ds.foldl (fun a c => a * 8 + (c - 48)) 0
theorem val_nil : val [] = 0 := rfl
theorem val_snoc (ds : List Int) (c : Int) : val (ds ++ [c]) = val ds * 8 + (c - 48) := by simp [val, List.foldl_append]
def OctD (ds : List Int) : Prop := ∀ d ∈ ds, 48 ≤ d ∧ d ≤ 55
theorem take_snoc {ds : List Int} {j : Nat} (h : j < ds.length) : ds.take (j + 1) = ds.take j ++ [ds.getD j 0] := by
  rw [List.take_succ_eq_append_getElem h]; simp [h]
theorem val_bd : ∀ (j : Nat) (ds : List Int), ds.length = j → OctD ds → 0 ≤ val ds ∧ val ds ≤ mx j
  | 0, ds, h, _ => by
    obtain rfl : ds = [] := List.length_eq_zero_iff.1 h
    exact ⟨Int.le_refl 0, Int.le_refl 0⟩
  | j + 1, ds, h, hd => by
    have hne : ds ≠ [] := by intro e; rw [e] at h; simp at h
    obtain ⟨xs, c, rfl⟩ : ∃ xs c, ds = xs ++ [c] := ⟨ds.dropLast, ds.getLast hne, (List.dropLast_concat_getLast hne).symm⟩
    have ih := val_bd j xs (by simpa using h) (fun d m => hd d (by simp [m]))
    have := hd c (by simp)
    rw [val_snoc, mx_succ]
    omega

theorem oct_bd (j : Nat) (n : Int) : OctD (oct j n) := by
  induction j with
  | zero => intro d h; simp [oct] at h
  | succ j ih =>
    intro d h
    rcases List.mem_cons.1 h with rfl | h
    · omega
    · exact ih d h
theorem fld_bd (k : Nat) (n : Int) : ∀ z ∈ fld k n, 0 ≤ z ∧ z ≤ 255 := by
  intro z h
  rcases List.mem_append.1 h with h | h
  · have := oct_bd k n z h; omega
  · obtain rfl : z = 0 := by simpa using h
    omega

instance (ds : List Int) : Decidable (OctD ds) := by unfold OctD; infer_instance
def pzOk (zs : List Int) : Prop := zs.getD (zs.length - 1) 0 = 0 ∧ OctD (zs.take (zs.length - 1))
instance (zs : List Int) : Decidable (pzOk zs) := by unfold pzOk; infer_instance
/-- the error of Parse -/
def pzE (zs : List Int) : Int := if zs.length < 2 ∨ 22 < zs.length then 2 else if pzOk zs then 0 else 6
/-- the number of Parse -/
def pzV (zs : List Int) : Int := if zs.length < 2 ∨ 22 < zs.length then 0 else if pzOk zs then val (zs.take (zs.length - 1)) else 0

theorem foldl_from (ds : List Int) : ∀ a : Int, ds.foldl (fun a c => a * 8 + (c - 48)) a = a * 8 ^ ds.length + ds.foldl (fun a c => a * 8 + (c - 48)) 0 := by
  induction ds with
  | nil => intro a; simp
  | cons d ds ih =>
    intro a
    simp only [List.foldl_cons, List.length_cons]
    rw [ih (a * 8 + (d - 48)), ih (0 * 8 + (d - 48)), Int.pow_succ]
    grind
theorem val_cons (c : Int) (ds : List Int) : val (c :: ds) = (c - 48) * 8 ^ ds.length + val ds := by
  unfold val; rw [List.foldl_cons, foldl_from]; simp
theorem oct_sum (n : Int) : ∀ k : Nat, n = sh n k * 8 ^ k + val (oct k n)
  | 0 => by rw [sh_zero]; simp [oct, val]
  | k + 1 => by
    have ih := oct_sum n k
    have e : sh n k = 8 * sh n (k + 1) + sh n k % 8 := by rw [sh_succ]; omega
    rw [oct, val_cons, oct_length, Int.pow_succ]
    generalize val (oct k n) = v at *
    generalize sh n (k + 1) = s at *
    generalize sh n k % 8 = r at *
    generalize (8 : Int) ^ k = p at *
    rw [e] at ih
    grind
/-- the field of n is read back -/
theorem val_oct (k : Nat) (n : Int) (h0 : 0 ≤ n) (hm : n ≤ mx k) : val (oct k n) = n := by
  have h := oct_sum n k
  have hz : sh n k = 0 := by unfold sh; exact Int.ediv_eq_zero_of_lt h0 (by unfold mx at hm; omega)
  rw [hz] at h
  omega
theorem pow8_pos (k : Nat) : (0 : Int) < 8 ^ k := Int.pow_pos (by decide)
theorem sh_add (n q : Int) (m j : Nat) (h : j ≤ m) : sh (n + q * 8 ^ m) j = sh n j + q * 8 ^ (m - j) := by
  unfold sh
  have e : q * 8 ^ m = (q * 8 ^ (m - j)) * 8 ^ j := by rw [Int.mul_assoc, ← Int.pow_add, Nat.sub_add_cancel h]
  rw [e, Int.add_mul_ediv_right _ _ (Int.ne_of_gt (pow8_pos j))]
theorem oct_add (n q : Int) (m : Nat) : ∀ j, j ≤ m → oct j (n + q * 8 ^ m) = oct j n
  | 0, _ => rfl
  | j + 1, h => by
    have e : (q * 8 ^ (m - j)) % 8 = 0 := by
      obtain ⟨i, hi⟩ : ∃ i, m - j = i + 1 := ⟨m - j - 1, by omega⟩
      rw [hi, Int.pow_succ, ← Int.mul_assoc]; omega
    rw [oct, oct, oct_add n q m j (by omega), sh_add n q m j (by omega)]
    congr 1
    omega
/-- what is read is the number of the field -/
theorem oct_val : ∀ ds : List Int, OctD ds → oct ds.length (val ds) = ds
  | [], _ => rfl
  | c :: ds, h => by
    have hd : OctD ds := fun x hx => h x (List.mem_cons_of_mem _ hx)
    have hc := h c (by simp)
    have hb := val_bd ds.length ds rfl hd
    unfold mx at hb
    have hs : sh (val ds) ds.length = 0 := by unfold sh; exact Int.ediv_eq_zero_of_lt hb.1 (by omega)
    rw [val_cons, List.length_cons, Int.add_comm ((c - 48) * 8 ^ ds.length) (val ds), oct, sh_add _ _ _ _ (Nat.le_refl _), oct_add _ _ _ _ (Nat.le_refl _), oct_val ds hd, hs, Nat.sub_self]
    congr 1
    simp
    omega

end Go.Proofs.YtokjmehecfjhmaaDoor.Oct
