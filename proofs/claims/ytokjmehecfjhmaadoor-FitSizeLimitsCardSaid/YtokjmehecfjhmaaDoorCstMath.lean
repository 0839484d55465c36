/-
  The arithmetic of layer 2: what Format, Fits and Parse answer, on lists of bytes.
-/
import Derived.Test.YtokjmehecfjhmaaDoorGenB
namespace Go.Proofs.YtokjmehecfjhmaaDoor.Cst

/-- the error of Format -/
def ceF (zs : List Int) (wd : Int) : Int := if wd < 1 ∨ 256 < wd then 2 else if (0 : Int) ∈ zs then 6 else if wd < zs.length then 7 else 0
/-- the field of k bytes -/
def fldS (zs : List Int) (k : Nat) : List Int := zs ++ List.replicate (k - zs.length) 0

theorem ceF_zero {zs : List Int} {wd : Int} : ceF zs wd = 0 ↔ 1 ≤ wd ∧ wd ≤ 256 ∧ (0 : Int) ∉ zs ∧ (zs.length : Int) ≤ wd := by
  unfold ceF
  split
  · omega
  · split
    · simp_all
    · split
      · omega
      · simp_all; try omega

theorem fldS_length (zs : List Int) (k : Nat) (h : zs.length ≤ k) : (fldS zs k).length = k := by simp [fldS]; omega
theorem fldS_bd (zs : List Int) (k : Nat) (h : ∀ z ∈ zs, 0 ≤ z ∧ z ≤ 255) : ∀ z ∈ fldS zs k, 0 ≤ z ∧ z ≤ 255 := by
  intro z hz
  rcases List.mem_append.1 hz with hz | hz
  · exact h z hz
  · have := List.eq_of_mem_replicate hz; omega

/-- without the zeros at the end -/
def trimZ (zs : List Int) : List Int := (zs.reverse.dropWhile (· == 0)).reverse

theorem trimZ_snoc_zero (zs : List Int) : trimZ (zs ++ [0]) = trimZ zs := by simp [trimZ]
theorem trimZ_snoc_ne (zs : List Int) {x : Int} (h : x ≠ 0) : trimZ (zs ++ [x]) = zs ++ [x] := by
  have : (x == 0) = false := by simpa using h
  simp [trimZ, this]
theorem trimZ_nil : trimZ [] = [] := rfl
theorem trimZ_zeros (zs : List Int) : ∀ m, trimZ (zs ++ List.replicate m 0) = trimZ zs
  | 0 => by simp
  | m + 1 => by rw [List.replicate_succ', ← List.append_assoc, trimZ_snoc_zero, trimZ_zeros zs m]
theorem trimZ_back (zs : List Int) : ∃ m, zs = trimZ zs ++ List.replicate m 0 := by
  have key : ∀ l : List Int, ∃ m, l.reverse = trimZ l.reverse ++ List.replicate m 0 := by
    intro l
    induction l with
    | nil => exact ⟨0, rfl⟩
    | cons x l ih =>
      rw [List.reverse_cons]
      by_cases hx : x = 0
      · subst hx
        obtain ⟨m, hm⟩ := ih
        exact ⟨m + 1, by rw [trimZ_snoc_zero, List.replicate_succ', ← List.append_assoc, ← hm]⟩
      · exact ⟨0, by rw [trimZ_snoc_ne _ hx]; simp⟩
  simpa using key zs.reverse
theorem trimZ_free {zs : List Int} (h : (0 : Int) ∉ zs) : trimZ zs = zs := by
  obtain ⟨m, hm⟩ := trimZ_back zs
  rcases m with _ | m
  · simpa using hm.symm
  · exfalso; apply h; rw [hm]; simp
theorem trimZ_length (zs : List Int) : (trimZ zs).length ≤ zs.length := by
  obtain ⟨m, hm⟩ := trimZ_back zs
  have := congrArg List.length hm
  simp at this; omega
theorem trimZ_bd (zs : List Int) (h : ∀ z ∈ zs, 0 ≤ z ∧ z ≤ 255) : ∀ z ∈ trimZ zs, 0 ≤ z ∧ z ≤ 255 := by
  intro z hz
  obtain ⟨m, hm⟩ := trimZ_back zs
  exact h z (by rw [hm]; exact List.mem_append_left _ hz)

/-- what Parse answers: the bytes of the string, the error -/
def cpS (zs : List Int) : List Int := if zs.length < 1 ∨ 256 < zs.length then [] else if (0 : Int) ∈ trimZ zs then [] else trimZ zs
def cpE (zs : List Int) : Int := if zs.length < 1 ∨ 256 < zs.length then 2 else if (0 : Int) ∈ trimZ zs then 6 else 0

theorem cpE_zero {zs : List Int} : cpE zs = 0 ↔ 1 ≤ zs.length ∧ zs.length ≤ 256 ∧ (0 : Int) ∉ trimZ zs := by
  unfold cpE
  split
  · omega
  · split
    · simp_all
    · rename_i h1 h2; exact ⟨fun _ => ⟨by omega, by omega, h2⟩, fun _ => rfl⟩
theorem cpS_ok {zs : List Int} (h : cpE zs = 0) : cpS zs = trimZ zs := by
  have := cpE_zero.1 h
  unfold cpS; rw [if_neg (by omega), if_neg this.2.2]
theorem cpS_err {zs : List Int} (h : cpE zs ≠ 0) : cpS zs = [] := by
  unfold cpS
  split
  · rfl
  · rename_i h1
    split
    · rfl
    · rename_i h2
      exact absurd (cpE_zero.2 ⟨by omega, by omega, h2⟩) h
theorem cpS_bd (zs : List Int) (h : ∀ z ∈ zs, 0 ≤ z ∧ z ≤ 255) : ∀ z ∈ cpS zs, 0 ≤ z ∧ z ≤ 255 := by
  unfold cpS
  split
  · simp
  · split
    · simp
    · exact trimZ_bd zs h

theorem fldS_trim {zs : List Int} : fldS (trimZ zs) zs.length = zs := by
  obtain ⟨m, hm⟩ := trimZ_back zs
  have := congrArg List.length hm
  simp at this
  unfold fldS
  rw [show zs.length - (trimZ zs).length = m by omega]
  exact hm.symm
theorem trim_fldS {zs : List Int} (k : Nat) (h : (0 : Int) ∉ zs) : trimZ (fldS zs k) = zs := by
  unfold fldS; rw [trimZ_zeros, trimZ_free h]
theorem take_snoc' {zs : List Int} {j : Nat} (h : j < zs.length) : zs.take (j + 1) = zs.take j ++ [zs.getD j 0] := by
  rw [List.take_add_one, List.getD_eq_getElem?_getD, List.getElem?_eq_getElem h]; rfl

end Go.Proofs.YtokjmehecfjhmaaDoor.Cst
