/-
  Layer 11: what Read answers. No memory.
-/
import Derived.Test.YtnnengigahakaaaBlkMath
namespace Go.Proofs.Ytnnengigahakaaa

/-- how many blocks hold s bytes -/
def blkN (s : Nat) : Nat := (s + 511) / 512
theorem blkN_le (s : Nat) : s ≤ 512 * blkN s := by unfold blkN; omega
theorem blkN_lt (s : Nat) : 512 * blkN s < s + 512 := by unfold blkN; omega
theorem blkN_pos {s : Nat} (h : 0 < s) : 0 < blkN s := by unfold blkN; omega
theorem blkN_zero : blkN 0 = 0 := rfl
theorem blkN_bd {s : Nat} (h : s ≤ 1099511627776) : blkN s ≤ 2147483648 := by unfold blkN; omega

/-- n blocks can be read at o -/
def pyOk (Z : List Int) (o : Nat) (err : Int) (n : Nat) : Prop := n = 0 ∨ (err = 0 ∧ o + 512 * n ≤ Z.length)
instance (Z : List Int) (o : Nat) (err : Int) (n : Nat) : Decidable (pyOk Z o err n) := by unfold pyOk; infer_instance
/-- the error of reading n blocks at o; how far the reader is then; the reader's error then; the bytes -/
def pyE (Z : List Int) (E : Int) (o : Nat) (err : Int) (n : Nat) : Int := if pyOk Z o err n then 0 else if err ≠ 0 then err else if E = 4 ∧ (Z.length - o) % 512 ≠ 0 then 5 else E
def pyO (Z : List Int) (o : Nat) (err : Int) (n : Nat) : Nat := if pyOk Z o err n then o + 512 * n else if err ≠ 0 then o else Z.length
def pyS (Z : List Int) (E : Int) (o : Nat) (err : Int) (n : Nat) : Int := if pyOk Z o err n then err else pyE Z E o err n
def pyB (Z : List Int) (o : Nat) (err : Int) (n : Nat) : List Int := if pyOk Z o err n then (Z.drop o).take (512 * n) else []

theorem py_ok {Z : List Int} {E : Int} {o n : Nat} {err : Int} (h : pyOk Z o err n) : pyE Z E o err n = 0 ∧ pyO Z o err n = o + 512 * n ∧ pyS Z E o err n = err ∧ pyB Z o err n = (Z.drop o).take (512 * n) := by
  unfold pyE pyO pyS pyB; rw [if_pos h, if_pos h, if_pos h, if_pos h]; exact ⟨rfl, rfl, rfl, rfl⟩
theorem py_err {Z : List Int} {E : Int} {o n : Nat} {err : Int} (he : err ≠ 0) (hn : 0 < n) : pyE Z E o err n = err ∧ pyO Z o err n = o ∧ pyS Z E o err n = err ∧ pyB Z o err n = [] := by
  have h : ¬ pyOk Z o err n := fun h => h.elim (fun h => by omega) (fun h => he h.1)
  have e : pyE Z E o err n = err := by unfold pyE; rw [if_neg h, if_pos he]
  unfold pyS; rw [e]
  unfold pyO pyB; rw [if_neg h, if_neg h, if_neg h, if_pos he]; exact ⟨rfl, rfl, rfl, rfl⟩
/-- the reader stops behind j blocks -/
theorem py_stop {Z : List Int} {E : Int} {o n j : Nat} (h1 : o + 512 * j ≤ Z.length) (h2 : ¬ o + 512 * j + 512 ≤ Z.length) (hj : j < n) :
    pyE Z E o 0 n = nxE Z E (o + 512 * j) 0 ∧ pyO Z o 0 n = nxO Z (o + 512 * j) 0 ∧ pyS Z E o 0 n = nxE Z E (o + 512 * j) 0 ∧ pyB Z o 0 n = [] := by
  have h : ¬ pyOk Z o 0 n := fun h => h.elim (fun h => by omega) (fun h => by omega)
  obtain ⟨_, g2, g3⟩ := nx_stop (E := E) h2
  have e : pyE Z E o 0 n = nxE Z E (o + 512 * j) 0 := by
    rw [g2]; unfold pyE; rw [if_neg h, if_neg (c := (0 : Int) ≠ 0) (fun h => h rfl)]
    by_cases e4 : E = 4 ∧ o + 512 * j < Z.length
    · rw [if_pos e4, if_pos ⟨e4.1, by omega⟩]
    · rw [if_neg e4, if_neg (fun h => e4 ⟨h.1, by omega⟩)]
  unfold pyS; rw [e, g3]
  unfold pyO pyB; rw [if_neg h, if_neg h, if_neg h, if_neg (c := (0 : Int) ≠ 0) (fun h => h rfl)]; exact ⟨rfl, rfl, rfl, rfl⟩
theorem pyE_ne {Z : List Int} {E : Int} {o n : Nat} {err : Int} (hE : E = 11 ∨ E = 4) (h : ¬ pyOk Z o err n) : pyE Z E o err n ≠ 0 := by
  unfold pyE; rw [if_neg h]; split
  · assumption
  · split <;> omega
theorem pyO_le {Z : List Int} {o n : Nat} {err : Int} (h : o ≤ Z.length) : pyO Z o err n ≤ Z.length := by
  unfold pyO; split
  · rename_i h'; rcases h' with h' | h' <;> omega
  · split <;> omega

/-- how many zeros P begins with -/
def nzI (P : List Int) : Nat := P.findIdx (fun z => z != 0)
theorem nzI_le (P : List Int) : nzI P ≤ P.length := List.findIdx_le_length
theorem nzI_lt {P : List Int} (h : nzI P < P.length) : P.getD (nzI P) 0 ≠ 0 := by
  have h' := List.findIdx_getElem (p := fun z => z != 0) (xs := P) (w := h)
  rw [List.getD_eq_getElem?_getD, List.getElem?_eq_getElem h]
  intro h0
  have h1 : P[nzI P] = 0 := h0
  have h2 : (P[nzI P] != 0) = true := h'
  rw [h1] at h2
  exact absurd h2 (by decide)
theorem nzI_zero {P : List Int} {i : Nat} (h : i < nzI P) : P.getD i 0 = 0 := by
  have hl : i < P.length := Nat.lt_of_lt_of_le h (nzI_le P)
  have h' := List.not_of_lt_findIdx (p := fun z => z != 0) (xs := P) h
  rw [List.getD_eq_getElem?_getD, List.getElem?_eq_getElem hl]
  simpa using h'
theorem nzI_eq {P : List Int} {i : Nat} (h1 : i ≤ P.length) (h2 : ∀ j, j < i → P.getD j 0 = 0) (h3 : i < P.length → P.getD i 0 ≠ 0) : nzI P = i := by
  rcases Nat.lt_trichotomy (nzI P) i with h | h | h
  · exact absurd (h2 _ h) (nzI_lt (by omega))
  · exact h
  · exact absurd (nzI_zero h) (h3 (Nat.lt_of_lt_of_le h (nzI_le P)))

/-- a size that Read refuses -/
def szBad (z : Int) : Prop := z < 0 ∨ 1099511627776 < z
instance (z : Int) : Decidable (szBad z) := by unfold szBad; infer_instance
/-- the padding of s bytes at o -/
def rdPad (Z : List Int) (o s : Nat) : List Int := ((Z.drop o).take (512 * blkN s)).drop s
/-- Read's error, the offset that it answers, its bytes; the reader's offset and error behind it -/
def rdE (Z : List Int) (E : Int) (o : Nat) (err z : Int) : Int :=
  if szBad z then 3 else if pyOk Z o err (blkN z.toNat) then (if nzI (rdPad Z o z.toNat) < (rdPad Z o z.toNat).length then 10 else 0) else if pyE Z E o err (blkN z.toNat) = 4 then 5 else pyE Z E o err (blkN z.toNat)
def rdP (Z : List Int) (o : Nat) (err z : Int) : Nat :=
  if szBad z then o else if pyOk Z o err (blkN z.toNat) ∧ nzI (rdPad Z o z.toNat) < (rdPad Z o z.toNat).length then o + (z.toNat + nzI (rdPad Z o z.toNat)) else pyO Z o err (blkN z.toNat)
def rdD (Z : List Int) (o : Nat) (err z : Int) : List Int :=
  if szBad z then [] else if pyOk Z o err (blkN z.toNat) ∧ ¬ nzI (rdPad Z o z.toNat) < (rdPad Z o z.toNat).length then (Z.drop o).take z.toNat else []
def rdO (Z : List Int) (o : Nat) (err z : Int) : Nat := if szBad z then o else pyO Z o err (blkN z.toNat)
def rdS (Z : List Int) (E : Int) (o : Nat) (err z : Int) : Int := if szBad z then err else pyS Z E o err (blkN z.toNat)

theorem rd_bad {Z : List Int} {E : Int} {o : Nat} {err z : Int} (h : szBad z) : rdE Z E o err z = 3 ∧ rdP Z o err z = o ∧ rdD Z o err z = [] ∧ rdO Z o err z = o ∧ rdS Z E o err z = err := by
  unfold rdE rdP rdD rdO rdS; rw [if_pos h, if_pos h, if_pos h, if_pos h, if_pos h]; exact ⟨rfl, rfl, rfl, rfl, rfl⟩
theorem szOk {s : Nat} (h : s ≤ 1099511627776) : ¬ szBad (s : Int) := by unfold szBad; omega
theorem rd_no {Z : List Int} {E : Int} {o : Nat} {err : Int} {s n : Nat} (hs : s ≤ 1099511627776) (hn : n = blkN s) (h : ¬ pyOk Z o err n) : rdE Z E o err s = (if pyE Z E o err n = 4 then 5 else pyE Z E o err n) ∧ rdP Z o err s = pyO Z o err n ∧ rdD Z o err s = [] ∧ rdO Z o err s = pyO Z o err n ∧ rdS Z E o err s = pyS Z E o err n := by
  subst hn
  have hb := szOk hs
  have e : (s : Int).toNat = s := rfl
  have x1 : ¬ (pyOk Z o err (blkN s) ∧ nzI (rdPad Z o s) < (rdPad Z o s).length) := fun h' => h h'.1
  have x2 : ¬ (pyOk Z o err (blkN s) ∧ ¬ nzI (rdPad Z o s) < (rdPad Z o s).length) := fun h' => h h'.1
  unfold rdE rdP rdD rdO rdS
  rw [e, if_neg hb, if_neg hb, if_neg hb, if_neg hb, if_neg hb, if_neg h, if_neg x1, if_neg x2]
  exact ⟨rfl, rfl, rfl, rfl, rfl⟩
theorem rd_pad {Z : List Int} {E : Int} {o : Nat} {err : Int} {s n : Nat} (hs : s ≤ 1099511627776) (hn : n = blkN s) (h : pyOk Z o err n) (hi : nzI (rdPad Z o s) < (rdPad Z o s).length) : rdE Z E o err s = 10 ∧ rdP Z o err s = o + (s + nzI (rdPad Z o s)) ∧ rdD Z o err s = [] ∧ rdO Z o err s = o + 512 * n ∧ rdS Z E o err s = err := by
  subst hn
  have hb := szOk hs
  have e : (s : Int).toNat = s := rfl
  obtain ⟨_, e2, e3, _⟩ := py_ok (E := E) h
  unfold rdE rdP rdD rdO rdS
  rw [e, if_neg hb, if_neg hb, if_neg hb, if_neg hb, if_neg hb, if_pos h, if_pos hi, if_pos ⟨h, hi⟩, if_neg (fun h' => h'.2 hi), e2, e3]
  exact ⟨rfl, rfl, rfl, rfl, rfl⟩
theorem rd_ok {Z : List Int} {E : Int} {o : Nat} {err : Int} {s n : Nat} (hs : s ≤ 1099511627776) (hn : n = blkN s) (h : pyOk Z o err n) (hi : ¬ nzI (rdPad Z o s) < (rdPad Z o s).length) : rdE Z E o err s = 0 ∧ rdP Z o err s = o + 512 * n ∧ rdD Z o err s = (Z.drop o).take s ∧ rdO Z o err s = o + 512 * n ∧ rdS Z E o err s = err := by
  subst hn
  have hb := szOk hs
  have e : (s : Int).toNat = s := rfl
  obtain ⟨_, e2, e3, _⟩ := py_ok (E := E) h
  unfold rdE rdP rdD rdO rdS
  rw [e, if_neg hb, if_neg hb, if_neg hb, if_neg hb, if_neg hb, if_pos h, if_neg hi, if_neg (fun h' => hi h'.2), if_pos ⟨h, hi⟩, e2, e3]
  exact ⟨rfl, rfl, rfl, rfl, rfl⟩
theorem rdO_le {Z : List Int} {o : Nat} {err z : Int} (h : o ≤ Z.length) : rdO Z o err z ≤ Z.length := by
  unfold rdO; split
  · exact h
  · exact pyO_le h
theorem rdD_bytes {Z : List Int} (h : Bytes Z) (o : Nat) (err z : Int) : Bytes (rdD Z o err z) := by
  unfold rdD; split
  · exact fun z hz => by simp at hz
  · split
    · exact (h.drop o).take _
    · exact fun z hz => by simp at hz
theorem rdPad_len {Z : List Int} {o s : Nat} {err : Int} (h : pyOk Z o err (blkN s)) : (rdPad Z o s).length = 512 * blkN s - s ∧ ((Z.drop o).take (512 * blkN s)).length = 512 * blkN s := by
  have hl : ((Z.drop o).take (512 * blkN s)).length = 512 * blkN s := by
    rw [List.length_take, List.length_drop]
    rcases h with h | h
    · rw [h]; omega
    · omega
  unfold rdPad
  rw [List.length_drop, hl]
  exact ⟨rfl, rfl⟩
end Go.Proofs.Ytnnengigahakaaa
