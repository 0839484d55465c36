/-
  Layer 11: what Read answers. No memory.
-/
import Derived.Test.YtmbimnnacjbdfaaGreatDoorPz05
import Derived.Test.YtmbimnnacjbdfaaGreatDoorPz04
import Derived.Test.YtmbimnnacjbdfaaGreatDoorPxrTk
namespace Go.Proofs.YtmbimnnacjbdfaaGreatDoor

/-- how many blocks hold s bytes -/
def blkN (s : Nat) : Nat := (s + 511) / 512
theorem blkN_le (s : Nat) : s ≤ 512 * blkN s := by unfold blkN; omega
theorem blkN_lt (s : Nat) : 512 * blkN s < s + 512 := by unfold blkN; omega
theorem blkN_pos {s : Nat} (h : 0 < s) : 0 < blkN s := by unfold blkN; omega
theorem blkN_zero : blkN 0 = 0 := rfl
theorem blkN_bd {s : Nat} (h : s ≤ 1099511627776) : blkN s ≤ 2147483648 := by unfold blkN; omega

/-- n blocks can be read at o -/
def pyOk (Z : List Int) (o : Nat) (err : Int) (n : Nat) : Prop := n = 0 ∨ (err = 0 ∧ o + 512 * n ≤ Z.length)
instance (Z : List Int) (o : Nat) (err : Int) (n : Nat) : Decidable (pyOk Z o err n) := by unfold pyOk; infer_instance
/-- the error of reading n blocks at o; how far the reader is then; the reader's error then; the bytes -/
def pyE (Z : List Int) (E : Int) (o : Nat) (err : Int) (n : Nat) : Int := if pyOk Z o err n then 0 else if err ≠ 0 then err else if E = 4 ∧ (Z.length - o) % 512 ≠ 0 then 5 else E
def pyO (Z : List Int) (o : Nat) (err : Int) (n : Nat) : Nat := if pyOk Z o err n then o + 512 * n else if err ≠ 0 then o else Z.length
def pyS (Z : List Int) (E : Int) (o : Nat) (err : Int) (n : Nat) : Int := if pyOk Z o err n then err else pyE Z E o err n
def pyB (Z : List Int) (o : Nat) (err : Int) (n : Nat) : List Int := if pyOk Z o err n then (Z.drop o).take (512 * n) else []

theorem py_ok {Z : List Int} {E : Int} {o n : Nat} {err : Int} (h : pyOk Z o err n) : pyE Z E o err n = 0 ∧ pyO Z o err n = o + 512 * n ∧ pyS Z E o err n = err ∧ pyB Z o err n = (Z.drop o).take (512 * n) := by
  unfold pyE pyO pyS pyB; rw [if_pos h, if_pos h, if_pos h, if_pos h]; exact ⟨rfl, rfl, rfl, rfl⟩
theorem py_err {Z : List Int} {E : Int} {o n : Nat} {err : Int} (he : err ≠ 0) (hn : 0 < n) : pyE Z E o err n = err ∧ pyO Z o err n = o ∧ pyS Z E o err n = err ∧ pyB Z o err n = [] := by
  have h : ¬ pyOk Z o err n := fun h => h.elim (fun h => by omega) (fun h => he h.1)
  have e : pyE Z E o err n = err := by unfold pyE; rw [if_neg h, if_pos he]
  unfold pyS; rw [e]
  unfold pyO pyB; rw [if_neg h, if_neg h, if_neg h, if_pos he]; exact ⟨rfl, rfl, rfl, rfl⟩
/-- the reader stops behind j blocks -/
theorem py_stop {Z : List Int} {E : Int} {o n j : Nat} (h1 : o + 512 * j ≤ Z.length) (h2 : ¬ o + 512 * j + 512 ≤ Z.length) (hj : j < n) :
    pyE Z E o 0 n = nxE Z E (o + 512 * j) 0 ∧ pyO Z o 0 n = nxO Z (o + 512 * j) 0 ∧ pyS Z E o 0 n = nxE Z E (o + 512 * j) 0 ∧ pyB Z o 0 n = [] := by
  have h : ¬ pyOk Z o 0 n := fun h => h.elim (fun h => by omega) (fun h => by omega)
  obtain ⟨_, g2, g3⟩ := nx_stop (E := E) h2
  have e : pyE Z E o 0 n = nxE Z E (o + 512 * j) 0 := by
    rw [g2]; unfold pyE; rw [if_neg h, if_neg (c := (0 : Int) ≠ 0) (fun h => h rfl)]
    by_cases e4 : E = 4 ∧ o + 512 * j < Z.length
    · rw [if_pos e4, if_pos ⟨e4.1, by omega⟩]
    · rw [if_neg e4, if_neg (fun h => e4 ⟨h.1, by omega⟩)]
  unfold pyS; rw [e, g3]
  unfold pyO pyB; rw [if_neg h, if_neg h, if_neg h, if_neg (c := (0 : Int) ≠ 0) (fun h => h rfl)]; exact ⟨rfl, rfl, rfl, rfl⟩
theorem pyE_ne {Z : List Int} {E : Int} {o n : Nat} {err : Int} (hE : E = 11 ∨ E = 4) (h : ¬ pyOk Z o err n) : pyE Z E o err n ≠ 0 := by
  unfold pyE; rw [if_neg h]; split
  · assumption
  · split <;> omega
theorem pyO_le {Z : List Int} {o n : Nat} {err : Int} (h : o ≤ Z.length) : pyO Z o err n ≤ Z.length := by
  unfold pyO; split
  · rename_i h'; rcases h' with h' | h' <;> omega
  · split <;> omega

/-- how many zeros P begins with -/
def nzI (P : List Int) : Nat := P.findIdx (fun z => z != 0)
theorem nzI_le (P : List Int) : nzI P ≤ P.length := List.findIdx_le_length
theorem nzI_lt {P : List Int} (h : nzI P < P.length) : P.getD (nzI P) 0 ≠ 0 := by
  have h' := List.findIdx_getElem (p := fun z => z != 0) (xs := P) (w := h)
  rw [List.getD_eq_getElem?_getD, List.getElem?_eq_getElem h]
  intro h0
  have h1 : P[nzI P] = 0 := h0
  have h2 : (P[nzI P] != 0) = true := h'
  rw [h1] at h2
  exact absurd h2 (by decide)
theorem nzI_zero {P : List Int} {i : Nat} (h : i < nzI P) : P.getD i 0 = 0 := by
  have hl : i < P.length := Nat.lt_of_lt_of_le h (nzI_le P)
  have h' := List.not_of_lt_findIdx (p := fun z => z != 0) (xs := P) h
  rw [List.getD_eq_getElem?_getD, List.getElem?_eq_getElem hl]
  simpa using h'
theorem nzI_eq {P : List Int} {i : Nat} (h1 : i ≤ P.length) (h2 : ∀ j, j < i → P.getD j 0 = 0) (h3 : i < P.length → P.getD i 0 ≠ 0) : nzI P = i := by
  rcases Nat.lt_trichotomy (nzI P) i with h | h | h
  · exact absurd (h2 _ h) (nzI_lt (by omega))
  · exact h
  · exact absurd (nzI_zero h) (h3 (Nat.lt_of_lt_of_le h (nzI_le P)))

/-- a size that Read refuses -/
def szBad (z : Int) : Prop := z < 0 ∨ 1099511627776 < z
instance (z : Int) : Decidable (szBad z) := by unfold szBad; infer_instance
/-- the padding of s bytes at o -/
def rdPad (Z : List Int) (o s : Nat) : List Int := ((Z.drop o).take (512 * blkN s)).drop s
/-- Read's error, the offset that it answers, its bytes; the reader's offset and error behind it -/
def rdE (Z : List Int) (E : Int) (o : Nat) (err z : Int) : Int :=
  if szBad z then 3 else if pyOk Z o err (blkN z.toNat) then (if nzI (rdPad Z o z.toNat) < (rdPad Z o z.toNat).length then 10 else 0) else if pyE Z E o err (blkN z.toNat) = 4 then 5 else pyE Z E o err (blkN z.toNat)
def rdP (Z : List Int) (o : Nat) (err z : Int) : Nat :=
  if szBad z then o else if pyOk Z o err (blkN z.toNat) ∧ nzI (rdPad Z o z.toNat) < (rdPad Z o z.toNat).length then o + (z.toNat + nzI (rdPad Z o z.toNat)) else pyO Z o err (blkN z.toNat)
def rdD (Z : List Int) (o : Nat) (err z : Int) : List Int :=
  if szBad z then [] else if pyOk Z o err (blkN z.toNat) ∧ ¬ nzI (rdPad Z o z.toNat) < (rdPad Z o z.toNat).length then (Z.drop o).take z.toNat else []
def rdO (Z : List Int) (o : Nat) (err z : Int) : Nat := if szBad z then o else pyO Z o err (blkN z.toNat)
def rdS (Z : List Int) (E : Int) (o : Nat) (err z : Int) : Int := if szBad z then err else pyS Z E o err (blkN z.toNat)

theorem rd_bad {Z : List Int} {E : Int} {o : Nat} {err z : Int} (h : szBad z) : rdE Z E o err z = 3 ∧ rdP Z o err z = o ∧ rdD Z o err z = [] ∧ rdO Z o err z = o ∧ rdS Z E o err z = err := by
  unfold rdE rdP rdD rdO rdS; rw [if_pos h, if_pos h, if_pos h, if_pos h, if_pos h]; exact ⟨rfl, rfl, rfl, rfl, rfl⟩
theorem szOk {s : Nat} (h : s ≤ 1099511627776) : ¬ szBad (s : Int) := by unfold szBad; omega
theorem rd_no {Z : List Int} {E : Int} {o : Nat} {err : Int} {s n : Nat} (hs : s ≤ 1099511627776) (hn : n = blkN s) (h : ¬ pyOk Z o err n) : rdE Z E o err s = (if pyE Z E o err n = 4 then 5 else pyE Z E o err n) ∧ rdP Z o err s = pyO Z o err n ∧ rdD Z o err s = [] ∧ rdO Z o err s = pyO Z o err n ∧ rdS Z E o err s = pyS Z E o err n := by
  subst hn
  have hb := szOk hs
  have e : (s : Int).toNat = s := rfl
  have x1 : ¬ (pyOk Z o err (blkN s) ∧ nzI (rdPad Z o s) < (rdPad Z o s).length) := fun h' => h h'.1
  have x2 : ¬ (pyOk Z o err (blkN s) ∧ ¬ nzI (rdPad Z o s) < (rdPad Z o s).length) := fun h' => h h'.1
  unfold rdE rdP rdD rdO rdS
  rw [e, if_neg hb, if_neg hb, if_neg hb, if_neg hb, if_neg hb, if_neg h, if_neg x1, if_neg x2]
  exact ⟨rfl, rfl, rfl, rfl, rfl⟩
theorem rd_pad {Z : List Int} {E : Int} {o : Nat} {err : Int} {s n : Nat} (hs : s ≤ 1099511627776) (hn : n = blkN s) (h : pyOk Z o err n) (hi : nzI (rdPad Z o s) < (rdPad Z o s).length) : rdE Z E o err s = 10 ∧ rdP Z o err s = o + (s + nzI (rdPad Z o s)) ∧ rdD Z o err s = [] ∧ rdO Z o err s = o + 512 * n ∧ rdS Z E o err s = err := by
  subst hn
  have hb := szOk hs
  have e : (s : Int).toNat = s := rfl
  obtain ⟨_, e2, e3, _⟩ := py_ok (E := E) h
  unfold rdE rdP rdD rdO rdS
  rw [e, if_neg hb, if_neg hb, if_neg hb, if_neg hb, if_neg hb, if_pos h, if_pos hi, if_pos ⟨h, hi⟩, if_neg (fun h' => h'.2 hi), e2, e3]
  exact ⟨rfl, rfl, rfl, rfl, rfl⟩
theorem rd_ok {Z : List Int} {E : Int} {o : Nat} {err : Int} {s n : Nat} (hs : s ≤ 1099511627776) (hn : n = blkN s) (h : pyOk Z o err n) (hi : ¬ nzI (rdPad Z o s) < (rdPad Z o s).length) : rdE Z E o err s = 0 ∧ rdP Z o err s = o + 512 * n ∧ rdD Z o err s = (Z.drop o).take s ∧ rdO Z o err s = o + 512 * n ∧ rdS Z E o err s = err := by
  subst hn
  have hb := szOk hs
  have e : (s : Int).toNat = s := rfl
  obtain ⟨_, e2, e3, _⟩ := py_ok (E := E) h
  unfold rdE rdP rdD rdO rdS
  rw [e, if_neg hb, if_neg hb, if_neg hb, if_neg hb, if_neg hb, if_pos h, if_neg hi, if_neg (fun h' => hi h'.2), if_pos ⟨h, hi⟩, e2, e3]
  exact ⟨rfl, rfl, rfl, rfl, rfl⟩
theorem rdO_le {Z : List Int} {o : Nat} {err z : Int} (h : o ≤ Z.length) : rdO Z o err z ≤ Z.length := by
  unfold rdO; split
  · exact h
  · exact pyO_le h
theorem rdD_bytes {Z : List Int} (h : Bytes Z) (o : Nat) (err z : Int) : Bytes (rdD Z o err z) := by
  unfold rdD; split
  · exact fun z hz => by simp at hz
  · split
    · exact (h.drop o).take _
    · exact fun z hz => by simp at hz
theorem rdPad_len {Z : List Int} {o s : Nat} {err : Int} (h : pyOk Z o err (blkN s)) : (rdPad Z o s).length = 512 * blkN s - s ∧ ((Z.drop o).take (512 * blkN s)).length = 512 * blkN s := by
  have hl : ((Z.drop o).take (512 * blkN s)).length = 512 * blkN s := by
    rw [List.length_take, List.length_drop]
    rcases h with h | h
    · rw [h]; omega
    · omega
  unfold rdPad
  rw [List.length_drop, hl]
  exact ⟨rfl, rfl⟩
end Go.Proofs.YtmbimnnacjbdfaaGreatDoor
/-
  Layer 5: what a write accepts; what WriteAll leaves. No memory.
-/
namespace Go.Proofs.YtmbimnnacjbdfaaGreatDoor

/-- the sink of L bytes fails now -/
def full (F : Int) (L : Nat) : Prop := 0 ≤ F ∧ F = L
instance (F : Int) (L : Nat) : Decidable (full F L) := by unfold full; infer_instance
/-- how many of m bytes a write accepts, behind r writes -/
def wrK (cs : List Int) (F : Int) (L r m : Nat) : Nat := if m = 0 ∨ full F L then 0 else (min (min (m : Int) (chunkZ cs r)) (if 0 ≤ F then F - L else m)).toNat
def wrE (F : Int) (L m : Nat) : Int := if m = 0 then 0 else if full F L then 11 else 0
def wrR (F : Int) (L r m : Nat) : Nat := if m = 0 ∨ full F L then r else r + 1

theorem wrK_le (cs : List Int) (F : Int) (L r m : Nat) : wrK cs F L r m ≤ m := by unfold wrK; split <;> omega
theorem wrK_pos {cs : List Int} {F : Int} {L r m : Nat} (hm : m ≠ 0) (hf : ¬ full F L) (hL : 0 ≤ F → (L : Int) ≤ F) : 1 ≤ wrK cs F L r m := by
  have := chunkZ_pos cs r
  unfold full at hf
  unfold wrK
  rw [if_neg (by unfold full; omega)]
  split <;> omega
theorem wrK_fit {cs : List Int} {F : Int} {L r m : Nat} (h0 : 0 ≤ F) (hL : (L : Int) ≤ F) : ((L + wrK cs F L r m : Nat) : Int) ≤ F := by
  unfold wrK
  split
  · omega
  · omega

/-- how many of m bytes WriteAll accepts; its error -/
def allK (F : Int) (L m : Nat) : Nat := if 0 ≤ F ∧ F - L < m then (F - L).toNat else m
def allE (F : Int) (L m : Nat) : Int := if 0 ≤ F ∧ F - L < m then 11 else 0
/-- the number of writes behind WriteAll of m bytes, f of them looked at -/
def allR (cs : List Int) (F : Int) : Nat → Nat → Nat → Nat → Nat
  | 0, _, r, _ => r
  | f + 1, L, r, m => if m = 0 ∨ full F L then r else allR cs F f (L + wrK cs F L r m) (r + 1) (m - wrK cs F L r m)

theorem allR_fuel (cs : List Int) (F : Int) : ∀ (f L r m : Nat), m ≤ f → (0 ≤ F → (L : Int) ≤ F) → allR cs F f L r m = allR cs F m L r m
  | 0, L, r, m, h, _ => by obtain rfl : m = 0 := by omega
                           rfl
  | f + 1, L, r, 0, _, _ => by simp [allR]
  | f + 1, L, r, m + 1, h, hL => by
    by_cases hf : full F L
    · simp [allR, hf]
    · have hk := wrK_pos (cs := cs) (r := r) (m := m + 1) (by omega) hf hL
      have hle := wrK_le cs F L r (m + 1)
      have hL' : 0 ≤ F → ((L + wrK cs F L r (m + 1) : Nat) : Int) ≤ F := fun h0 => wrK_fit h0 (hL h0)
      simp only [allR]
      have hn : ¬ (m + 1 = 0 ∨ full F L) := fun h => h.elim (by omega) hf
      rw [if_neg hn, if_neg hn, allR_fuel cs F f _ _ _ (by omega) hL', allR_fuel cs F m _ _ _ (by omega) hL']
  termination_by f => f

/-- one write of WriteAll -/
theorem allR_step {cs : List Int} {F : Int} {L r m : Nat} (hm : m ≠ 0) (hf : ¬ full F L) (hL : 0 ≤ F → (L : Int) ≤ F) :
    allR cs F m L r m = allR cs F (m - wrK cs F L r m) (L + wrK cs F L r m) (r + 1) (m - wrK cs F L r m) := by
  have hk := wrK_pos (cs := cs) (r := r) hm hf hL
  have hL' : 0 ≤ F → ((L + wrK cs F L r m : Nat) : Int) ≤ F := fun h0 => wrK_fit h0 (hL h0)
  obtain ⟨f, rfl⟩ : ∃ f, m = f + 1 := ⟨m - 1, by omega⟩
  conv => lhs; simp only [allR]
  rw [if_neg (fun h => h.elim (by omega) hf), allR_fuel cs F f _ _ _ (by omega) hL']
theorem allR_stop (cs : List Int) {F : Int} {L r m : Nat} (h : m = 0 ∨ full F L) : allR cs F m L r m = r := by
  cases m with
  | zero => rfl
  | succ m => simp only [allR]; rw [if_pos h]
theorem allK_step {cs : List Int} {F : Int} {L r m : Nat} (hL : 0 ≤ F → (L : Int) ≤ F) :
    allK F L m = wrK cs F L r m + allK F (L + wrK cs F L r m) (m - wrK cs F L r m) ∧ allE F (L + wrK cs F L r m) (m - wrK cs F L r m) = allE F L m := by
  have h1 := wrK_le cs F L r m
  have h2 : 0 ≤ F → ((L + wrK cs F L r m : Nat) : Int) ≤ F := fun h0 => wrK_fit h0 (hL h0)
  generalize wrK cs F L r m = k at *
  unfold allK allE
  constructor
  · split <;> split <;> omega
  · congr 1
    apply propext
    omega
theorem allK_le (F : Int) (L m : Nat) (hL : 0 ≤ F → (L : Int) ≤ F) : allK F L m ≤ m ∧ (0 ≤ F → ((L + allK F L m : Nat) : Int) ≤ F) := by
  unfold allK
  split <;> omega
end Go.Proofs.YtmbimnnacjbdfaaGreatDoor
/-
  Layer 6: what a writer accepts, and how many bytes Pad writes. No memory.
-/
namespace Go.Proofs.YtmbimnnacjbdfaaGreatDoor
/-- how many of n bytes a writer's Write accepts, its error behind it -/
def wwK (F : Int) (L n : Nat) (err : Int) : Nat := if err = 0 then allK F L n else 0
def wwE (F : Int) (L n : Nat) (err : Int) : Int := if err = 0 then allE F L n else err

/-- how many bytes Pad writes -/
def padN (o : Nat) : Nat := (512 - o % 512) % 512
end Go.Proofs.YtmbimnnacjbdfaaGreatDoor
/-
  Layer 11: what Read answers to what Write writes. No memory.
-/
namespace Go.Proofs.YtmbimnnacjbdfaaGreatDoor

theorem padN_blk (n : Nat) : n + padN n = 512 * blkN n := by unfold padN blkN; omega
theorem padN_at {o n : Nat} (h : o % 512 = 0) : padN (o + n) = padN n := by unfold padN; omega

/-- a size beyond the source's end -/
theorem rd_short {Z : List Int} {s : Nat} (hs : s ≤ 1099511627776) (h : Z.length < 512 * blkN s) : rdE Z 4 0 0 s = 5 ∧ rdP Z 0 0 s = Z.length ∧ rdD Z 0 0 s = [] := by
  have hok : ¬ pyOk Z 0 0 (blkN s) := fun h => h.elim (fun h => by omega) (fun h => by omega)
  obtain ⟨e1, e2, e3, _⟩ := rd_no (E := 4) hs rfl hok
  refine ⟨?_, ?_, e3⟩
  · rw [e1]; unfold pyE; rw [if_neg hok, if_neg (c := (0 : Int) ≠ 0) (fun h => h rfl)]
    split <;> split <;> simp_all
  · rw [e2]; unfold pyO; rw [if_neg hok, if_neg (c := (0 : Int) ≠ 0) (fun h => h rfl)]

theorem zeros_get (n i : Nat) : (zeros n).getD i 0 = 0 := by
  unfold zeros
  rw [List.getD_eq_getElem?_getD, List.getElem?_replicate]
  split <;> rfl
theorem nzI_zeros (n : Nat) : nzI (zeros n) = n := by
  have hl : (zeros n).length = n := zeros_length n
  exact nzI_eq (by omega) (fun j _ => zeros_get n j) (fun h => by omega)

/-- data and its padding, somewhere in the stream -/
theorem rd_full {Z R y : List Int} {E : Int} {o p : Nat} (hZ : Z.drop o = y ++ zeros p ++ R) (hp : p = padN y.length) (hs : y.length ≤ 1099511627776) (ho : o ≤ Z.length) :
    rdE Z E o 0 y.length = 0 ∧ rdP Z o 0 y.length = o + (y.length + p) ∧ rdD Z o 0 y.length = y ∧ rdO Z o 0 y.length = o + (y.length + p) ∧ rdS Z E o 0 y.length = 0 := by
  have hb : y.length + p = 512 * blkN y.length := by rw [hp]; exact padN_blk _
  have hlen : Z.length = o + (y.length + p + R.length) := by
    have h := congrArg List.length hZ
    rw [List.length_drop, List.length_append, List.length_append, zeros_length] at h
    omega
  have hok : pyOk Z o 0 (blkN y.length) := .inr ⟨rfl, by omega⟩
  have hpad : rdPad Z o y.length = zeros p := by
    unfold rdPad
    rw [hZ, ← hb, List.append_assoc, List.take_append, List.take_of_length_le (by omega), Nat.add_sub_cancel_left, List.take_append_of_le_length (by rw [zeros_length]; omega), List.take_of_length_le (by rw [zeros_length]; omega), List.drop_left]
  have hi : ¬ nzI (rdPad Z o y.length) < (rdPad Z o y.length).length := by rw [hpad, nzI_zeros, zeros_length]; omega
  obtain ⟨e1, e2, e3, e4, e5⟩ := rd_ok (E := E) hs rfl hok hi
  refine ⟨e1, by rw [e2, ← hb], ?_, by rw [e4, ← hb], e5⟩
  rw [e3, hZ, List.append_assoc, List.take_left]

/-- one byte of the padding changed -/
theorem rd_bit {Z y : List Int} {E : Int} {p i : Nat} (hZ : Z = (y ++ zeros p).set (y.length + i) 1) (hp : p = padN y.length) (hs : y.length ≤ 1099511627776) (hi : i < p) :
    rdE Z E 0 0 y.length = 10 ∧ rdP Z 0 0 y.length = y.length + i := by
  have hb : y.length + p = 512 * blkN y.length := by rw [hp]; exact padN_blk _
  have hlen : Z.length = y.length + p := by rw [hZ, List.length_set, List.length_append, zeros_length]
  have hok : pyOk Z 0 0 (blkN y.length) := .inr ⟨rfl, by omega⟩
  have hpad : rdPad Z 0 y.length = (zeros p).set i 1 := by
    unfold rdPad
    rw [List.drop_zero, ← hb, List.take_of_length_le (by omega), hZ, List.set_append_right _ _ (by omega), Nat.add_sub_cancel_left, List.drop_left]
  have hpl : (rdPad Z 0 y.length).length = p := by rw [hpad, List.length_set, zeros_length]
  have hn : nzI (rdPad Z 0 y.length) = i := by
    refine nzI_eq (by omega) (fun j hj => ?_) (fun _ => ?_)
    · rw [hpad, List.getD_eq_getElem?_getD, List.getElem?_set_ne (by omega), ← List.getD_eq_getElem?_getD]; exact zeros_get p j
    · rw [hpad, List.getD_eq_getElem?_getD, List.getElem?_set_self (by rw [zeros_length]; exact hi)]; decide
  obtain ⟨e1, e2, _⟩ := rd_pad (E := E) hs rfl hok (by rw [hn, hpl]; exact hi)
  exact ⟨e1, by rw [e2, hn, Nat.zero_add]⟩

/-- what several Writes write -/
def pcat : List (List Int) → List Int
  | [] => []
  | y :: l => y ++ zeros (padN y.length) ++ pcat l
theorem pcat_len : ∀ l : List (List Int), (pcat l).length % 512 = 0
  | [] => rfl
  | y :: l => by
    have := pcat_len l
    have h := padN_blk y.length
    simp only [pcat, List.length_append, zeros_length]
    omega
theorem pcat_append : ∀ l m : List (List Int), pcat (l ++ m) = pcat l ++ pcat m
  | [], m => rfl
  | y :: l, m => by simp only [List.cons_append, pcat, pcat_append l m, List.append_assoc]
theorem pcat_one (y : List Int) : pcat [y] = y ++ zeros (padN y.length) := by simp [pcat]
theorem pcat_bytes : ∀ l : List (List Int), (∀ y ∈ l, Bytes y) → Bytes (pcat l)
  | [], _ => fun z hz => by simp [pcat] at hz
  | y :: l, h => ((h y (by simp)).append (zeros_bytes _)).append (pcat_bytes l fun y hy => h y (by simp [hy]))
/-- where row j begins -/
theorem pcat_drop {l : List (List Int)} {j : Nat} {y : List Int} (h : l[j]? = some y) : (pcat l).drop (pcat (l.take j)).length = y ++ zeros (padN y.length) ++ pcat (l.drop (j + 1)) ∧ (pcat (l.take (j + 1))).length = (pcat (l.take j)).length + (y.length + padN y.length) ∧ pcat (l.take (j + 1)) = pcat (l.take j) ++ (y ++ zeros (padN y.length)) := by
  have hj : j < l.length := by
    rcases Nat.lt_or_ge j l.length with hl | hl
    · exact hl
    · rw [List.getElem?_eq_none hl] at h; cases h
  have hy : l[j] = y := by rw [List.getElem?_eq_getElem hj] at h; exact Option.some.inj h
  have e1 : l = l.take j ++ (y :: l.drop (j + 1)) := by rw [← hy, ← List.drop_eq_getElem_cons hj, List.take_append_drop]
  have e2 : l.take (j + 1) = l.take j ++ [y] := by rw [List.take_succ_eq_append_getElem hj, hy]
  have e3 : pcat (l.take (j + 1)) = pcat (l.take j) ++ (y ++ zeros (padN y.length)) := by rw [e2, pcat_append, pcat_one]
  refine ⟨?_, ?_, e3⟩
  · conv => lhs; rw [e1]
    rw [List.take_append_of_le_length (by rw [List.length_take]; omega), List.take_of_length_le (by rw [List.length_take]; omega), pcat_append, List.drop_left]
    rfl
  · rw [e3, List.length_append, List.length_append, zeros_length]
theorem pcat_le (l : List (List Int)) (j : Nat) : (pcat (l.take j)).length ≤ (pcat l).length := by
  conv => rhs; rw [← List.take_append_drop j l]
  rw [pcat_append, List.length_append]
  omega
end Go.Proofs.YtmbimnnacjbdfaaGreatDoor
/-
  Layer 12: plain mathematics: the encoding of an entry, what Decode answers. No memory.
-/
namespace Go.Proofs.YtmbimnnacjbdfaaGreatDoor.Etr
open Go.Lib Go.RowKit Go.Proofs.YtmbimnnacjbdfaaGreatDoor.Fit Pxr Pnm

/-- the empty entry -/
def ez : Ent := ⟨0, emp, 0, emp, 0⟩
abbrev kPax : ByteArray := { data := #[112, 97, 120] }
/-- a header's block -/
def hdB (h : Hd) : List Int := Ust.encH h.T h.nm h.pf h.lk h.md h.sz
def ckD (h : Hd) : Int := Ust.ckH h.T h.nm h.pf h.lk h.md h.sz
/-- the extended header of n bytes -/
def hX (n : Nat) : Hd := ⟨120, kPax, emp, emp, 0, n⟩
/-- bytes, and zeros up to the next block -/
def padR (l : List Int) : List Int := l ++ zeros (padN l.length)
/-- the encoding -/
def enL (e : Ent) : List Int := if (plL e).length = 0 then [] else hdB (hX (fmB (plL e)).length) ++ padR (fmB (plL e))
def enZ (e : Ent) : List Int := if ckE e ≠ 0 then [] else enL e ++ hdB (plH e)

/-! Decode -/
structure DR where
  x : Ent
  p : Nat
  e : Int
  o : Nat
  s : Int
/-- the header that a block holds -/
def hdOf (B : List Int) : Hd := ⟨Ust.dT B, Ust.dNm B, Ust.dPf B, Ust.dLk B, Ust.dMd B, Ust.dSz B⟩
def paxOk (h : Hd) : Prop := h.nm = kPax ∧ h.pf = emp ∧ h.lk = emp ∧ h.md = 0 ∧ 1 ≤ h.sz ∧ h.sz ≤ 262144
/-- all bytes are zero -/
def zeroB (B : List Int) : Prop := ∀ z ∈ B, z = 0
open Classical in
/-- Merge at the end: the entry begins at o, its last header at last, the reader stands at o' -/
noncomputable def mgD (h : Hd) (rs : List Rec) (o last o' : Nat) : DR := if mgOk h rs then ⟨cmpE h rs, o, 0, o', 0⟩ else ⟨ez, last, if rs.length = 0 then 6 else 17, o', 0⟩
/-- the last block, and Merge -/
noncomputable def dc4 (Z : List Int) (o : Nat) (rs : List Rec) (o2 : Nat) : DR :=
  if Ust.deE ((Z.drop o2).take 512) ≠ 0 then ⟨ez, o2, Ust.deE ((Z.drop o2).take 512), o2 + 512, 0⟩ else mgD (hdOf ((Z.drop o2).take 512)) rs o o2 (o2 + 512)
/-- behind the records -/
noncomputable def dc3 (Z : List Int) (E : Int) (o : Nat) (P : List Rec × Nat × Int) (o2 : Nat) : DR :=
  if P.2.2 ≠ 0 then ⟨ez, o + 512 + P.2.1, P.2.2, o2, 0⟩ else if nxE Z E o2 0 ≠ 0 then ⟨ez, nxO Z o2 0, if nxE Z E o2 0 = 4 then 5 else nxE Z E o2 0, nxO Z o2 0, nxE Z E o2 0⟩ else dc4 Z o P.1 o2
open Classical in
/-- behind an extended header -/
noncomputable def dc2 (Z : List Int) (E : Int) (o : Nat) (h : Hd) : DR :=
  if ¬ paxOk h then ⟨ez, o, 17, o + 512, 0⟩ else if rdE Z E (o + 512) 0 h.sz ≠ 0 then ⟨ez, rdP Z (o + 512) 0 h.sz, rdE Z E (o + 512) 0 h.sz, rdO Z (o + 512) 0 h.sz, rdS Z E (o + 512) 0 h.sz⟩
    else dc3 Z E o (parZ (rdD Z (o + 512) 0 h.sz)) (rdO Z (o + 512) 0 h.sz)
open Classical in
/-- the first block is there -/
noncomputable def dc1 (Z : List Int) (E : Int) (o : Nat) (B : List Int) : DR :=
  if zeroB B then ⟨ez, o, 18, o + 512, 0⟩ else if Ust.deE B ≠ 0 then ⟨ez, o, Ust.deE B, o + 512, 0⟩ else if Ust.dT B = 120 then dc2 Z E o (hdOf B) else mgD (hdOf B) [] o o (o + 512)
noncomputable def dcd (Z : List Int) (E : Int) (o : Nat) (err : Int) : DR :=
  if nxE Z E o err ≠ 0 then ⟨ez, nxO Z o err, nxE Z E o err, nxO Z o err, nxE Z E o err⟩ else dc1 Z E o ((Z.drop o).take 512)

/-! headers and their blocks -/
theorem hX_ck {n : Nat} (h : n ≤ 8589934591) : ckD (hX n) = 0 := by
  refine Ust.ckH_zero.2 ⟨.inr (.inr (.inr (.inr rfl))), ?_, ?_, ?_, ⟨Int.le_refl _, by show (0 : Int) ≤ 4095; decide⟩, ?_⟩
  · show Cst.ceF (numsOf kPax) 100 = 0; decide
  · show Cst.ceF (numsOf emp) 100 = 0; decide
  · show Cst.ceF (numsOf emp) 155 = 0; decide
  · show 0 ≤ (n : Int) ∧ (n : Int) ≤ 8589934591; omega
theorem hd_dec {h : Hd} (hc : ckD h = 0) : Ust.deE (hdB h) = 0 ∧ hdOf (hdB h) = h ∧ (hdB h).length = 512 ∧ ¬ zeroB (hdB h) ∧ Bytes (hdB h) ∧ Ust.known h.T := by
  obtain ⟨a0, a1, a2, a3, a4, a5, a6⟩ := Ust.dec_enc hc
  have hk := (Ust.ckH_zero.1 hc).1
  have hl : (hdB h).length = 512 := Ust.enc_length hc
  refine ⟨a0, ?_, hl, ?_, Ust.enc_bytes (Ust.known_byte hk) _ _ _ _ _, hk⟩
  · show Hd.mk (Ust.dT _) (Ust.dNm _) (Ust.dPf _) (Ust.dLk _) (Ust.dMd _) (Ust.dSz _) = h
    unfold hdB; rw [a1, a2, a3, a4, a5, a6]
  · intro hz
    have h1 : (hdB h).getD 156 0 = h.T := a1
    have h2 := hz _ (List.getElem_mem (l := hdB h) (n := 156) (by omega))
    rw [List.getD_eq_getElem?_getD, List.getElem?_eq_getElem (by omega)] at h1
    have h3 : h.T = 0 := h1.symm.trans h2
    unfold Ust.known at hk; omega
theorem hd_back {B : List Int} (h : Ust.deE B = 0) : hdB (hdOf B) = B ∧ ckD (hdOf B) = 0 ∧ B.length = 512 ∧ Ust.known (Ust.dT B) := by
  obtain ⟨h1, _, h3, _, h5, h6⟩ := Ust.dec_ok h
  exact ⟨h6, h5, h1, h3⟩
theorem pl_ck {e : Ent} (h : ckE e = 0) : ckD (plH e) = 0 := (pl_hd (ck_ok.1 h)).2.2.2
theorem pl_T {e : Ent} (h : ckE e = 0) : (plH e).T ≠ 120 := by
  have := ty_known (ck_ok.1 h).k0 (ck_ok.1 h).k4
  show tyZ e.k ≠ 120
  omega
theorem fm_len {e : Ent} (h : ckE e = 0) : (fmB (plL e)).length ≤ 196665 := by
  have := fmB_le (pl_good (ck_ok.1 h)) (plL e).length
  rw [List.take_length] at this
  exact this
theorem en_pos (r : Rec) : 1 ≤ (enR r).length := by unfold enR; simp only [List.length_append, List.length_singleton]; omega
theorem fm_pos : ∀ {l : List Rec}, l.length ≠ 0 → 1 ≤ (fmB l).length
  | [], h => absurd rfl h
  | r :: l, _ => by rw [fmB_cons, List.length_append]; have := en_pos r; omega
theorem padR_len (l : List Int) : (padR l).length = 512 * blkN l.length := by unfold padR; rw [List.length_append, zeros_length]; exact padN_blk _
theorem en_len {e : Ent} (h : ckE e = 0) : (enZ e).length = (enL e).length + 512 ∧ (enL e).length = if (plL e).length = 0 then 0 else 512 + 512 * blkN (fmB (plL e)).length := by
  constructor
  · unfold enZ; rw [if_neg (by simpa using h), List.length_append, (hd_dec (pl_ck h)).2.2.1]
  · unfold enL
    split
    · rfl
    · rw [List.length_append, padR_len, (hd_dec (hX_ck (by have := fm_len h; omega))).2.2.1]
theorem fm_bytes (rs : List Rec) : Bytes (fmB rs) := by
  intro z hz
  unfold fmB at hz
  obtain ⟨l, hl, hz⟩ := List.mem_flatten.1 hz
  obtain ⟨r, _, rfl⟩ := List.mem_map.1 hl
  unfold enR at hz
  simp only [List.mem_append, List.mem_singleton] at hz
  have hd : ∀ z ∈ decD (szR r), 0 ≤ z ∧ z ≤ 255 := fun z hz => by
    have := (List.all_eq_true.1 (decD_digs (szR r))) z hz
    rw [digB_iff] at this
    omega
  rcases hz with ((((hz | rfl) | hz) | rfl) | hz) | rfl
  · exact hd z hz
  · decide
  · exact numsOf_bd _ z hz
  · decide
  · exact numsOf_bd _ z hz
  · decide
theorem en_bytes (e : Ent) : Bytes (enZ e) := by
  unfold enZ
  split
  · exact fun z hz => by simp at hz
  · rename_i h
    have h : ckE e = 0 := Decidable.byContradiction h
    refine Bytes.append ?_ (hd_dec (pl_ck h)).2.2.2.2.1
    unfold enL
    split
    · exact fun z hz => by simp at hz
    · exact (hd_dec (hX_ck (by have := fm_len h; omega))).2.2.2.2.1.append ((fm_bytes _).append (zeros_bytes _))

/-! Decode reads what Encode wrote -/
theorem paxOk_hX {n : Nat} (h1 : 1 ≤ n) (h2 : n ≤ 262144) : paxOk (hX n) := ⟨rfl, rfl, rfl, rfl, by show 1 ≤ (n : Int); omega, by show (n : Int) ≤ 262144; omega⟩
theorem drop_at {Z A B : List Int} {o k : Nat} (h : Z.drop o = A ++ B) (hk : A.length = k) : Z.drop (o + k) = B := by
  rw [← List.drop_drop, h, ← hk, List.drop_left]
theorem take_at {Z A B : List Int} {o k : Nat} (h : Z.drop o = A ++ B) (hk : A.length = k) : (Z.drop o).take k = A ∧ (o ≤ Z.length → o + k ≤ Z.length) := by
  refine ⟨by rw [h, ← hk, List.take_left], fun ho => ?_⟩
  have := congrArg List.length h
  rw [List.length_drop, List.length_append] at this
  omega
theorem dc4_en {e : Ent} (h : ckE e = 0) {Z R : List Int} {o o2 : Nat} {rs : List Rec} (hr : rs = plL e) (hZ : Z.drop o2 = hdB (plH e) ++ R) : dc4 Z o rs o2 = ⟨e, o, 0, o2 + 512, 0⟩ := by
  obtain ⟨d0, d1, d2, _⟩ := hd_dec (pl_ck h)
  unfold dc4 mgD
  rw [(take_at hZ d2).1, if_neg (by simpa using d0), d1, hr, if_pos (mg_back (ck_ok.1 h)), back (ck_ok.1 h)]
theorem dcd_en {e : Ent} (h : ckE e = 0) {Z R : List Int} {E : Int} {o : Nat} (hZ : Z.drop o = enZ e ++ R) (ho : o ≤ Z.length) : dcd Z E o 0 = ⟨e, o, 0, o + (enZ e).length, 0⟩ := by
  obtain ⟨l1, l2⟩ := en_len h
  have hz : enZ e = enL e ++ hdB (plH e) := by unfold enZ; rw [if_neg (by simpa using h)]
  by_cases h0 : (plL e).length = 0
  · have hL : enL e = [] := by unfold enL; rw [if_pos h0]
    rw [hz, hL, List.nil_append] at hZ
    obtain ⟨d0, d1, d2, d3, _⟩ := hd_dec (pl_ck h)
    obtain ⟨t1, t2⟩ := take_at hZ d2
    obtain ⟨_, n2, _⟩ := nx_go (E := E) (t2 ho)
    have hT : Ust.dT (hdB (plH e)) = (plH e).T := congrArg Hd.T d1
    unfold dcd dc1 mgD
    rw [n2, if_neg (by simp), t1, if_neg d3, if_neg (by simpa using d0), if_neg (by rw [hT]; exact pl_T h), d1]
    have hm := mg_back (ck_ok.1 h)
    have hb := back (ck_ok.1 h)
    have hn : plL e = [] := List.length_eq_zero_iff.1 h0
    rw [hn] at hm hb
    rw [if_pos hm, hb, l1, l2, if_pos h0]
  · have hL : enL e = hdB (hX (fmB (plL e)).length) ++ padR (fmB (plL e)) := by unfold enL; rw [if_neg h0]
    obtain ⟨n, hn⟩ : ∃ n, n = (fmB (plL e)).length := ⟨_, rfl⟩
    have hn1 : 1 ≤ n := by rw [hn]; exact fm_pos h0
    have hn2 : n ≤ 196665 := by rw [hn]; exact fm_len h
    rw [hz, hL, ← hn, List.append_assoc, List.append_assoc] at hZ
    obtain ⟨d0, d1, d2, d3, _⟩ := hd_dec (hX_ck (n := n) (by omega))
    obtain ⟨t1, t2⟩ := take_at hZ d2
    have hZ1 := drop_at hZ d2
    have ho1 := t2 ho
    obtain ⟨_, n2, _⟩ := nx_go (E := E) ho1
    have hT : Ust.dT (hdB (hX n)) = 120 := congrArg Hd.T d1
    have hZ1' : Z.drop (o + 512) = fmB (plL e) ++ zeros (padN (fmB (plL e)).length) ++ (hdB (plH e) ++ R) := hZ1
    obtain ⟨r1, r2, r3, r4, r5⟩ := rd_full (E := E) hZ1' rfl (by omega) ho1
    rw [← hn] at r1 r2 r3 r4 r5
    have hsz : (hX n).sz = (n : Int) := rfl
    have hpar := par_fm (pl_good (ck_ok.1 h)) (by omega)
    have ho2 : o + 512 + (n + padN n) ≤ Z.length := by
      have := congrArg List.length hZ1'
      rw [List.length_drop, List.length_append, List.length_append, zeros_length, ← hn] at this
      omega
    have hZ2 : Z.drop (o + 512 + (n + padN n)) = hdB (plH e) ++ R := drop_at hZ1' (by rw [List.length_append, zeros_length, ← hn])
    have ho3 := (take_at hZ2 (hd_dec (pl_ck h)).2.2.1).2 ho2
    obtain ⟨_, m2, _⟩ := nx_go (E := E) ho3
    unfold dcd dc1
    rw [n2, if_neg (by simp), t1, if_neg d3, if_neg (by simpa using d0), if_pos hT, d1]
    unfold dc2
    rw [if_neg (not_not_intro (paxOk_hX hn1 (by omega))), hsz, r1, if_neg (by simp), r3, r4, hpar]
    unfold dc3
    rw [if_neg (by simp), m2, if_neg (by simp), dc4_en h rfl hZ2, l1, l2, if_neg h0, ← hn, ← padN_blk]
    simp only [DR.mk.injEq, true_and, and_true]
    omega
end Go.Proofs.YtmbimnnacjbdfaaGreatDoor.Etr
/-
  Structs as values: loaded whole, as a result beside a slot. Nothing of the program.
-/
namespace Go.Proofs.YtmbimnnacjbdfaaGreatDoor
open Go.RowKit

/-- what a walk asks of a struct's type: of n cells -/
def ObjT (P : Program) (T : TypeId) (n : Nat) : Prop := (∃ fs, P.underlying T = some (.struct fs)) ∧ (P.info? T).map (·.size) = some n
section
variable {P : Program} {w : World} {ops : Array Oper} {rest : List Oper} {o : Oper} {a : Act} {Q : Exit → Act → World → Prop}

theorem wpList_load_obj (hgd : o.guard = none) (T : TypeId) (n : Nat) (hT : ObjT P T n) (x : Operand) (ho : o.op = .load T x) (g : Nat) (hx : a.eval x = .pointer (some ⟨g, 0, none⟩))
    (T' : TypeId) (vs : List Value) (hg : ObjAt w g T' vs) (hl : vs.length = n) (K : wpList P ops Q rest (a.put o.dst (.agg vs.toArray)) w) : wpList P ops Q (o :: rest) a w := by
  obtain ⟨⟨fs, h1⟩, h2⟩ := hT
  exact wpList_load_row hgd T x ho g hx T' vs.toArray (0, 0) (.struct fs) hg h1 rfl (by rw [h2]; simp [hl]) K
theorem run_load_obj {T : TypeId} {n : Nat} (hT : ObjT P T n) (g : Nat) (T' : TypeId) (vs : List Value) (hg : ObjAt w g T' vs) (hl : vs.length = n) : (loadVar T ⟨g, 0, none⟩).run P w = .ok (.agg vs.toArray) w := by
  obtain ⟨⟨fs, h1⟩, h2⟩ := hT
  exact run_loadVar_row w g T' T vs.toArray (0, 0) (.struct fs) hg h1 rfl (by rw [h2]; simp [hl])
/-- the results are a struct's variable and a slot -/
theorem results_obj_tmp {fn : Func} {p q : Tmp} {T : TypeId} {n : Nat} (h : fn.results = #[.cell p T, .tmp q]) (hT : ObjT P T n) (tmps : Array Value) (g : Nat) (hp : tmps.getD p undef = .pointer (some ⟨g, 0, none⟩))
    (T' : TypeId) (vs : List Value) (hg : ObjAt w g T' vs) (hl : vs.length = n) : (results fn tmps).run P w = .ok (.tuple #[.agg vs.toArray, tmps.getD q undef]) w := by
  have hp' : tmps[p]?.getD undef = .pointer (some ⟨g, 0, none⟩) := by simpa using hp
  simp [results, h, hp', asAddr, run_load_obj hT g T' vs hg hl]
theorem results_obj {fn : Func} {p : Tmp} {T : TypeId} {n : Nat} (h : fn.results = #[.cell p T]) (hT : ObjT P T n) (tmps : Array Value) (g : Nat) (hp : tmps.getD p undef = .pointer (some ⟨g, 0, none⟩))
    (T' : TypeId) (vs : List Value) (hg : ObjAt w g T' vs) (hl : vs.length = n) : (results fn tmps).run P w = .ok (.agg vs.toArray) w := by
  have hp' : tmps[p]?.getD undef = .pointer (some ⟨g, 0, none⟩) := by simpa using hp
  simp [results, h, hp', asAddr, run_load_obj hT g T' vs hg hl]
end
end Go.Proofs.YtmbimnnacjbdfaaGreatDoor
