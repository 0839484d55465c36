/-
  Layer 11: what Read answers to what Write writes. No memory.
-/
import Derived.Test.YtnnengigahakaaaPayMath
import Derived.Test.YtnnengigahakaaaBlkWw
namespace Go.Proofs.Ytnnengigahakaaa

theorem padN_blk (n : Nat) : n + padN n = 512 * blkN n := by unfold padN blkN; omega
theorem padN_at {o n : Nat} (h : o % 512 = 0) : padN (o + n) = padN n := by unfold padN; omega

/-- a size beyond the source's end -/
theorem rd_short {Z : List Int} {s : Nat} (hs : s ≤ 1099511627776) (h : Z.length < 512 * blkN s) : rdE Z 4 0 0 s = 5 ∧ rdP Z 0 0 s = Z.length ∧ rdD Z 0 0 s = [] := by
  have hok : ¬ pyOk Z 0 0 (blkN s) := fun h => h.elim (fun h => by omega) (fun h => by omega)
  obtain ⟨e1, e2, e3, _⟩ := rd_no (E := 4) hs rfl hok
  refine ⟨?_, ?_, e3⟩
  · rw [e1]; unfold pyE; rw [if_neg hok, if_neg (c := (0 : Int) ≠ 0) (fun h => h rfl)]
    split <;> split <;> simp_all
  · rw [e2]; unfold pyO; rw [if_neg hok, if_neg (c := (0 : Int) ≠ 0) (fun h => h rfl)]

theorem zeros_get (n i : Nat) : (zeros n).getD i 0 = 0 := by
  unfold zeros
  rw [List.getD_eq_getElem?_getD, List.getElem?_replicate]
  split <;> rfl
theorem nzI_zeros (n : Nat) : nzI (zeros n) = n := by
  have hl : (zeros n).length = n := zeros_length n
  exact nzI_eq (by omega) (fun j _ => zeros_get n j) (fun h => by omega)

/-- data and its padding, somewhere in the stream -/
theorem rd_full {Z R y : List Int} {E : Int} {o p : Nat} (hZ : Z.drop o = y ++ zeros p ++ R) (hp : p = padN y.length) (hs : y.length ≤ 1099511627776) (ho : o ≤ Z.length) :
    rdE Z E o 0 y.length = 0 ∧ rdP Z o 0 y.length = o + (y.length + p) ∧ rdD Z o 0 y.length = y ∧ rdO Z o 0 y.length = o + (y.length + p) ∧ rdS Z E o 0 y.length = 0 := by
  have hb : y.length + p = 512 * blkN y.length := by rw [hp]; exact padN_blk _
  have hlen : Z.length = o + (y.length + p + R.length) := by
    have h := congrArg List.length hZ
    rw [List.length_drop, List.length_append, List.length_append, zeros_length] at h
    omega
  have hok : pyOk Z o 0 (blkN y.length) := .inr ⟨rfl, by omega⟩
  have hpad : rdPad Z o y.length = zeros p := by
    unfold rdPad
    rw [hZ, ← hb, List.append_assoc, List.take_append, List.take_of_length_le (by omega), Nat.add_sub_cancel_left, List.take_append_of_le_length (by rw [zeros_length]; omega), List.take_of_length_le (by rw [zeros_length]; omega), List.drop_left]
  have hi : ¬ nzI (rdPad Z o y.length) < (rdPad Z o y.length).length := by rw [hpad, nzI_zeros, zeros_length]; omega
  obtain ⟨e1, e2, e3, e4, e5⟩ := rd_ok (E := E) hs rfl hok hi
  refine ⟨e1, by rw [e2, ← hb], ?_, by rw [e4, ← hb], e5⟩
  rw [e3, hZ, List.append_assoc, List.take_left]

/-- one byte of the padding changed -/
theorem rd_bit {Z y : List Int} {E : Int} {p i : Nat} (hZ : Z = (y ++ zeros p).set (y.length + i) 1) (hp : p = padN y.length) (hs : y.length ≤ 1099511627776) (hi : i < p) :
    rdE Z E 0 0 y.length = 10 ∧ rdP Z 0 0 y.length = y.length + i := by
  have hb : y.length + p = 512 * blkN y.length := by rw [hp]; exact padN_blk _
  have hlen : Z.length = y.length + p := by rw [hZ, List.length_set, List.length_append, zeros_length]
  have hok : pyOk Z 0 0 (blkN y.length) := .inr ⟨rfl, by omega⟩
  have hpad : rdPad Z 0 y.length = (zeros p).set i 1 := by
    unfold rdPad
    rw [List.drop_zero, ← hb, List.take_of_length_le (by omega), hZ, List.set_append_right _ _ (by omega), Nat.add_sub_cancel_left, List.drop_left]
  have hpl : (rdPad Z 0 y.length).length = p := by rw [hpad, List.length_set, zeros_length]
  have hn : nzI (rdPad Z 0 y.length) = i := by
    refine nzI_eq (by omega) (fun j hj => ?_) (fun _ => ?_)
    · rw [hpad, List.getD_eq_getElem?_getD, List.getElem?_set_ne (by omega), ← List.getD_eq_getElem?_getD]; exact zeros_get p j
    · rw [hpad, List.getD_eq_getElem?_getD, List.getElem?_set_self (by rw [zeros_length]; exact hi)]; decide
  obtain ⟨e1, e2, _⟩ := rd_pad (E := E) hs rfl hok (by rw [hn, hpl]; exact hi)
  exact ⟨e1, by rw [e2, hn, Nat.zero_add]⟩

/-- what several Writes write -/
def pcat : List (List Int) → List Int
  | [] => []
  | y :: l => y ++ zeros (padN y.length) ++ pcat l
theorem pcat_len : ∀ l : List (List Int), (pcat l).length % 512 = 0
  | [] => rfl
  | y :: l => by
    have := pcat_len l
    have h := padN_blk y.length
    simp only [pcat, List.length_append, zeros_length]
    omega
theorem pcat_append : ∀ l m : List (List Int), pcat (l ++ m) = pcat l ++ pcat m
  | [], m => rfl
  | y :: l, m => by simp only [List.cons_append, pcat, pcat_append l m, List.append_assoc]
theorem pcat_one (y : List Int) : pcat [y] = y ++ zeros (padN y.length) := by simp [pcat]
theorem pcat_bytes : ∀ l : List (List Int), (∀ y ∈ l, Bytes y) → Bytes (pcat l)
  | [], _ => fun z hz => by simp [pcat] at hz
  | y :: l, h => ((h y (by simp)).append (zeros_bytes _)).append (pcat_bytes l fun y hy => h y (by simp [hy]))
/-- where row j begins -/
theorem pcat_drop {l : List (List Int)} {j : Nat} {y : List Int} (h : l[j]? = some y) : (pcat l).drop (pcat (l.take j)).length = y ++ zeros (padN y.length) ++ pcat (l.drop (j + 1)) ∧ (pcat (l.take (j + 1))).length = (pcat (l.take j)).length + (y.length + padN y.length) ∧ pcat (l.take (j + 1)) = pcat (l.take j) ++ (y ++ zeros (padN y.length)) := by
  have hj : j < l.length := by
    rcases Nat.lt_or_ge j l.length with hl | hl
    · exact hl
    · rw [List.getElem?_eq_none hl] at h; cases h
  have hy : l[j] = y := by rw [List.getElem?_eq_getElem hj] at h; exact Option.some.inj h
  have e1 : l = l.take j ++ (y :: l.drop (j + 1)) := by rw [← hy, ← List.drop_eq_getElem_cons hj, List.take_append_drop]
  have e2 : l.take (j + 1) = l.take j ++ [y] := by rw [List.take_succ_eq_append_getElem hj, hy]
  have e3 : pcat (l.take (j + 1)) = pcat (l.take j) ++ (y ++ zeros (padN y.length)) := by rw [e2, pcat_append, pcat_one]
  refine ⟨?_, ?_, e3⟩
  · conv => lhs; rw [e1]
    rw [List.take_append_of_le_length (by rw [List.length_take]; omega), List.take_of_length_le (by rw [List.length_take]; omega), pcat_append, List.drop_left]
    rfl
  · rw [e3, List.length_append, List.length_append, zeros_length]
theorem pcat_le (l : List (List Int)) (j : Nat) : (pcat (l.take j)).length ≤ (pcat l).length := by
  conv => rhs; rw [← List.take_append_drop j l]
  rw [pcat_append, List.length_append]
  omega
end Go.Proofs.Ytnnengigahakaaa
