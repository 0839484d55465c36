/-
  How many bytes rows hold. No memory.
-/
import Derived.Test.YtnnengigahakaaaRowsArg
namespace Go.Proofs.Ytnnengigahakaaa

abbrev Row := Option Addr × Nat × Nat × List Int
/-- how many bytes the rows hold -/
def total (rows : List (Option Addr × Nat × Nat × List Int)) : Nat := (rows.map fun y => y.2.1).sum
theorem total_take {rows : List (Option Addr × Nat × Nat × List Int)} {j : Nat} {y : Option Addr × Nat × Nat × List Int} (h : rows[j]? = some y) : total (rows.take (j + 1)) = total (rows.take j) + y.2.1 := by
  unfold total
  have hj : j < rows.length := by
    rcases Nat.lt_or_ge j rows.length with h' | h'
    · exact h'
    · rw [List.getElem?_eq_none h'] at h; cases h
  have e : rows[j] = y := by rw [List.getElem?_eq_getElem hj] at h; exact Option.some.inj h
  rw [List.take_succ_eq_append_getElem hj, List.map_append, List.sum_append, e]
  simp
theorem total_le (rows : List (Option Addr × Nat × Nat × List Int)) (hy : ∀ y ∈ rows, y.2.1 ≤ 140737488355328) : total rows ≤ rows.length * 140737488355328 := by
  induction rows with
  | nil => simp [total]
  | cons y r ih =>
    have h1 := hy y (List.mem_cons_self ..)
    have h2 := ih fun z hz => hy z (List.mem_cons_of_mem _ hz)
    have e : total (y :: r) = y.2.1 + total r := by simp [total]
    rw [e, List.length_cons]
    omega
theorem total_row {rows : List (Option Addr × Nat × Nat × List Int)} {y : Option Addr × Nat × Nat × List Int} (h : y ∈ rows) : y.2.1 ≤ total rows := by
  induction rows with
  | nil => simp at h
  | cons z r ih =>
    have e : total (z :: r) = z.2.1 + total r := by simp [total]
    rcases List.mem_cons.1 h with rfl | h
    · omega
    · have := ih h; omega
theorem total_take_le (rows : List Row) (j : Nat) : total (rows.take j) ≤ total rows := by
  conv => rhs; rw [← List.take_append_drop j rows]
  unfold total
  rw [List.map_append, List.sum_append]
  omega
end Go.Proofs.Ytnnengigahakaaa
