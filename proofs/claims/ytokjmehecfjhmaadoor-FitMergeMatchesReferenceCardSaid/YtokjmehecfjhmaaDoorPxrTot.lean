/-
  Layer 9: the sum of the records' lengths.
-/
import Derived.Test.YtokjmehecfjhmaaDoorPxrRec
namespace Go.Proofs.YtokjmehecfjhmaaDoor.Pxr
open Go.RowKit

/-- the sum of the lengths -/
def tot (rs : List Rec) : Nat := (rs.map fun r => r.1.size + r.2.size).sum
theorem tot_take_succ {rs : List Rec} {j : Nat} {r : Rec} (h : rs[j]? = some r) : tot (rs.take (j + 1)) = tot (rs.take j) + (r.1.size + r.2.size) := by
  have hl : j < rs.length := (List.getElem?_eq_some_iff.1 h).1
  unfold tot
  rw [List.take_succ_eq_append_getElem hl, (List.getElem?_eq_some_iff.1 h).2, List.map_append, List.sum_append]; simp
theorem tot_mem {rs : List Rec} {r : Rec} (h : r ∈ rs) : r.1.size + r.2.size ≤ tot rs := by
  unfold tot
  induction rs with
  | nil => cases h
  | cons q rs ih =>
    rw [List.map_cons, List.sum_cons]
    rcases List.mem_cons.1 h with rfl | h
    · omega
    · have := ih h; omega
theorem tot_le {rs : List Rec} (hv : ∀ r ∈ rs, r.1.size ≤ 140737488355328 ∧ r.2.size ≤ 140737488355328) (j : Nat) : tot (rs.take j) ≤ j * 281474976710656 := by
  have key : ∀ l : List Rec, (∀ r ∈ l, r.1.size ≤ 140737488355328 ∧ r.2.size ≤ 140737488355328) → tot l ≤ l.length * 281474976710656 := by
    intro l
    induction l with
    | nil => intro _; exact Nat.zero_le _
    | cons q l ih =>
      intro h
      have := ih fun r hr => h r (List.mem_cons_of_mem _ hr)
      have := h q (List.mem_cons_self ..)
      unfold tot at *
      rw [List.map_cons, List.sum_cons, List.length_cons]
      omega
  have := key (rs.take j) fun r hr => hv r (List.mem_of_mem_take hr)
  rw [List.length_take] at this
  refine Nat.le_trans this (Nat.mul_le_mul_right _ (Nat.min_le_left _ _))
end Go.Proofs.YtokjmehecfjhmaaDoor.Pxr
