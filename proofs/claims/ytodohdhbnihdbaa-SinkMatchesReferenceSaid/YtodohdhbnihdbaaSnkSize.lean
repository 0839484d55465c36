/-
  Layer 5: the walk of the statements' own 'size'.
-/
import Derived.Test.YtodohdhbnihdbaaElem
import Derived.Test.YtodohdhbnihdbaaRowsArg
namespace Go.Proofs.Ytodohdhbnihdbaa
open Go.RowKit

/-- how many bytes the rows hold -/
def total (rows : List (Option Addr × Nat × Nat × List Int)) : Nat := (rows.map fun y => y.2.1).sum
theorem total_take {rows : List (Option Addr × Nat × Nat × List Int)} {j : Nat} {y : Option Addr × Nat × Nat × List Int} (h : rows[j]? = some y) : total (rows.take (j + 1)) = total (rows.take j) + y.2.1 := by
  unfold total
  have hj : j < rows.length := by
    rcases Nat.lt_or_ge j rows.length with h' | h'
    · exact h'
    · rw [List.getElem?_eq_none h'] at h; cases h
  have e : rows[j] = y := by rw [List.getElem?_eq_getElem hj] at h; exact Option.some.inj h
  rw [List.take_succ_eq_append_getElem hj, List.map_append, List.sum_append, e]
  simp
theorem total_le (rows : List (Option Addr × Nat × Nat × List Int)) (hy : ∀ y ∈ rows, y.2.1 ≤ 140737488355328) : total rows ≤ rows.length * 140737488355328 := by
  induction rows with
  | nil => simp [total]
  | cons y r ih =>
    have h1 := hy y (List.mem_cons_self ..)
    have h2 := ih fun z hz => hy z (List.mem_cons_of_mem _ hz)
    have e : total (y :: r) = y.2.1 + total r := by simp [total]
    rw [e, List.length_cons]
    omega
theorem total_row {rows : List (Option Addr × Nat × Nat × List Int)} {y : Option Addr × Nat × Nat × List Int} (h : y ∈ rows) : y.2.1 ≤ total rows := by
  induction rows with
  | nil => simp at h
  | cons z r ih =>
    have e : total (z :: r) = z.2.1 + total r := by simp [total]
    rcases List.mem_cons.1 h with rfl | h
    · omega
    · have := ih h; omega

set_option maxHeartbeats 1000000 in
theorem size_any (a : Option Addr) (len cap : Nat) (rows : List (Option Addr × Nat × Nat × List Int)) (w : World) (hr : ArgRows .u8 w a len cap rows) (hy : ∀ y ∈ rows, y.2.1 ≤ 140737488355328) (h100 : len ≤ 100) :
    Calls Try.prog 12 #[.slice a len cap] w fun e w' => e = .returned (.int .i64 (total rows)) ∧ w = w' := by
  have HR := Lib.hid hr; have HY := Lib.hid hy
  have HL := Lib.hid hr.1
  clear hr hy
  go_enter Try.func12, Try.ntmps12
  go_wp2
  go_loop [3, 5, 8] (fun n _ i => ∃ j : Nat, j ≤ len ∧ i = .int .i64 j ∧ n = .int .i64 (total (rows.take j))) (fun _ _ i => len - (intOf i).toNat)
  case atStart => exact ⟨0, Nat.zero_le _, rfl, rfl⟩
  case round =>
    obtain ⟨j, hj, rfl, rfl⟩ := hrel
    by_cases hlt : j < len
    · obtain ⟨b, off, y, rfl, _, hy, hm, hc, _⟩ := HR.out.get j hlt
      have hlt' : (j : Int) < len := by omega
      obtain ⟨T, hT⟩ := named (total (rows.take j))
      obtain ⟨l, hl⟩ := named y.2.1
      have TS : Hid (total (rows.take (j + 1)) = T + l) := by show _ = _; rw [total_take hy, hT.out, hl.out]
      have hT2 : T ≤ 14073748835532800 := by
        have h1 := total_le (rows.take j) fun z hz => HY.out z (List.mem_of_mem_take hz)
        rw [← hT.out] at h1
        refine Nat.le_trans h1 (Nat.le_trans (Nat.mul_le_mul_right 140737488355328 (show (rows.take j).length ≤ 100 from ?_)) (Nat.le_refl 14073748835532800))
        rw [List.length_take, HL.out]; omega
      have hl2 : l ≤ 140737488355328 := by rw [hl.out]; exact HY.out y hm
      rw [← hT.out]
      rw [← hl.out] at hc
      clear hy hm
      go_wp2
      go_round
      case rel => exact ⟨j + 1, by omega, by go_num, by rw [TS.out]; go_num⟩
      case measure => simp [intOf]; omega
    · obtain rfl : len = j := by omega
      go_wp2
      go_ret
      exact ⟨by rw [List.take_of_length_le (by rw [HL.out]; exact Nat.le_refl _)]; rfl, rfl⟩
end Go.Proofs.Ytodohdhbnihdbaa
