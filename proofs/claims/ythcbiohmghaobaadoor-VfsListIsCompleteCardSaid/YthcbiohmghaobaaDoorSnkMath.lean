/-
  Layer 5: what a write accepts; what WriteAll leaves. No memory.
-/
import Derived.Test.YthcbiohmghaobaaDoorPz02
namespace Go.Proofs.YthcbiohmghaobaaDoor

/-- the sink of L bytes fails now -/
def full (F : Int) (L : Nat) : Prop := 0 ≤ F ∧ F = L
instance (F : Int) (L : Nat) : Decidable (full F L) := by unfold full; infer_instance
/-- how many of m bytes a write accepts, behind r writes -/
def wrK (cs : List Int) (F : Int) (L r m : Nat) : Nat := if m = 0 ∨ full F L then 0 else (min (min (m : Int) (chunkZ cs r)) (if 0 ≤ F then F - L else m)).toNat
def wrE (F : Int) (L m : Nat) : Int := if m = 0 then 0 else if full F L then 11 else 0
def wrR (F : Int) (L r m : Nat) : Nat := if m = 0 ∨ full F L then r else r + 1

theorem wrK_le (cs : List Int) (F : Int) (L r m : Nat) : wrK cs F L r m ≤ m := by unfold wrK; split <;> omega
theorem wrK_pos {cs : List Int} {F : Int} {L r m : Nat} (hm : m ≠ 0) (hf : ¬ full F L) (hL : 0 ≤ F → (L : Int) ≤ F) : 1 ≤ wrK cs F L r m := by
  have := chunkZ_pos cs r
  unfold full at hf
  unfold wrK
  rw [if_neg (by unfold full; omega)]
  split <;> omega
theorem wrK_fit {cs : List Int} {F : Int} {L r m : Nat} (h0 : 0 ≤ F) (hL : (L : Int) ≤ F) : ((L + wrK cs F L r m : Nat) : Int) ≤ F := by
  unfold wrK
  split
  · omega
  · omega

/-- how many of m bytes WriteAll accepts; its error -/
def allK (F : Int) (L m : Nat) : Nat := if 0 ≤ F ∧ F - L < m then (F - L).toNat else m
def allE (F : Int) (L m : Nat) : Int := if 0 ≤ F ∧ F - L < m then 11 else 0
/-- the number of writes behind WriteAll of m bytes, f of them looked at -/
def allR (cs : List Int) (F : Int) : Nat → Nat → Nat → Nat → Nat
  | 0, _, r, _ => r
  | f + 1, L, r, m => if m = 0 ∨ full F L then r else allR cs F f (L + wrK cs F L r m) (r + 1) (m - wrK cs F L r m)

theorem allR_fuel (cs : List Int) (F : Int) : ∀ (f L r m : Nat), m ≤ f → (0 ≤ F → (L : Int) ≤ F) → allR cs F f L r m = allR cs F m L r m
  | 0, L, r, m, h, _ => by obtain rfl : m = 0 := by omega
                           rfl
  | f + 1, L, r, 0, _, _ => by simp [allR]
  | f + 1, L, r, m + 1, h, hL => by
    by_cases hf : full F L
    · simp [allR, hf]
    · have hk := wrK_pos (cs := cs) (r := r) (m := m + 1) (by omega) hf hL
      have hle := wrK_le cs F L r (m + 1)
      have hL' : 0 ≤ F → ((L + wrK cs F L r (m + 1) : Nat) : Int) ≤ F := fun h0 => wrK_fit h0 (hL h0)
      simp only [allR]
      have hn : ¬ (m + 1 = 0 ∨ full F L) := fun h => h.elim (by omega) hf
      rw [if_neg hn, if_neg hn, allR_fuel cs F f _ _ _ (by omega) hL', allR_fuel cs F m _ _ _ (by omega) hL']
  termination_by f => f

/-- one write of WriteAll -/
theorem allR_step {cs : List Int} {F : Int} {L r m : Nat} (hm : m ≠ 0) (hf : ¬ full F L) (hL : 0 ≤ F → (L : Int) ≤ F) :
    allR cs F m L r m = allR cs F (m - wrK cs F L r m) (L + wrK cs F L r m) (r + 1) (m - wrK cs F L r m) := by
  have hk := wrK_pos (cs := cs) (r := r) hm hf hL
  have hL' : 0 ≤ F → ((L + wrK cs F L r m : Nat) : Int) ≤ F := fun h0 => wrK_fit h0 (hL h0)
  obtain ⟨f, rfl⟩ : ∃ f, m = f + 1 := ⟨m - 1, by omega⟩
  conv => lhs; simp only [allR]
  rw [if_neg (fun h => h.elim (by omega) hf), allR_fuel cs F f _ _ _ (by omega) hL']
theorem allR_stop (cs : List Int) {F : Int} {L r m : Nat} (h : m = 0 ∨ full F L) : allR cs F m L r m = r := by
  cases m with
  | zero => rfl
  | succ m => simp only [allR]; rw [if_pos h]
theorem allK_step {cs : List Int} {F : Int} {L r m : Nat} (hL : 0 ≤ F → (L : Int) ≤ F) :
    allK F L m = wrK cs F L r m + allK F (L + wrK cs F L r m) (m - wrK cs F L r m) ∧ allE F (L + wrK cs F L r m) (m - wrK cs F L r m) = allE F L m := by
  have h1 := wrK_le cs F L r m
  have h2 : 0 ≤ F → ((L + wrK cs F L r m : Nat) : Int) ≤ F := fun h0 => wrK_fit h0 (hL h0)
  generalize wrK cs F L r m = k at *
  unfold allK allE
  constructor
  · split <;> split <;> omega
  · congr 1
    apply propext
    omega
theorem allK_le (F : Int) (L m : Nat) (hL : 0 ≤ F → (L : Int) ≤ F) : allK F L m ≤ m ∧ (0 ≤ F → ((L + allK F L m : Nat) : Int) ≤ F) := by
  unfold allK
  split <;> omega
end Go.Proofs.YthcbiohmghaobaaDoor
