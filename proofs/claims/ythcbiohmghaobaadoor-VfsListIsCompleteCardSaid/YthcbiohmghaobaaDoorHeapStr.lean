/-
  Plain mathematics: strings in byte order; the reference's Insert and Merge. No memory.
-/
import Derived.Test.YthcbiohmghaobaaDoorHeapMath
import Derived.Test.YthcbiohmghaobaaDoorPz01
namespace Go.Proofs.YthcbiohmghaobaaDoor
namespace Hep

/-! byte order -/
theorem bl_irrefl : ∀ x : List UInt8, Op.bytesLess x x = false
  | [] => rfl
  | a :: x => by
    show (decide (a < a) || (a == a && Op.bytesLess x x)) = false
    rw [bl_irrefl x]; simp
theorem bl_tri : ∀ x y : List UInt8, Op.bytesLess x y = true ∨ x = y ∨ Op.bytesLess y x = true
  | [], [] => .inr (.inl rfl)
  | [], b :: y => .inl rfl
  | a :: x, [] => .inr (.inr rfl)
  | a :: x, b :: y => by
    show (decide (a < b) || (a == b && Op.bytesLess x y)) = true ∨ _ ∨ (decide (b < a) || (b == a && Op.bytesLess y x)) = true
    rcases Nat.lt_trichotomy a.toNat b.toNat with h | h | h
    · exact .inl (by rw [decide_eq_true (UInt8.lt_iff_toNat_lt.mpr h)]; rfl)
    · obtain rfl : a = b := UInt8.toNat_inj.mp h
      rcases bl_tri x y with h | h | h
      · exact .inl (by simp [h])
      · exact .inr (.inl (by rw [h]))
      · exact .inr (.inr (by simp [h]))
    · exact .inr (.inr (by rw [decide_eq_true (UInt8.lt_iff_toNat_lt.mpr h)]; rfl))
theorem bl_trans : ∀ x y z : List UInt8, Op.bytesLess x y = true → Op.bytesLess y z = true → Op.bytesLess x z = true
  | [], [], _, h, _ => by cases h
  | _ :: _, [], _, h, _ => by cases h
  | _, _ :: _, [], _, h => by cases h
  | [], _ :: _, _ :: _, _, _ => rfl
  | a :: x, b :: y, c :: z, h, k => by
    have h : (decide (a < b) || (a == b && Op.bytesLess x y)) = true := h
    have k : (decide (b < c) || (b == c && Op.bytesLess y z)) = true := k
    show (decide (a < c) || (a == c && Op.bytesLess x z)) = true
    simp only [Bool.or_eq_true, decide_eq_true_eq, Bool.and_eq_true, beq_iff_eq, UInt8.lt_iff_toNat_lt] at h k ⊢
    rcases h with h | ⟨h0, h'⟩
    · rcases k with k | ⟨k0, k'⟩
      · exact .inl (by omega)
      · rw [← k0]; exact .inl h
    · rcases k with k | ⟨k0, k'⟩
      · rw [h0]; exact .inl k
      · exact .inr ⟨h0.trans k0, bl_trans x y z h' k'⟩
theorem bl_asym {x y : List UInt8} (h : Op.bytesLess x y = true) : Op.bytesLess y x = false := by
  cases e : Op.bytesLess y x with
  | false => rfl
  | true => have := bl_trans x y x h e; rw [bl_irrefl] at this; cases this

/-- x does not come behind y -/
def Le (x y : ByteArray) : Prop := Op.bytesLess y.toList x.toList = false
instance (x y : ByteArray) : Decidable (Le x y) := by unfold Le; infer_instance
theorem le_rf (x : ByteArray) : Le x x := bl_irrefl _
theorem list_inj {x y : ByteArray} (h : x.toList = y.toList) : x = y := by
  apply ByteArray.ext
  apply Array.ext'
  rw [ByteArray.toList_eq, ByteArray.toList_eq] at h
  exact h
theorem le_an (x y : ByteArray) (h : Le x y) (k : Le y x) : x = y := by
  unfold Le at h k
  rcases bl_tri x.toList y.toList with e | e | e
  · rw [k] at e; cases e
  · exact list_inj e
  · rw [h] at e; cases e
theorem le_tr (x y z : ByteArray) (h : Le x y) (k : Le y z) : Le x z := by
  unfold Le at h k ⊢
  cases e : Op.bytesLess z.toList x.toList with
  | false => rfl
  | true =>
    rcases bl_tri y.toList z.toList with q | q | q
    · rw [bl_trans _ _ _ q e] at h; cases h
    · rw [q, e] at h; cases h
    · rw [k] at q; cases q
theorem le_tot (x y : ByteArray) : Le x y ∨ Le y x := by
  unfold Le
  cases e : Op.bytesLess y.toList x.toList with
  | false => exact .inl rfl
  | true => exact .inr (bl_asym e)
theorem not_le {x y : ByteArray} : ¬ Le x y ↔ Op.bytesLess y.toList x.toList = true := by unfold Le; cases Op.bytesLess y.toList x.toList <;> simp
/-- what '>' answers -/
theorem gtr_le (x y : ByteArray) : (!(Op.bytesLess x.toList y.toList || x.toList == y.toList)) = decide (¬ Le x y) := by
  by_cases h : Le x y
  · rw [decide_eq_false (fun k => k h)]
    rcases bl_tri x.toList y.toList with e | e | e
    · simp [e]
    · simp [e]
    · unfold Le at h; rw [h] at e; cases e
  · rw [decide_eq_true h]
    have h' := not_le.mp h
    have h1 := bl_asym h'
    have h2 : (x.toList == y.toList) = false := by
      rw [beq_eq_false_iff_ne]
      intro e
      rw [e, bl_irrefl] at h'; cases h'
    rw [h1, h2]; rfl

/-! the reference -/
/-- where s goes: behind all that do not come behind it, from the end -/
def at_ (l : List ByteArray) (s : ByteArray) : Nat → Nat
  | 0 => 0
  | k + 1 => if Le (g l k) s then k + 1 else at_ l s k
def ins (l : List ByteArray) (s : ByteArray) : List ByteArray := l.take (at_ l s l.length) ++ [s] ++ l.drop (at_ l s l.length)
theorem at_le (l : List ByteArray) (s : ByteArray) : ∀ k, at_ l s k ≤ k
  | 0 => Nat.le_refl _
  | k + 1 => by
    unfold at_
    split
    · exact Nat.le_refl _
    · exact Nat.le_succ_of_le (at_le l s k)
theorem at_hi (l : List ByteArray) (s : ByteArray) : ∀ k i, at_ l s k ≤ i → i < k → ¬ Le (g l i) s
  | 0, i, _, h => absurd h (Nat.not_lt_zero i)
  | k + 1, i, h, hi => by
    unfold at_ at h
    split at h
    · omega
    · rename_i hn
      by_cases e : i = k
      · rw [e]; exact hn
      · exact at_hi l s k i h (by omega)
theorem at_lo (l : List ByteArray) (s : ByteArray) : ∀ k, 0 < at_ l s k → Le (g l (at_ l s k - 1)) s
  | 0, h => absurd h (Nat.lt_irrefl 0)
  | k + 1, h => by
    unfold at_ at h ⊢
    split
    · rename_i hl; exact hl
    · rename_i hn; rw [if_neg hn] at h; exact at_lo l s k h
theorem ins_perm (l : List ByteArray) (s : ByteArray) : (ins l s).Perm (s :: l) := by
  unfold ins
  rw [List.append_assoc]
  refine (List.perm_middle (l₁ := l.take (at_ l s l.length)) (a := s) (l₂ := l.drop (at_ l s l.length))).trans ?_
  rw [List.take_append_drop]
theorem ins_sorted {l : List ByteArray} (h : l.Pairwise Le) (s : ByteArray) : (ins l s).Pairwise Le := by
  unfold ins
  rw [List.append_assoc, List.pairwise_append]
  have hk := at_le l s l.length
  have lo : ∀ x ∈ l.take (at_ l s l.length), Le x s := by
    intro x hx
    obtain ⟨i, hi, rfl⟩ := List.getElem_of_mem hx
    rw [List.length_take] at hi
    rw [List.getElem_take]
    have hl := at_lo l s l.length (by omega)
    by_cases e : i = at_ l s l.length - 1
    · rw [← e] at hl; rwa [g_get (by omega)] at hl
    · refine le_tr _ _ _ ?_ hl
      rw [g_get (by omega)]
      exact List.pairwise_iff_getElem.mp h i _ (by omega) (by omega) (by omega)
  have hi : ∀ y ∈ l.drop (at_ l s l.length), Le s y := by
    intro y hy
    obtain ⟨i, hi, rfl⟩ := List.getElem_of_mem hy
    rw [List.length_drop] at hi
    rw [List.getElem_drop]
    have := at_hi l s l.length (at_ l s l.length + i) (by omega) (by omega)
    rw [g_get (by omega)] at this
    rcases le_tot s l[at_ l s l.length + i] with q | q
    · exact q
    · exact absurd q this
  refine ⟨h.sublist (List.take_sublist _ _), ?_, ?_⟩
  · show List.Pairwise Le (s :: _)
    exact List.pairwise_cons.mpr ⟨hi, h.sublist (List.drop_sublist _ _)⟩
  · intro x hx y hy
    have hxs := lo x hx
    rcases List.mem_cons.mp (show y ∈ s :: _ from hy) with e | e
    · rw [e]; exact hxs
    · exact le_tr _ _ _ hxs (hi y e)
/-- all strings of all lists, in ascending order -/
def mrg (l : List (List ByteArray)) : List ByteArray := l.flatten.foldl ins []
theorem fold_sorted : ∀ (l acc : List ByteArray), acc.Pairwise Le → (l.foldl ins acc).Pairwise Le ∧ (l.foldl ins acc).Perm (acc ++ l)
  | [], acc, h => ⟨h, by simp⟩
  | s :: l, acc, h => by
    obtain ⟨h1, h2⟩ := fold_sorted l (ins acc s) (ins_sorted h s)
    refine ⟨h1, h2.trans ?_⟩
    refine ((ins_perm acc s).append_right l).trans ?_
    exact (List.perm_middle (l₁ := acc) (a := s) (l₂ := l)).symm
theorem mrg_sorted (l : List (List ByteArray)) : (mrg l).Pairwise Le := (fold_sorted _ [] List.Pairwise.nil).1
theorem mrg_perm (l : List (List ByteArray)) : (mrg l).Perm l.flatten := by have := (fold_sorted l.flatten [] List.Pairwise.nil).2; rw [List.nil_append] at this; exact this
/-- what is sorted and holds the same is the same -/
theorem sorted_eq {l m : List ByteArray} (hl : l.Pairwise Le) (hm : m.Pairwise Le) (hp : l.Perm m) : l = m := hp.eq_of_pairwise (fun a b _ _ h k => le_an a b h k) hl hm
theorem sorted_mrg {l : List ByteArray} {q : List (List ByteArray)} (hl : l.Pairwise Le) (hp : l.Perm q.flatten) : l = mrg q := sorted_eq hl (mrg_sorted q) (hp.trans (mrg_perm q).symm)
end Hep
end Go.Proofs.YthcbiohmghaobaaDoor
