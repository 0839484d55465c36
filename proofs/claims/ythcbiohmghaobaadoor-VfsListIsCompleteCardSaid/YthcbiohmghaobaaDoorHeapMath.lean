/-
  Plain mathematics of a binary heap in a row: down, up, the root, what is popped. No memory, no imports.
-/
namespace Go.Proofs.YthcbiohmghaobaaDoor
namespace Hep
section
variable {α : Type} [Inhabited α]
/-- element i -/
def g (l : List α) (i : Nat) : α := (l[i]?).getD default
theorem g_get {l : List α} {i : Nat} (h : i < l.length) : g l i = l[i] := by unfold g; rw [List.getElem?_eq_getElem h]; rfl
/-- two elements exchanged -/
def swl (l : List α) (i j : Nat) : List α := (l.set i (g l j)).set j (g l i)
theorem swl_len (l : List α) (i j : Nat) : (swl l i j).length = l.length := by unfold swl; simp
theorem swl_i {l : List α} {i j : Nat} (hi : i < l.length) (hj : j < l.length) : g (swl l i j) i = g l j := by
  unfold swl
  by_cases h : i = j
  · subst h; unfold g; rw [List.getElem?_set_self (by simpa using hi)]; rfl
  · show ((((l.set i (g l j)).set j (g l i))[i]?).getD default) = _
    rw [List.getElem?_set_ne (Ne.symm h), List.getElem?_set_self hi]; rfl
theorem swl_j {l : List α} {i j : Nat} (hj : j < l.length) : g (swl l i j) j = g l i := by
  unfold swl
  show ((((l.set i (g l j)).set j (g l i))[j]?).getD default) = _
  rw [List.getElem?_set_self (by rw [List.length_set]; exact hj)]; rfl
theorem swl_o {l : List α} {i j k : Nat} (hi : k ≠ i) (hj : k ≠ j) : g (swl l i j) k = g l k := by
  unfold swl
  show ((((l.set i (g l j)).set j (g l i))[k]?).getD default) = _
  rw [List.getElem?_set_ne (Ne.symm hj), List.getElem?_set_ne (Ne.symm hi)]; rfl
theorem swl_perm {l : List α} {i j : Nat} (hi : i < l.length) (hj : j < l.length) : (swl l i j).Perm l := by
  unfold swl
  rw [g_get hi, g_get hj]
  exact List.set_set_perm hi hj

/-- the place above -/
def par (i : Nat) : Nat := (i - 1) / 2
theorem par_lt {i : Nat} (h : 0 < i) : par i < i := by unfold par; omega
theorem par_le (i : Nat) : par i ≤ i := by unfold par; omega
theorem par_child {c i : Nat} (h : 0 < c) : par c = i ↔ c = 2 * i + 1 ∨ c = 2 * i + 2 := by unfold par; omega

variable (le : α → α → Prop)
/-- a heap among the first n, from place lo on -/
def HP (lo n : Nat) (l : List α) : Prop := ∀ c, 0 < c → c < n → lo ≤ par c → le (g l (par c)) (g l c)
/-- all but the edges out of i; what is above i is under what is below i -/
structure D (lo n : Nat) (l : List α) (i : Nat) : Prop where
  e : ∀ c, 0 < c → c < n → lo ≤ par c → par c ≠ i → le (g l (par c)) (g l c)
  s : ∀ c, 0 < c → c < n → par c = i → 0 < i → lo ≤ par i → le (g l (par i)) (g l c)
/-- all but the edge into j -/
structure U (n : Nat) (l : List α) (j : Nat) : Prop where
  e : ∀ c, 0 < c → c < n → c ≠ j → le (g l (par c)) (g l c)
  s : ∀ c, 0 < c → c < n → par c = j → 0 < j → le (g l (par j)) (g l c)
variable {le}

/-! down -/
theorem D.start {i n : Nat} {l : List α} (h : HP le (i + 1) n l) : D le i n l i :=
  ⟨fun c h0 hc hl hn => h c h0 hc (by omega), fun c h0 hc hp hi hl => absurd (par_lt hi) (by omega)⟩
theorem D.stop {lo n i : Nat} {l : List α} (h : D le lo n l i) (hs : ∀ c, 0 < c → c < n → par c = i → le (g l i) (g l c)) : HP le lo n l := fun c h0 hc hl => by
  by_cases e : par c = i
  · rw [e]; exact hs c h0 hc e
  · exact h.e c h0 hc hl e
theorem D.leaf {lo n i : Nat} {l : List α} (h : D le lo n l i) (hn : n ≤ 2 * i + 1) : HP le lo n l := h.stop fun c h0 hc hp => by
  rcases (par_child h0).mp hp with e | e <;> omega
/-- the lesser child is not less -/
theorem D.done {lo n i j : Nat} {l : List α} (tr : ∀ x y z : α, le x y → le y z → le x z) (h : D le lo n l i) (hm : ∀ c, 0 < c → c < n → par c = i → le (g l j) (g l c)) (hle : le (g l i) (g l j)) : HP le lo n l :=
  h.stop fun c h0 hc hp => tr _ _ _ hle (hm c h0 hc hp)
/-- one step -/
theorem D.step {lo n i j : Nat} {l : List α} (h : D le lo n l i) (hln : n ≤ l.length) (hj0 : 0 < j) (hjn : j < n) (hp : par j = i) (hlo : lo ≤ i) (hm : ∀ c, 0 < c → c < n → par c = i → le (g l j) (g l c)) (hle : le (g l j) (g l i)) : D le lo n (swl l i j) j := by
  have hij : i < j := by rw [← hp]; exact par_lt hj0
  have hi : i < l.length := by omega
  have hj : j < l.length := by omega
  refine ⟨fun c h0 hc hl hn => ?_, fun c h0 hc hpc h0j hl => ?_⟩
  · by_cases e : par c = i
    · rw [e, swl_i hi hj]
      by_cases ej : c = j
      · subst ej; rw [swl_j hj]; exact hle
      · rw [swl_o (by have := par_lt h0; omega) ej]; exact hm c h0 hc e
    · rw [swl_o e hn]
      by_cases ei : c = i
      · subst ei
        rw [swl_i hi hj]
        exact h.s j hj0 hjn hp h0 hl
      · by_cases ej : c = j
        · subst ej; exact absurd hp e
        · rw [swl_o ei ej]; exact h.e c h0 hc hl e
  · rw [hp, swl_i hi hj]
    have := par_lt h0
    rw [swl_o (by omega) (by omega)]
    have := h.e c h0 hc (by omega) (by omega)
    rwa [hpc] at this

/-! up -/
theorem U.stop {n j : Nat} {l : List α} (h : U le n l j) (hs : j = 0 ∨ le (g l (par j)) (g l j)) : HP le 0 n l := fun c h0 hc _ => by
  by_cases e : c = j
  · subst e
    rcases hs with hs | hs
    · omega
    · exact hs
  · exact h.e c h0 hc e
theorem U.step {n j : Nat} {l : List α} (tr : ∀ x y z : α, le x y → le y z → le x z) (h : U le n l j) (hln : n ≤ l.length) (hj0 : 0 < j) (hjn : j < n) (hle : le (g l j) (g l (par j))) : U le n (swl l (par j) j) (par j) := by
  have hij := par_lt hj0
  have hi : par j < l.length := by omega
  have hj : j < l.length := by omega
  refine ⟨fun c h0 hc hn => ?_, fun c h0 hc hpc h0j => ?_⟩
  · by_cases ej : c = j
    · subst ej; rw [swl_i hi hj, swl_j hj]; exact hle
    · rw [swl_o (k := c) hn ej]
      by_cases e : par c = par j
      · rw [e, swl_i hi hj]
        exact tr _ _ _ hle (by have := h.e c h0 hc ej; rwa [e] at this)
      · by_cases e2 : par c = j
        · rw [e2, swl_j hj]; exact h.s c h0 hc e2 hj0
        · rw [swl_o e e2]; exact h.e c h0 hc ej
  · have hpp := par_lt h0j
    rw [swl_o (k := par (par j)) (by omega) (by omega)]
    have hup := h.e (par j) h0j (by omega) (by omega)
    by_cases ej : c = j
    · subst ej; rw [swl_j hj]; exact hup
    · have := par_lt h0
      rw [swl_o (by omega) ej]
      have h2 := h.e c h0 hc ej
      rw [hpc] at h2
      exact tr _ _ _ hup h2
theorem U.start {l : List α} {x : α} (h : HP le 0 l.length l) : U le (l.length + 1) (l ++ [x]) l.length := by
  have gl : ∀ k, k < l.length → g (l ++ [x]) k = g l k := fun k hk => by unfold g; rw [List.getElem?_append_left hk]
  refine ⟨fun c h0 hc hn => ?_, fun c h0 hc hp hj => ?_⟩
  · have := par_lt h0
    rw [gl _ (by omega), gl _ (by omega)]
    exact h c h0 (by omega) (Nat.zero_le _)
  · have := par_lt h0; omega

/-! the root, and what Pop leaves -/
theorem HP.root {n : Nat} {l : List α} (rf : ∀ x : α, le x x) (tr : ∀ x y z : α, le x y → le y z → le x z) (h : HP le 0 n l) : ∀ c, c < n → le (g l 0) (g l c) := by
  intro c
  induction c using Nat.strongRecOn with
  | ind c ih =>
    intro hc
    rcases Nat.eq_zero_or_pos c with h0 | h0
    · subst h0; exact rf _
    · exact tr _ _ _ (ih (par c) (par_lt h0) (by have := par_lt h0; omega)) (h c h0 hc (Nat.zero_le _))
theorem HP.init {n lo : Nat} {l : List α} (h : n ≤ 2 * lo + 1) : HP le lo n l := fun c h0 hc hl => by
  unfold par at hl; omega
theorem D.pop {n : Nat} {l : List α} (h : HP le 0 (n + 1) l) : D le 0 n (swl l 0 n) 0 := by
  refine ⟨fun c h0 hc _ hn => ?_, fun c _ _ _ h0 => absurd h0 (Nat.lt_irrefl 0)⟩
  have := par_lt h0
  rw [swl_o hn (by omega), swl_o (by omega) (by omega)]
  exact h c h0 (by omega) (Nat.zero_le _)
theorem HP.take {n k lo : Nat} {l : List α} (h : HP le lo n l) (hk : n ≤ k) : HP le lo n (l.take k) := fun c h0 hc hl => by
  have gl : ∀ q, q < k → g (l.take k) q = g l q := fun q hq => by unfold g; rw [List.getElem?_take, if_pos hq]
  have := par_lt h0
  rw [gl _ (by omega), gl _ (by omega)]
  exact h c h0 hc hl
/-- a heap's root is the first of the sorted list -/
theorem root_head {l m : List α} {x : α} (rf : ∀ x : α, le x x) (tr : ∀ x y z : α, le x y → le y z → le x z) (an : ∀ x y : α, le x y → le y x → x = y)
    (h : HP le 0 l.length l) (hs : (x :: m).Pairwise le) (hp : l.Perm (x :: m)) : g l 0 = x := by
  have hl : 0 < l.length := by rw [hp.length_eq]; simp
  have h1 : g l 0 ∈ x :: m := hp.mem_iff.mp (by rw [g_get hl]; exact List.getElem_mem hl)
  obtain ⟨i, hi, hx⟩ := List.getElem_of_mem (hp.mem_iff.mpr (List.mem_cons_self (a := x) (l := m)))
  have h2 : le (g l 0) x := by have := h.root rf tr i hi; rwa [g_get hi, hx] at this
  rcases List.mem_cons.mp h1 with e | e
  · exact e
  · exact an _ _ h2 ((List.pairwise_cons.mp hs).1 _ e)
/-- what remains when the root has gone to the end -/
theorem pop_rest {l m : List α} {x : α} {n : Nat} (hn : l.length = n + 1) (hx : g l 0 = x) (hp : l.Perm (x :: m)) : ((swl l 0 n).take n).Perm m ∧ g (swl l 0 n) n = x := by
  have hl : g (swl l 0 n) n = x := by rw [swl_j (by omega), hx]
  refine ⟨?_, hl⟩
  have h1 := (swl_perm (l := l) (i := 0) (j := n) (by omega) (by omega)).trans hp
  have hlen : (swl l 0 n).length = n + 1 := by rw [swl_len, hn]
  have h2 : swl l 0 n = (swl l 0 n).take n ++ [x] := by
    conv => lhs; rw [← List.take_append_drop n (swl l 0 n)]
    congr 1
    rw [List.drop_eq_getElem_cons (by omega), List.drop_eq_nil_of_le (by omega), ← g_get (by omega), hl]
  rw [h2] at h1
  exact (List.perm_cons x).mp ((List.perm_append_comm (l₁ := [x]) (l₂ := (swl l 0 n).take n)).trans h1)
end
end Hep
end Go.Proofs.YthcbiohmghaobaaDoor
