/-
  Layer 13: plain mathematics: classes numbered anew, in the order of their first occurrence. No memory.
-/
namespace Go.Proofs.YtmbimnnacjbdfaaGreatDoor.Tre

/-- each but once, in the order of the first occurrences -/
def dd (s : List Int) : List Int → List Int
  | [] => s
  | c :: t => dd (if c ∈ s then s else s ++ [c]) t
theorem dd_snoc (c : Int) : ∀ (t s : List Int), dd s (t ++ [c]) = if c ∈ dd s t then dd s t else dd s t ++ [c]
  | [], _ => rfl
  | _ :: t, _ => dd_snoc c t _
theorem dd_mem (x : Int) : ∀ (t s : List Int), x ∈ dd s t ↔ x ∈ s ∨ x ∈ t
  | [], s => by simp [dd]
  | c :: t, s => by
    rw [dd, dd_mem x t]
    by_cases h : c ∈ s
    · rw [if_pos h, List.mem_cons]
      constructor
      · rintro (h | h)
        · exact .inl h
        · exact .inr (.inr h)
      · rintro (h' | rfl | h')
        · exact .inl h'
        · exact .inl h
        · exact .inr h'
    · rw [if_neg h, List.mem_append, List.mem_singleton, List.mem_cons]
      exact ⟨fun h => h.elim (fun h => h.elim .inl fun h => .inr (.inl h)) fun h => .inr (.inr h), fun h => h.elim (fun h => .inl (.inl h)) fun h => h.elim (fun h => .inl (.inr h)) .inr⟩
theorem dd_map {f : Int → Int} : ∀ (t s : List Int), (∀ x y, x ∈ s ∨ x ∈ t → y ∈ s ∨ y ∈ t → f x = f y → x = y) → dd (s.map f) (t.map f) = (dd s t).map f
  | [], _, _ => rfl
  | c :: t, s, h => by
    have e : (if f c ∈ s.map f then s.map f else s.map f ++ [f c]) = (if c ∈ s then s else s ++ [c]).map f := by
      by_cases hc : c ∈ s
      · rw [if_pos hc, if_pos (List.mem_map_of_mem hc)]
      · rw [if_neg hc, if_neg, List.map_append]
        · rfl
        · intro hm
          obtain ⟨a, ha, e⟩ := List.mem_map.mp hm
          exact hc (h a c (.inl ha) (.inr (List.mem_cons_self ..)) e ▸ ha)
    rw [List.map_cons, dd, dd, e]
    refine dd_map t _ fun x y hx hy => h x y ?_ ?_
    · rcases hx with hx | hx
      · split at hx
        · exact .inl hx
        · rcases List.mem_append.mp hx with hx | hx
          · exact .inl hx
          · exact .inr (List.mem_cons.mpr (.inl (List.mem_singleton.mp hx)))
      · exact .inr (List.mem_cons_of_mem _ hx)
    · rcases hy with hx | hx
      · split at hx
        · exact .inl hx
        · rcases List.mem_append.mp hx with hx | hx
          · exact .inl hx
          · exact .inr (List.mem_cons.mpr (.inl (List.mem_singleton.mp hx)))
      · exact .inr (List.mem_cons_of_mem _ hx)
theorem idx_map {f : Int → Int} {c : Int} : ∀ (s : List Int), (∀ x, x ∈ s → f x = f c → x = c) → (s.map f).idxOf (f c) = s.idxOf c
  | [], _ => rfl
  | a :: s, h => by
    rw [List.map_cons, List.idxOf_cons, List.idxOf_cons, idx_map s fun x hx => h x (List.mem_cons_of_mem _ hx)]
    by_cases e : a = c
    · subst e; simp
    · have e' : ¬ f a = f c := fun h' => e (h a (List.mem_cons_self ..) h')
      have b1 : (a == c) = false := by simpa using e
      have b2 : (f a == f c) = false := by simpa using e'
      rw [b1, b2]
theorem count_map {f : Int → Int} {c : Int} : ∀ (s : List Int), (∀ x, x ∈ s → f x = f c → x = c) → (s.map f).count (f c) = s.count c
  | [], _ => rfl
  | a :: s, h => by
    rw [List.map_cons, List.count_cons, List.count_cons, count_map s fun x hx => h x (List.mem_cons_of_mem _ hx)]
    by_cases e : a = c
    · subst e; simp
    · have e' : ¬ f a = f c := fun h' => e (h a (List.mem_cons_self ..) h')
      have b1 : (a == c) = false := by simpa using e
      have b2 : (f a == f c) = false := by simpa using e'
      rw [b1, b2]

/-- a class that occurs more than once -/
def Many (l : List Int) (c : Int) : Prop := 0 < c ∧ 2 ≤ l.count c
instance (l : List Int) (c : Int) : Decidable (Many l c) := inferInstanceAs (Decidable (_ ∧ _))
theorem Many.mem {l : List Int} {c : Int} (h : Many l c) : c ∈ l := List.count_pos_iff.mp (by have := h.2; omega)
/-- the classes that stay, in the order of their first occurrences -/
def cls (l : List Int) : List Int := dd [] (l.filter fun c => decide (Many l c))
/-- a class's new number -/
def num (l : List Int) (c : Int) : Int := if Many l c then ((cls l).idxOf c : Int) + 1 else 0
theorem cls_mem {l : List Int} {c : Int} : c ∈ cls l ↔ Many l c := by
  unfold cls
  rw [dd_mem, List.mem_filter, decide_eq_true_iff]
  exact ⟨fun h => h.elim (fun h => by cases h) fun h => h.2, fun h => .inr ⟨h.mem, h⟩⟩
theorem num_pos {l : List Int} {c : Int} : 0 < num l c ↔ Many l c := by
  unfold num
  split
  · rename_i h; exact ⟨fun _ => h, fun _ => by omega⟩
  · rename_i h; exact ⟨fun h => absurd h (by decide), fun h' => absurd h' h⟩
theorem num_nonneg (l : List Int) (c : Int) : 0 ≤ num l c := by unfold num; split <;> omega
theorem num_inj {l : List Int} {a b : Int} (ha : Many l a) (hb : Many l b) (h : num l a = num l b) : a = b := by
  unfold num at h
  rw [if_pos ha, if_pos hb] at h
  have e : (cls l).idxOf a = (cls l).idxOf b := by omega
  have h1 := List.getElem_idxOf (List.idxOf_lt_length_iff.mpr (cls_mem.mpr ha))
  have h2 := List.getElem_idxOf (List.idxOf_lt_length_iff.mpr (cls_mem.mpr hb))
  rw [← h1, ← h2]
  congr 1
theorem num_map {l : List Int} {f : Int → Int} (hm : ∀ a ∈ l, (Many (l.map f) (f a) ↔ Many l a)) (hi : ∀ a b, Many l a → Many l b → f a = f b → a = b) {a : Int} (ha : a ∈ l) : num (l.map f) (f a) = num l a := by
  have e : cls (l.map f) = (cls l).map f := by
    unfold cls
    rw [List.filter_map]
    have e' : l.filter ((fun c => decide (Many (l.map f) c)) ∘ f) = l.filter fun c => decide (Many l c) := List.filter_congr fun x hx => by
      show decide (Many (l.map f) (f x)) = decide (Many l x)
      exact decide_eq_decide.mpr (hm x hx)
    rw [e']
    refine dd_map _ [] fun x y hx hy h => hi x y ?_ ?_ h
    · rcases hx with hx | hx
      · cases hx
      · exact of_decide_eq_true (List.mem_filter.mp hx).2
    · rcases hy with hx | hx
      · cases hx
      · exact of_decide_eq_true (List.mem_filter.mp hx).2
  unfold num
  by_cases h : Many l a
  · rw [if_pos h, if_pos ((hm a ha).mpr h), e, idx_map _ fun x hx => hi x a (cls_mem.mp hx) h]
  · rw [if_neg h, if_neg fun h' => h ((hm a ha).mp h')]
/-- numbering other numbers -/
theorem num_ren {l : List Int} {f : Int → Int} (hp : ∀ a ∈ l, (0 < f a ↔ 0 < a)) (hi : ∀ a ∈ l, ∀ b ∈ l, 0 < a → 0 < b → f a = f b → a = b) {a : Int} (ha : a ∈ l) : num (l.map f) (f a) = num l a := by
  refine num_map (fun a ha => ?_) (fun a b ha hb => hi a ha.mem b hb.mem ha.1 hb.1) ha
  by_cases h : 0 < a
  · unfold Many
    rw [hp a ha, count_map l fun x hx e => hi x hx a ha ((hp x hx).mp (by rw [e]; exact (hp a ha).mpr h)) h e]
  · exact ⟨fun h' => absurd ((hp a ha).mp h'.1) h, fun h' => absurd h'.1 h⟩
/-- numbering twice is numbering once -/
theorem num_num {l : List Int} {a : Int} (ha : a ∈ l) : num (l.map (num l)) (num l a) = num l a := by
  refine num_map (fun a _ => ?_) (fun a b ha hb h => num_inj ha hb h) ha
  by_cases h : Many l a
  · unfold Many
    rw [num_pos, count_map l fun x hx e => num_inj (num_pos.mp (by rw [e]; exact num_pos.mpr h)) h e]
    exact ⟨fun h' => ⟨h.1, h'.2⟩, fun h' => ⟨h, h'.2⟩⟩
  · exact ⟨fun h' => absurd (num_pos.mp h'.1) h, fun h' => absurd h' h⟩
/-- the numbers up to a place of the list: how many, and what a class's number is -/
def clsU (l : List Int) (n : Nat) : List Int := dd [] ((l.take n).filter fun c => decide (Many l c))
theorem clsU_end (l : List Int) : clsU l l.length = cls l := by unfold clsU cls; rw [List.take_of_length_le (Nat.le_refl _)]
theorem clsU_step {l : List Int} {n : Nat} (h : n < l.length) : clsU l (n + 1) = if Many l l[n] ∧ l[n] ∉ clsU l n then clsU l n ++ [l[n]] else clsU l n := by
  unfold clsU
  rw [List.take_succ_eq_append_getElem h, List.filter_append]
  by_cases hm : Many l l[n]
  · rw [List.filter_cons, if_pos (decide_eq_true hm), List.filter_nil, dd_snoc]
    split
    · rename_i h'; rw [if_neg fun h => h.2 h']
    · rename_i h'; rw [if_pos ⟨hm, h'⟩]
  · rw [List.filter_cons, if_neg (by rw [decide_eq_true_iff]; exact hm), List.filter_nil, List.append_nil, if_neg fun h => hm h.1]
theorem clsU_pre {l : List Int} : ∀ {n m : Nat}, n ≤ m → m ≤ l.length → ∃ r, clsU l m = clsU l n ++ r
  | n, m, h, hm => by
    induction m with
    | zero => obtain rfl : n = 0 := by omega
              exact ⟨[], by simp⟩
    | succ m ih =>
      by_cases e : n = m + 1
      · subst e; exact ⟨[], by simp⟩
      · obtain ⟨r, hr⟩ := ih (by omega) (by omega)
        rw [clsU_step (by omega), hr]
        split
        · exact ⟨r ++ [l[m]], by rw [List.append_assoc]⟩
        · exact ⟨r, rfl⟩
theorem num_at {l : List Int} {n : Nat} {c : Int} (hn : n ≤ l.length) (h : c ∈ clsU l n) : num l c = ((clsU l n).idxOf c : Int) + 1 := by
  have hm : Many l c := by
    unfold clsU at h
    rw [dd_mem] at h
    exact h.elim (fun h => by cases h) fun h => of_decide_eq_true (List.mem_filter.mp h).2
  unfold num
  obtain ⟨r, hr⟩ := clsU_pre (l := l) hn (Nat.le_refl _)
  rw [if_pos hm, ← clsU_end, hr, List.idxOf_append, if_pos h]
/-- a class that comes new gets the next number -/
theorem num_new {l : List Int} {n : Nat} (h : n < l.length) (hm : Many l l[n]) (hc : l[n] ∉ clsU l n) : num l l[n] = ((clsU l n).length : Int) + 1 := by
  have e : clsU l (n + 1) = clsU l n ++ [l[n]] := by rw [clsU_step h, if_pos ⟨hm, hc⟩]
  rw [num_at (n := n + 1) h (by rw [e]; simp), e, List.idxOf_append, if_neg hc]
  simp
theorem clsU_mem {l : List Int} {n : Nat} (hn : n ≤ l.length) {c : Int} : c ∈ clsU l n ↔ Many l c ∧ ∃ j, ∃ h : j < l.length, j < n ∧ l[j] = c := by
  unfold clsU
  rw [dd_mem, List.mem_filter, decide_eq_true_iff]
  constructor
  · rintro (h | ⟨h1, h2⟩)
    · cases h
    · obtain ⟨j, hj, e⟩ := List.getElem_of_mem h1
      rw [List.length_take] at hj
      rw [List.getElem_take] at e
      exact ⟨h2, j, by omega, by omega, e⟩
  · rintro ⟨h, j, hj, hn', rfl⟩
    refine .inr ⟨?_, h⟩
    rw [← List.getElem_take (j := n) (h := by rw [List.length_take]; omega)]
    exact List.getElem_mem _
end Go.Proofs.YtmbimnnacjbdfaaGreatDoor.Tre
