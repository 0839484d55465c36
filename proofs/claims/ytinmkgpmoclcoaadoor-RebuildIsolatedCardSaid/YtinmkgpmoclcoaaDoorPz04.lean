/-
  Layer 13: plain mathematics: classes numbered anew, in the order of their first occurrence. No memory.
-/
import Derived.Test.YtinmkgpmoclcoaaDoorPz01
import Derived.Lib.ItoaNum
import Derived.Test.YtinmkgpmoclcoaaDoorPz02
import GoSem.Op.String
import Derived.Test.YtinmkgpmoclcoaaDoorPnmMath
namespace Go.Proofs.YtinmkgpmoclcoaaDoor.Tre

/-- each but once, in the order of the first occurrences -/
def dd (s : List Int) : List Int → List Int
  | [] => s
  | c :: t => dd (if c ∈ s then s else s ++ [c]) t
theorem dd_snoc (c : Int) : ∀ (t s : List Int), dd s (t ++ [c]) = if c ∈ dd s t then dd s t else dd s t ++ [c]
  | [], _ => rfl
  | _ :: t, _ => dd_snoc c t _
theorem dd_mem (x : Int) : ∀ (t s : List Int), x ∈ dd s t ↔ x ∈ s ∨ x ∈ t
  | [], s => by simp [dd]
  | c :: t, s => by
    rw [dd, dd_mem x t]
    by_cases h : c ∈ s
    · rw [if_pos h, List.mem_cons]
      constructor
      · rintro (h | h)
        · exact .inl h
        · exact .inr (.inr h)
      · rintro (h' | rfl | h')
        · exact .inl h'
        · exact .inl h
        · exact .inr h'
    · rw [if_neg h, List.mem_append, List.mem_singleton, List.mem_cons]
      exact ⟨fun h => h.elim (fun h => h.elim .inl fun h => .inr (.inl h)) fun h => .inr (.inr h), fun h => h.elim (fun h => .inl (.inl h)) fun h => h.elim (fun h => .inl (.inr h)) .inr⟩
theorem dd_map {f : Int → Int} : ∀ (t s : List Int), (∀ x y, x ∈ s ∨ x ∈ t → y ∈ s ∨ y ∈ t → f x = f y → x = y) → dd (s.map f) (t.map f) = (dd s t).map f
  | [], _, _ => rfl
  | c :: t, s, h => by
    have e : (if f c ∈ s.map f then s.map f else s.map f ++ [f c]) = (if c ∈ s then s else s ++ [c]).map f := by
      by_cases hc : c ∈ s
      · rw [if_pos hc, if_pos (List.mem_map_of_mem hc)]
      · rw [if_neg hc, if_neg, List.map_append]
        · rfl
        · intro hm
          obtain ⟨a, ha, e⟩ := List.mem_map.mp hm
          exact hc (h a c (.inl ha) (.inr (List.mem_cons_self ..)) e ▸ ha)
    rw [List.map_cons, dd, dd, e]
    refine dd_map t _ fun x y hx hy => h x y ?_ ?_
    · rcases hx with hx | hx
      · split at hx
        · exact .inl hx
        · rcases List.mem_append.mp hx with hx | hx
          · exact .inl hx
          · exact .inr (List.mem_cons.mpr (.inl (List.mem_singleton.mp hx)))
      · exact .inr (List.mem_cons_of_mem _ hx)
    · rcases hy with hx | hx
      · split at hx
        · exact .inl hx
        · rcases List.mem_append.mp hx with hx | hx
          · exact .inl hx
          · exact .inr (List.mem_cons.mpr (.inl (List.mem_singleton.mp hx)))
      · exact .inr (List.mem_cons_of_mem _ hx)
theorem idx_map {f : Int → Int} {c : Int} : ∀ (s : List Int), (∀ x, x ∈ s → f x = f c → x = c) → (s.map f).idxOf (f c) = s.idxOf c
  | [], _ => rfl
  | a :: s, h => by
    rw [List.map_cons, List.idxOf_cons, List.idxOf_cons, idx_map s fun x hx => h x (List.mem_cons_of_mem _ hx)]
    by_cases e : a = c
    · subst e; simp
    · have e' : ¬ f a = f c := fun h' => e (h a (List.mem_cons_self ..) h')
      have b1 : (a == c) = false := by simpa using e
      have b2 : (f a == f c) = false := by simpa using e'
      rw [b1, b2]
theorem count_map {f : Int → Int} {c : Int} : ∀ (s : List Int), (∀ x, x ∈ s → f x = f c → x = c) → (s.map f).count (f c) = s.count c
  | [], _ => rfl
  | a :: s, h => by
    rw [List.map_cons, List.count_cons, List.count_cons, count_map s fun x hx => h x (List.mem_cons_of_mem _ hx)]
    by_cases e : a = c
    · subst e; simp
    · have e' : ¬ f a = f c := fun h' => e (h a (List.mem_cons_self ..) h')
      have b1 : (a == c) = false := by simpa using e
      have b2 : (f a == f c) = false := by simpa using e'
      rw [b1, b2]

/-- a class that occurs more than once -/
def Many (l : List Int) (c : Int) : Prop := 0 < c ∧ 2 ≤ l.count c
instance (l : List Int) (c : Int) : Decidable (Many l c) := inferInstanceAs (Decidable (_ ∧ _))
theorem Many.mem {l : List Int} {c : Int} (h : Many l c) : c ∈ l := List.count_pos_iff.mp (by have := h.2; omega)
/-- the classes that stay, in the order of their first occurrences -/
def cls (l : List Int) : List Int := dd [] (l.filter fun c => decide (Many l c))
/-- a class's new number -/
def num (l : List Int) (c : Int) : Int := if Many l c then ((cls l).idxOf c : Int) + 1 else 0
theorem cls_mem {l : List Int} {c : Int} : c ∈ cls l ↔ Many l c := by
  unfold cls
  rw [dd_mem, List.mem_filter, decide_eq_true_iff]
  exact ⟨fun h => h.elim (fun h => by cases h) fun h => h.2, fun h => .inr ⟨h.mem, h⟩⟩
theorem num_pos {l : List Int} {c : Int} : 0 < num l c ↔ Many l c := by
  unfold num
  split
  · rename_i h; exact ⟨fun _ => h, fun _ => by omega⟩
  · rename_i h; exact ⟨fun h => absurd h (by decide), fun h' => absurd h' h⟩
theorem num_nonneg (l : List Int) (c : Int) : 0 ≤ num l c := by unfold num; split <;> omega
theorem num_inj {l : List Int} {a b : Int} (ha : Many l a) (hb : Many l b) (h : num l a = num l b) : a = b := by
  unfold num at h
  rw [if_pos ha, if_pos hb] at h
  have e : (cls l).idxOf a = (cls l).idxOf b := by omega
  have h1 := List.getElem_idxOf (List.idxOf_lt_length_iff.mpr (cls_mem.mpr ha))
  have h2 := List.getElem_idxOf (List.idxOf_lt_length_iff.mpr (cls_mem.mpr hb))
  rw [← h1, ← h2]
  congr 1
theorem num_map {l : List Int} {f : Int → Int} (hm : ∀ a ∈ l, (Many (l.map f) (f a) ↔ Many l a)) (hi : ∀ a b, Many l a → Many l b → f a = f b → a = b) {a : Int} (ha : a ∈ l) : num (l.map f) (f a) = num l a := by
  have e : cls (l.map f) = (cls l).map f := by
    unfold cls
    rw [List.filter_map]
    have e' : l.filter ((fun c => decide (Many (l.map f) c)) ∘ f) = l.filter fun c => decide (Many l c) := List.filter_congr fun x hx => by
      show decide (Many (l.map f) (f x)) = decide (Many l x)
      exact decide_eq_decide.mpr (hm x hx)
    rw [e']
    refine dd_map _ [] fun x y hx hy h => hi x y ?_ ?_ h
    · rcases hx with hx | hx
      · cases hx
      · exact of_decide_eq_true (List.mem_filter.mp hx).2
    · rcases hy with hx | hx
      · cases hx
      · exact of_decide_eq_true (List.mem_filter.mp hx).2
  unfold num
  by_cases h : Many l a
  · rw [if_pos h, if_pos ((hm a ha).mpr h), e, idx_map _ fun x hx => hi x a (cls_mem.mp hx) h]
  · rw [if_neg h, if_neg fun h' => h ((hm a ha).mp h')]
/-- numbering other numbers -/
theorem num_ren {l : List Int} {f : Int → Int} (hp : ∀ a ∈ l, (0 < f a ↔ 0 < a)) (hi : ∀ a ∈ l, ∀ b ∈ l, 0 < a → 0 < b → f a = f b → a = b) {a : Int} (ha : a ∈ l) : num (l.map f) (f a) = num l a := by
  refine num_map (fun a ha => ?_) (fun a b ha hb => hi a ha.mem b hb.mem ha.1 hb.1) ha
  by_cases h : 0 < a
  · unfold Many
    rw [hp a ha, count_map l fun x hx e => hi x hx a ha ((hp x hx).mp (by rw [e]; exact (hp a ha).mpr h)) h e]
  · exact ⟨fun h' => absurd ((hp a ha).mp h'.1) h, fun h' => absurd h'.1 h⟩
/-- numbering twice is numbering once -/
theorem num_num {l : List Int} {a : Int} (ha : a ∈ l) : num (l.map (num l)) (num l a) = num l a := by
  refine num_map (fun a _ => ?_) (fun a b ha hb h => num_inj ha hb h) ha
  by_cases h : Many l a
  · unfold Many
    rw [num_pos, count_map l fun x hx e => num_inj (num_pos.mp (by rw [e]; exact num_pos.mpr h)) h e]
    exact ⟨fun h' => ⟨h.1, h'.2⟩, fun h' => ⟨h, h'.2⟩⟩
  · exact ⟨fun h' => absurd (num_pos.mp h'.1) h, fun h' => absurd h' h⟩
/-- the numbers up to a place of the list: how many, and what a class's number is -/
def clsU (l : List Int) (n : Nat) : List Int := dd [] ((l.take n).filter fun c => decide (Many l c))
theorem clsU_end (l : List Int) : clsU l l.length = cls l := by unfold clsU cls; rw [List.take_of_length_le (Nat.le_refl _)]
theorem clsU_step {l : List Int} {n : Nat} (h : n < l.length) : clsU l (n + 1) = if Many l l[n] ∧ l[n] ∉ clsU l n then clsU l n ++ [l[n]] else clsU l n := by
  unfold clsU
  rw [List.take_succ_eq_append_getElem h, List.filter_append]
  by_cases hm : Many l l[n]
  · rw [List.filter_cons, if_pos (decide_eq_true hm), List.filter_nil, dd_snoc]
    split
    · rename_i h'; rw [if_neg fun h => h.2 h']
    · rename_i h'; rw [if_pos ⟨hm, h'⟩]
  · rw [List.filter_cons, if_neg (by rw [decide_eq_true_iff]; exact hm), List.filter_nil, List.append_nil, if_neg fun h => hm h.1]
theorem clsU_pre {l : List Int} : ∀ {n m : Nat}, n ≤ m → m ≤ l.length → ∃ r, clsU l m = clsU l n ++ r
  | n, m, h, hm => by
    induction m with
    | zero => obtain rfl : n = 0 := by omega
              exact ⟨[], by simp⟩
    | succ m ih =>
      by_cases e : n = m + 1
      · subst e; exact ⟨[], by simp⟩
      · obtain ⟨r, hr⟩ := ih (by omega) (by omega)
        rw [clsU_step (by omega), hr]
        split
        · exact ⟨r ++ [l[m]], by rw [List.append_assoc]⟩
        · exact ⟨r, rfl⟩
theorem num_at {l : List Int} {n : Nat} {c : Int} (hn : n ≤ l.length) (h : c ∈ clsU l n) : num l c = ((clsU l n).idxOf c : Int) + 1 := by
  have hm : Many l c := by
    unfold clsU at h
    rw [dd_mem] at h
    exact h.elim (fun h => by cases h) fun h => of_decide_eq_true (List.mem_filter.mp h).2
  unfold num
  obtain ⟨r, hr⟩ := clsU_pre (l := l) hn (Nat.le_refl _)
  rw [if_pos hm, ← clsU_end, hr, List.idxOf_append, if_pos h]
/-- a class that comes new gets the next number -/
theorem num_new {l : List Int} {n : Nat} (h : n < l.length) (hm : Many l l[n]) (hc : l[n] ∉ clsU l n) : num l l[n] = ((clsU l n).length : Int) + 1 := by
  have e : clsU l (n + 1) = clsU l n ++ [l[n]] := by rw [clsU_step h, if_pos ⟨hm, hc⟩]
  rw [num_at (n := n + 1) h (by rw [e]; simp), e, List.idxOf_append, if_neg hc]
  simp
theorem clsU_mem {l : List Int} {n : Nat} (hn : n ≤ l.length) {c : Int} : c ∈ clsU l n ↔ Many l c ∧ ∃ j, ∃ h : j < l.length, j < n ∧ l[j] = c := by
  unfold clsU
  rw [dd_mem, List.mem_filter, decide_eq_true_iff]
  constructor
  · rintro (h | ⟨h1, h2⟩)
    · cases h
    · obtain ⟨j, hj, e⟩ := List.getElem_of_mem h1
      rw [List.length_take] at hj
      rw [List.getElem_take] at e
      exact ⟨h2, j, by omega, by omega, e⟩
  · rintro ⟨h, j, hj, hn', rfl⟩
    refine .inr ⟨?_, h⟩
    rw [← List.getElem_take (j := n) (h := by rw [List.length_take]; omega)]
    exact List.getElem_mem _
end Go.Proofs.YtinmkgpmoclcoaaDoor.Tre
/-
  Layer 9: plain mathematics of decimal numerals and of a record's length.
-/
namespace Go.Proofs.YtinmkgpmoclcoaaDoor.Pxr
open Go.Lib

/-! decimal numerals, as bytes -/
def decD (n : Nat) : List Int := (decDigits n).map fun b => (b.toNat : Int)
def digB (z : Int) : Bool := decide (48 ≤ z) && decide (z ≤ 57)
def decV (zs : List Int) : Nat := zs.foldl (fun n z => 10 * n + (z - 48).toNat) 0
def decOk (zs : List Int) : Bool := !zs.isEmpty && zs.all digB && (decide (zs.getD 0 0 ≠ 48) || decide (zs.length = 1))

theorem snoc_ind {P : List Int → Prop} (nil : P []) (append_singleton : ∀ ys z, P ys → P (ys ++ [z])) (zs : List Int) : P zs := by
  rw [← List.reverse_reverse zs]
  generalize zs.reverse = l
  induction l with
  | nil => exact nil
  | cons a l ih => rw [List.reverse_cons]; exact append_singleton _ _ ih

theorem digB_iff (z : Int) : digB z = true ↔ 48 ≤ z ∧ z ≤ 57 := by unfold digB; simp
theorem ofNat_digit {n : Nat} (h : n < 10) : ((UInt8.ofNat (48 + n)).toNat : Int) = 48 + (n : Int) := by
  rw [UInt8.toNat_ofNat']; omega
theorem decD_small {n : Nat} (h : n < 10) : decD n = [48 + (n : Int)] := by
  unfold decD; rw [decDigits, dif_pos h, List.map_cons, List.map_nil, ofNat_digit h]
theorem decD_big {n : Nat} (h : ¬ n < 10) : decD n = decD (n / 10) ++ [48 + ((n % 10 : Nat) : Int)] := by
  unfold decD; rw [decDigits, dif_neg h, List.map_append, List.map_cons, List.map_nil, ofNat_digit (Nat.mod_lt _ (by decide))]
theorem decD_len (n : Nat) : (decD n).length = nDigits n := by unfold decD; rw [List.length_map, decDigits_length]
theorem decD_ne (n : Nat) : decD n ≠ [] := fun h => by
  have := decD_len n; rw [h] at this; have := nDigits_pos n; simp at *; omega
theorem decV_snoc (zs : List Int) (z : Int) : decV (zs ++ [z]) = 10 * decV zs + (z - 48).toNat := by unfold decV; rw [List.foldl_append]; rfl
theorem decV_nil : decV [] = 0 := rfl
theorem decV_decD (n : Nat) : decV (decD n) = n := by
  induction n using Nat.strongRecOn with
  | _ n ih =>
    by_cases h : n < 10
    · rw [decD_small h]; show 10 * 0 + (48 + (n : Int) - 48).toNat = n; omega
    · rw [decD_big h, decV_snoc, ih (n / 10) (by omega)]; omega
theorem decD_digs (n : Nat) : (decD n).all digB = true := by
  induction n using Nat.strongRecOn with
  | _ n ih =>
    by_cases h : n < 10
    · rw [decD_small h, List.all_cons, List.all_nil, Bool.and_true, digB_iff]; omega
    · rw [decD_big h, List.all_append, ih (n / 10) (by omega), Bool.true_and, List.all_cons, List.all_nil, Bool.and_true, digB_iff]; omega
theorem decD_head (n : Nat) (h1 : 1 ≤ n) : (decD n).getD 0 0 ≠ 48 := by
  induction n using Nat.strongRecOn with
  | _ n ih =>
    by_cases h : n < 10
    · rw [decD_small h]; show (48 + (n : Int)) ≠ 48; omega
    · have hne := decD_ne (n / 10)
      have := ih (n / 10) (by omega) (by omega)
      rw [decD_big h]
      cases hc : decD (n / 10) with
      | nil => exact absurd hc hne
      | cons a l => rw [hc] at this; exact this
theorem decD_ok (n : Nat) : decOk (decD n) = true := by
  unfold decOk
  rw [decD_digs, Bool.and_true]
  have hne := decD_ne n
  have : (decD n).isEmpty = false := by cases hc : decD n with
    | nil => exact absurd hc hne
    | cons _ _ => rfl
  rw [this, Bool.not_false, Bool.true_and]
  by_cases h : n < 10
  · rw [decD_small h]; simp
  · rw [decide_eq_true (decD_head n (by omega))]; rfl
theorem decV_pos : ∀ (zs : List Int), zs.all digB = true → zs ≠ [] → zs.getD 0 0 ≠ 48 → 1 ≤ decV zs := by
  intro zs
  induction zs using snoc_ind with
  | nil => intro _ h; exact absurd rfl h
  | append_singleton ys z ih =>
    intro ha _ hh
    rw [decV_snoc]
    rw [List.all_append, Bool.and_eq_true] at ha
    rcases List.eq_nil_or_concat ys with rfl | ⟨_, _, hy⟩
    · have h1 := ha.2
      rw [List.all_cons, List.all_nil, Bool.and_true, digB_iff] at h1
      change z ≠ 48 at hh
      omega
    · have hne : ys ≠ [] := by rw [hy]; simp
      have := ih ha.1 hne (by
        cases ys with
        | nil => exact absurd rfl hne
        | cons a l => exact hh)
      omega
theorem decD_decV : ∀ (zs : List Int), decOk zs = true → decD (decV zs) = zs := by
  intro zs
  induction zs using snoc_ind with
  | nil => intro h; exact absurd h (by decide)
  | append_singleton ys z ih =>
    intro h
    unfold decOk at h
    rw [Bool.and_eq_true, Bool.and_eq_true] at h
    obtain ⟨⟨_, ha⟩, hh⟩ := h
    rw [List.all_append, Bool.and_eq_true] at ha
    have h1 := ha.2
    rw [List.all_cons, List.all_nil, Bool.and_true, digB_iff] at h1
    rw [decV_snoc]
    rcases List.eq_nil_or_concat ys with rfl | ⟨_, _, hy⟩
    · rw [decV_nil, decD_small (by omega)]
      show [_] = [z]
      congr 1
      omega
    · have hne : ys ≠ [] := by rw [hy]; simp
      have hl : ys.length ≠ 0 := fun h => hne (List.length_eq_zero_iff.1 h)
      have hd : ys.getD 0 0 ≠ 48 := by
        rw [Bool.or_eq_true, decide_eq_true_eq, decide_eq_true_eq, List.length_append, List.length_singleton] at hh
        rcases hh with hh | hh
        · cases ys with
          | nil => exact absurd rfl hne
          | cons a l => exact hh
        · omega
      have hp := decV_pos ys ha.1 hne hd
      have hok : decOk ys = true := by
        unfold decOk
        rw [ha.1, decide_eq_true hd]
        cases ys with
        | nil => exact absurd rfl hne
        | cons a l => rfl
      have e := ih hok
      rw [decD_big (by omega)]
      rw [show (10 * decV ys + (z - 48).toNat) / 10 = decV ys by omega, e]
      congr 2
      omega
theorem decV_mono (xs ys : List Int) : decV xs ≤ decV (xs ++ ys) := by
  induction ys using snoc_ind with
  | nil => rw [List.append_nil]; exact Nat.le_refl _
  | append_singleton ys z ih => rw [← List.append_assoc, decV_snoc]; omega
theorem decV_take_le (zs : List Int) (k : Nat) : decV (zs.take k) ≤ decV zs := by
  have := decV_mono (zs.take k) (zs.drop k); rwa [List.take_append_drop] at this
theorem decV_take_succ (zs : List Int) (k : Nat) (h : k < zs.length) : decV (zs.take (k + 1)) = 10 * decV (zs.take k) + (zs.getD k 0 - 48).toNat := by
  rw [List.take_succ_eq_append_getElem h, decV_snoc, List.getD_eq_getElem?_getD, List.getElem?_eq_getElem h]; rfl
theorem decOk_iff (zs : List Int) : decOk zs = true ↔ zs ≠ [] ∧ (∀ k, k < zs.length → 48 ≤ zs.getD k 0 ∧ zs.getD k 0 ≤ 57) ∧ (zs.getD 0 0 = 48 → zs.length = 1) := by
  unfold decOk
  rw [Bool.and_eq_true, Bool.and_eq_true, Bool.or_eq_true, decide_eq_true_eq, decide_eq_true_eq]
  constructor
  · rintro ⟨⟨h1, h2⟩, h3⟩
    refine ⟨fun e => (by rw [e] at h1; cases h1), fun k hk => ?_, fun e => h3.resolve_left (fun h => h e)⟩
    rw [List.all_eq_true] at h2
    have := h2 _ (List.getElem_mem hk)
    rw [digB_iff] at this
    rw [List.getD_eq_getElem?_getD, List.getElem?_eq_getElem hk]; exact this
  · rintro ⟨h1, h2, h3⟩
    refine ⟨⟨?_, ?_⟩, ?_⟩
    · cases zs with
      | nil => exact absurd rfl h1
      | cons _ _ => rfl
    · rw [List.all_eq_true]
      intro z hz
      obtain ⟨k, hk, rfl⟩ := List.getElem_of_mem hz
      have := h2 k hk
      rw [List.getD_eq_getElem?_getD, List.getElem?_eq_getElem hk] at this
      exact (digB_iff _).2 this
    · by_cases e : zs.getD 0 0 = 48
      · exact .inr (h3 e)
      · exact .inl e

/-! the number of digits -/
theorem nDigits_mono {a b : Nat} (h : a ≤ b) : nDigits a ≤ nDigits b := by
  induction b using Nat.strongRecOn generalizing a with
  | _ b ih =>
    by_cases hb : b < 10
    · rw [nDigits_small hb, nDigits_small (by omega)]; exact Nat.le_refl _
    · rw [nDigits_big hb]
      by_cases ha : a < 10
      · rw [nDigits_small ha]; omega
      · rw [nDigits_big ha]
        have := ih (b / 10) (by omega) (show a / 10 ≤ b / 10 by omega)
        omega
theorem nDigits_le : ∀ (k n : Nat), n < 10 ^ (k + 1) → nDigits n ≤ k + 1
  | 0, n, h => by rw [nDigits_small (by simpa using h)]; exact Nat.le_refl _
  | k + 1, n, h => by
    by_cases hn : n < 10
    · rw [nDigits_small hn]; omega
    · rw [nDigits_big hn]
      rw [Nat.pow_succ] at h
      have := nDigits_le k (n / 10) (by omega)
      omega

/-! the length of a record: 'rest' bytes besides the length itself -/
def szF : Nat → Nat → Nat → Nat
  | 0, D, _ => D
  | f + 1, D, rest => if nDigits (D + rest) ≤ D then D else szF f (D + 1) rest
def szD (rest : Nat) : Nat := szF 7 1 rest
def szN (rest : Nat) : Nat := szD rest + rest

theorem szF_spec (rest : Nat) : ∀ (f D : Nat), 1 ≤ D → nDigits (D + f + rest) ≤ D + f → (∀ d, 1 ≤ d → d < D → ¬ nDigits (d + rest) ≤ d) →
    D ≤ szF f D rest ∧ szF f D rest ≤ D + f ∧ nDigits (szF f D rest + rest) ≤ szF f D rest ∧ ∀ d, 1 ≤ d → d < szF f D rest → ¬ nDigits (d + rest) ≤ d
  | 0, D, h1, h2, h3 => ⟨Nat.le_refl _, Nat.le_refl _, h2, h3⟩
  | f + 1, D, h1, h2, h3 => by
    unfold szF
    by_cases h : nDigits (D + rest) ≤ D
    · rw [if_pos h]; exact ⟨Nat.le_refl _, by omega, h, h3⟩
    · rw [if_neg h]
      obtain ⟨a, b, c, d⟩ := szF_spec rest f (D + 1) (by omega) (by rw [show D + 1 + f = D + (f + 1) by omega]; exact h2) (fun d hd1 hd2 => by
        by_cases e : d = D
        · rw [e]; exact h
        · exact h3 d hd1 (by omega))
      exact ⟨by omega, by omega, c, d⟩

theorem szD_spec {rest : Nat} (hr : rest ≤ 1000000) : 1 ≤ szD rest ∧ szD rest ≤ 8 ∧ nDigits (szD rest + rest) = szD rest ∧ ∀ d, 1 ≤ d → d < szD rest → d < nDigits (d + rest) := by
  have h8 : nDigits (1 + 7 + rest) ≤ 1 + 7 := nDigits_le 7 _ (by
    have : (10 : Nat) ^ (7 + 1) = 100000000 := by decide
    omega)
  obtain ⟨a, b, c, d⟩ := szF_spec rest 7 1 (Nat.le_refl _) h8 (fun d h1 h2 => by omega)
  refine ⟨a, b, ?_, fun d' h1 h2 => by have := d d' h1 h2; omega⟩
  change nDigits (szD rest + rest) ≤ szD rest at c
  change 1 ≤ szD rest at a
  by_cases e : szD rest = 1
  · rw [e] at c ⊢; have := nDigits_pos (1 + rest); omega
  · have := d (szD rest - 1) (by omega) (by show szD rest - 1 < szD rest; omega)
    have m := nDigits_mono (show szD rest - 1 + rest ≤ szD rest + rest by omega)
    omega
theorem szN_fix {rest : Nat} (hr : rest ≤ 1000000) : nDigits (szN rest) + rest = szN rest := by
  have := (szD_spec hr).2.2.1; unfold szN; omega
theorem szN_bd {rest : Nat} (hr : rest ≤ 1000000) : rest + 1 ≤ szN rest ∧ szN rest ≤ rest + 8 := by
  have := szD_spec hr; unfold szN; omega
theorem szN_least {rest m : Nat} (hr : rest ≤ 1000000) (h : nDigits m + rest = m) : szN rest ≤ m := by
  obtain ⟨_, _, _, h4⟩ := szD_spec hr
  unfold szN
  by_cases c : szD rest + rest ≤ m
  · exact c
  · have h1 : m - rest = nDigits m := by omega
    have h2 := nDigits_pos m
    have := h4 (m - rest) (by omega) (by omega)
    rw [show m - rest + rest = m by omega] at this
    omega
theorem szN_uniq {rest n : Nat} (hr : rest ≤ 1000000) (h : nDigits n + rest = n) (hl : ∀ m, m < n → nDigits m + rest ≠ m) : n = szN rest := by
  have h1 := szN_least hr h
  by_cases e : szN rest = n
  · exact e.symm
  · exact absurd (szN_fix hr) (hl _ (by omega))
/-- the steps of the program's loop -/
theorem szF_stop {f D rest : Nat} (h : nDigits (D + rest) ≤ D) : szF f D rest = D := by
  cases f with
  | zero => rfl
  | succ f => unfold szF; rw [if_pos h]
theorem szF_go {f D rest : Nat} (h : ¬ nDigits (D + rest) ≤ D) : szF (f + 1) D rest = szF f (D + 1) rest := by
  conv => lhs; unfold szF
  rw [if_neg h]
end Go.Proofs.YtinmkgpmoclcoaaDoor.Pxr
/-
  Layer 9: plain mathematics of records: Check, the encoding, one record off the front.
-/
namespace Go.Proofs.YtinmkgpmoclcoaaDoor.Pxr
open Go.Lib Go.RowKit

/-- a record: key, value -/
abbrev Rec := ByteArray × ByteArray
abbrev kLink : ByteArray := { data := #[108, 105, 110, 107, 112, 97, 116, 104] }
abbrev kPath : ByteArray := { data := #[112, 97, 116, 104] }
abbrev kSize : ByteArray := { data := #[115, 105, 122, 101] }

/-- the value of linkpath and path -/
def chkT (v : ByteArray) : Int := if 65536 < v.size then 7 else if v.size = 0 ∨ (0 : Int) ∈ numsOf v then 6 else 0
/-- the value of size -/
def chkS (v : ByteArray) : Int := if decOk (numsOf v) = false then 6 else if 1099511627776 < decV (numsOf v) then 3 else 0
def chk (r : Rec) : Int := if r.1 = kLink ∨ r.1 = kPath then chkT r.2 else if r.1 = kSize then chkS r.2 else 17
def keyLe (a b : ByteArray) : Bool := Op.bytesLess a.toList b.toList || a.toList == b.toList
/-- the key is not greater than that of the last of them -/
def prevLe (before : List Rec) (k : ByteArray) : Bool := match before.getLast? with
  | none => false
  | some q => keyLe k q.1
def chkN (before : List Rec) (r : Rec) : Int := if chk r ≠ 0 then chk r else if prevLe before r.1 = true then 12 else 0
def fmE : List Rec → List Rec → Int
  | _, [] => 0
  | before, r :: rs => if chkN before r ≠ 0 then chkN before r else fmE (before ++ [r]) rs
theorem fmE_cons (before : List Rec) (r : Rec) (rs : List Rec) : fmE before (r :: rs) = if chkN before r ≠ 0 then chkN before r else fmE (before ++ [r]) rs := rfl
def oth (r : Rec) : Nat := r.1.size + r.2.size + 3
def szR (r : Rec) : Nat := szN (oth r)
def enR (r : Rec) : List Int := decD (szR r) ++ [32] ++ numsOf r.1 ++ [61] ++ numsOf r.2 ++ [10]
def fmB (rs : List Rec) : List Int := (rs.map enR).flatten

theorem fmB_nil : fmB [] = [] := rfl
theorem fmB_snoc (rs : List Rec) (r : Rec) : fmB (rs ++ [r]) = fmB rs ++ enR r := by unfold fmB; simp
theorem fmB_cons (r : Rec) (rs : List Rec) : fmB (r :: rs) = enR r ++ fmB rs := by unfold fmB; simp
theorem fmB_append (a b : List Rec) : fmB (a ++ b) = fmB a ++ fmB b := by unfold fmB; simp

/-! what a good record is -/
structure Good (r : Rec) : Prop where
  key : r.1.size ≤ 8
  val : r.2.size ≤ 65536
  eq : (61 : Int) ∉ numsOf r.1
  idx : r.1 = kLink ∨ r.1 = kPath ∨ r.1 = kSize
theorem dec_len13 {zs : List Int} (h : decOk zs = true) (hv : decV zs ≤ 1099511627776) : zs.length ≤ 13 := by
  rw [← decD_decV zs h, decD_len]
  refine nDigits_le 12 _ ?_
  have : (10 : Nat) ^ (12 + 1) = 10000000000000 := by decide
  omega
theorem good_of {r : Rec} (h : chk r = 0) : Good r := by
  obtain ⟨k, v⟩ := r
  unfold chk at h
  dsimp only at h
  by_cases h1 : k = kLink ∨ k = kPath
  · rw [if_pos h1] at h
    unfold chkT at h
    have hv : v.size ≤ 65536 := by
      by_cases hv : 65536 < v.size
      · rw [if_pos hv] at h; omega
      · omega
    rcases h1 with rfl | rfl
    · exact ⟨(by decide : kLink.size ≤ 8), hv, (by decide : (61 : Int) ∉ numsOf kLink), .inl rfl⟩
    · exact ⟨(by decide : kPath.size ≤ 8), hv, (by decide : (61 : Int) ∉ numsOf kPath), .inr (.inl rfl)⟩
  · rw [if_neg h1] at h
    by_cases h2 : k = kSize
    · rw [if_pos h2] at h
      subst h2
      unfold chkS at h
      by_cases h3 : decOk (numsOf v) = false
      · rw [if_pos h3] at h; omega
      · rw [if_neg h3] at h
        by_cases h4 : 1099511627776 < decV (numsOf v)
        · rw [if_pos h4] at h; omega
        · have := dec_len13 (by simpa using h3) (by omega : decV (numsOf v) ≤ 1099511627776)
          rw [numsOf_length] at this
          exact ⟨(by decide : kSize.size ≤ 8), by show v.size ≤ 65536; omega, (by decide : (61 : Int) ∉ numsOf kSize), .inr (.inr rfl)⟩
    · rw [if_neg h2] at h; omega

theorem Good.oth {r : Rec} (h : Good r) : oth r ≤ 65547 := by have := h.key; have := h.val; unfold Pxr.oth; omega
theorem Good.sz {r : Rec} (h : Good r) : szR r ≤ 65555 := by
  have := szN_bd (rest := Pxr.oth r) (by have := h.oth; omega); have := h.oth; unfold szR; omega

theorem enR_len {r : Rec} (h : oth r ≤ 1000000) : (enR r).length = szR r := by
  unfold enR
  have := szN_fix h
  have e : nDigits (szR r) + oth r = szR r := this
  simp only [List.length_append, List.length_singleton, decD_len, numsOf_length]
  unfold oth at e
  omega

/-! the keys' order -/
theorem chkN_good {b : List Rec} {r : Rec} (h : chkN b r = 0) : chk r = 0 ∧ prevLe b r.1 = false := by
  unfold chkN at h
  by_cases h1 : chk r ≠ 0
  · rw [if_pos h1] at h; exact absurd h h1
  · rw [if_neg h1] at h
    refine ⟨by simpa using h1, ?_⟩
    by_cases h2 : prevLe b r.1 = true
    · rw [if_pos h2] at h; omega
    · simpa using h2
def kix (k : ByteArray) : Nat := if k = kLink then 0 else if k = kPath then 1 else if k = kSize then 2 else 3
theorem keyLe_ix {a b : ByteArray} (ha : a = kLink ∨ a = kPath ∨ a = kSize) (hb : b = kLink ∨ b = kPath ∨ b = kSize) : keyLe a b = decide (kix a ≤ kix b) := by
  have l1 : kLink.toList = [108, 105, 110, 107, 112, 97, 116, 104] := by rw [ByteArray.toList_eq]
  have l2 : kPath.toList = [112, 97, 116, 104] := by rw [ByteArray.toList_eq]
  have l3 : kSize.toList = [115, 105, 122, 101] := by rw [ByteArray.toList_eq]
  rcases ha with rfl | rfl | rfl <;> rcases hb with rfl | rfl | rfl <;> unfold keyLe <;> simp only [l1, l2, l3] <;> decide
/-- a chain of good records: at most as many as keys are left -/
theorem fmE_len : ∀ (rs before : List Rec), fmE before rs = 0 → (∀ q, before.getLast? = some q → Good q) → rs.length ≤ 3 - (match before.getLast? with | none => 0 | some q => kix q.1 + 1)
  | [], _, _, _ => Nat.zero_le _
  | r :: rs, before, h, hb => by
    unfold fmE at h
    by_cases h1 : chkN before r ≠ 0
    · rw [if_pos h1] at h; exact absurd h h1
    · rw [if_neg h1] at h
      obtain ⟨g1, g2⟩ := chkN_good (by simpa using h1)
      have G := good_of g1
      have ih := fmE_len rs (before ++ [r]) h (fun q hq => by
        rw [List.getLast?_append, List.getLast?_singleton, Option.some_or] at hq; cases hq; exact G)
      rw [List.getLast?_append, List.getLast?_singleton, Option.some_or] at ih
      dsimp only at ih
      rw [List.length_cons]
      have k2 : kix r.1 ≤ 2 := by
        rcases G.idx with e | e | e <;> rw [e] <;> decide
      unfold prevLe at g2
      cases hl : before.getLast? with
      | none => dsimp only; omega
      | some q =>
        rw [hl] at g2
        dsimp only at g2 ⊢
        rw [keyLe_ix G.idx (hb q hl).idx, decide_eq_false_iff_not] at g2
        omega
theorem fmE_three {rs : List Rec} (h : fmE [] rs = 0) : rs.length ≤ 3 := fmE_len rs [] h (fun _ h => by cases h)
theorem fmE_good : ∀ (rs before : List Rec), fmE before rs = 0 → ∀ r ∈ rs, Good r ∧ chk r = 0
  | [], _, _, r, hr => by cases hr
  | a :: rs, before, h, r, hr => by
    unfold fmE at h
    by_cases h1 : chkN before a ≠ 0
    · rw [if_pos h1] at h; exact absurd h h1
    · rw [if_neg h1] at h
      obtain ⟨g1, g2⟩ := chkN_good (by simpa using h1)
      rcases List.mem_cons.1 hr with rfl | hr
      · exact ⟨good_of g1, g1⟩
      · exact fmE_good rs _ h r hr
theorem fmE_app : ∀ (a b before : List Rec), fmE before (a ++ b) = 0 ↔ fmE before a = 0 ∧ fmE (before ++ a) b = 0
  | [], b, before => by rw [List.append_nil, List.nil_append]; exact ⟨fun h => ⟨rfl, h⟩, fun h => h.2⟩
  | r :: a, b, before => by
    rw [List.cons_append, fmE_cons, fmE_cons]
    by_cases h1 : chkN before r ≠ 0
    · rw [if_pos h1, if_pos h1]; exact ⟨fun h => absurd h h1, fun h => absurd h.1 h1⟩
    · rw [if_neg h1, if_neg h1, fmE_app a b (before ++ [r]), List.append_assoc, List.singleton_append]
theorem fmB_le {rs : List Rec} (h : fmE [] rs = 0) (k : Nat) : (fmB (rs.take k)).length ≤ 65555 * 3 := by
  have h3 := fmE_three h
  have key : ∀ l : List Rec, (∀ r ∈ l, Good r) → (fmB l).length ≤ 65555 * l.length := by
    intro l
    induction l with
    | nil => intro _; rw [fmB_nil]; exact Nat.zero_le _
    | cons a l ih =>
      intro hl
      rw [fmB_cons, List.length_append, List.length_cons]
      have := ih (fun r hr => hl r (List.mem_cons_of_mem _ hr))
      have hG := hl a (List.mem_cons_self ..)
      rw [enR_len (by have := hG.oth; omega)]
      have := hG.sz
      omega
  have := key (rs.take k) (fun r hr => (fmE_good rs [] h r (List.mem_of_mem_take hr)).1)
  rw [List.length_take] at this
  have : min k rs.length ≤ 3 := by omega
  omega
end Go.Proofs.YtinmkgpmoclcoaaDoor.Pxr
/-
  Layer 10: plain mathematics: entries, where their values are placed, what Merge composes. No memory.
-/
namespace Go.Proofs.YtinmkgpmoclcoaaDoor.Fit
open Go.Lib Go.RowKit Pxr Pnm

/-- an entry -/
structure Ent where
  k : Int
  p : ByteArray
  m : Int
  t : ByteArray
  s : Int
/-- a header -/
structure Hd where
  T : Int
  nm : ByteArray
  pf : ByteArray
  lk : ByteArray
  md : Int
  sz : Int
abbrev emp : ByteArray := { data := #[] }

def tyZ (k : Int) : Int := if k = 0 then 53 else if k = 1 then 48 else if k = 2 then 50 else 49
def kdZ (T : Int) : Int := if T = 53 then 0 else if T = 48 then 1 else if T = 50 then 2 else if T = 49 then 3 else -1
theorem kd_ty {k : Int} (h0 : 0 ≤ k) (h4 : k < 4) : kdZ (tyZ k) = k := by
  rcases (show k = 0 ∨ k = 1 ∨ k = 2 ∨ k = 3 by omega) with rfl | rfl | rfl | rfl <;> decide
theorem ty_known {k : Int} (h0 : 0 ≤ k) (h4 : k < 4) : tyZ k = 53 ∨ tyZ k = 48 ∨ tyZ k = 50 ∨ tyZ k = 49 := by
  rcases (show k = 0 ∨ k = 1 ∨ k = 2 ∨ k = 3 by omega) with rfl | rfl | rfl | rfl <;> decide

/-! Check -/
def tgE (k : Int) (t : ByteArray) : Int := if k = 2 then chkT t else if k = 3 then chE (numsOf t) else if t = emp then 0 else 2
def szE (k s : Int) : Int := if k = 1 then (if s < 0 ∨ 1099511627776 < s then 3 else 0) else if s = 0 then 0 else 2
def ckE (e : Ent) : Int :=
  if e.k < 0 ∨ 4 ≤ e.k then 8 else if chE (numsOf e.p) ≠ 0 then chE (numsOf e.p) else if e.m < 0 ∨ 4095 < e.m ∨ (e.k = 2 ∧ e.m ≠ 0) then 16 else
    if tgE e.k e.t ≠ 0 then tgE e.k e.t else szE e.k e.s

structure Ok (e : Ent) : Prop where
  k0 : 0 ≤ e.k
  k4 : e.k < 4
  path : chE (numsOf e.p) = 0
  m0 : 0 ≤ e.m
  m1 : e.m ≤ 4095
  mS : e.k = 2 → e.m = 0
  tg : tgE e.k e.t = 0
  sz : szE e.k e.s = 0
theorem ck_ok {e : Ent} : ckE e = 0 ↔ Ok e := by
  unfold ckE
  constructor
  · intro h
    by_cases h1 : e.k < 0 ∨ 4 ≤ e.k
    · rw [if_pos h1] at h; omega
    · rw [if_neg h1] at h
      by_cases h2 : chE (numsOf e.p) ≠ 0
      · rw [if_pos h2] at h; exact absurd h h2
      · rw [if_neg h2] at h
        by_cases h3 : e.m < 0 ∨ 4095 < e.m ∨ (e.k = 2 ∧ e.m ≠ 0)
        · rw [if_pos h3] at h; omega
        · rw [if_neg h3] at h
          by_cases h4 : tgE e.k e.t ≠ 0
          · rw [if_pos h4] at h; exact absurd h h4
          · rw [if_neg h4] at h
            exact ⟨by omega, by omega, Decidable.byContradiction h2, by omega, by omega, by omega, Decidable.byContradiction h4, h⟩
  · intro h
    have := h.k0; have := h.k4; have := h.m0; have := h.m1; have := h.mS
    rw [if_neg (by omega), if_neg (by rw [h.path]; simp), if_neg (by omega), if_neg (by rw [h.tg]; simp)]
    exact h.sz

theorem emp_size {t : ByteArray} : t = emp ↔ t.size = 0 := by
  constructor
  · rintro rfl; rfl
  · intro h; exact ByteArray.ext (Array.eq_empty_of_size_eq_zero h)
theorem path_pos {p : ByteArray} (h : chE (numsOf p) = 0) : p ≠ emp ∧ p.size ≤ 65536 := by
  obtain ⟨h1, h2⟩ := chE_zero.1 h
  rw [numsOf_length] at h1
  refine ⟨?_, h1⟩
  rintro rfl
  have := (h2 [] (by rw [show numsOf emp = [] from rfl]; exact List.mem_cons_self)).1
  exact this rfl
theorem first_at {x : Int} : ∀ {zs : List Int}, x ∈ zs → ∃ a c, zs = a ++ x :: c ∧ x ∉ a
  | [], h => by cases h
  | y :: r, h => by
    by_cases hy : y = x
    · exact ⟨[], r, by rw [hy]; rfl, by simp⟩
    · rcases List.mem_cons.1 h with e | h'
      · exact absurd e.symm hy
      · obtain ⟨a, c, e, ha⟩ := first_at h'
        refine ⟨y :: a, c, by rw [e]; rfl, ?_⟩
        rw [List.mem_cons]
        rintro (e' | e')
        · exact hy e'.symm
        · exact ha e'
theorem path_nozero : ∀ {zs : List Int}, pathOk zs → (0 : Int) ∉ zs := by
  intro zs
  induction hn : zs.length using Nat.strongRecOn generalizing zs with
  | _ n ih =>
    intro h
    by_cases h47 : (47 : Int) ∈ zs
    · obtain ⟨a, c, rfl, ha⟩ := first_at h47
      obtain ⟨p1, p2⟩ := (pathOk_app a c).1 h
      have i1 := ((pathOk_one ha).1 p1).2.2.2
      have i2 := ih c.length (by rw [← hn, List.length_append, List.length_cons]; omega) rfl p2
      rw [List.mem_append, List.mem_cons]
      rintro (h' | h' | h')
      · exact i1 h'
      · omega
      · exact i2 h'
    · exact ((pathOk_one h47).1 h).2.2.2
/-- what a target can be -/
theorem tg_cases {k : Int} {t : ByteArray} (h : tgE k t = 0) : t.size ≤ 65536 ∧ ((k ≠ 2 ∧ k ≠ 3 ∧ t = emp) ∨ ((k = 2 ∨ k = 3) ∧ t ≠ emp)) ∧ (t = emp ∨ chkT t = 0) := by
  unfold tgE at h
  by_cases h2 : k = 2
  · rw [if_pos h2] at h
    have h' := h
    unfold chkT at h
    by_cases hv : 65536 < t.size
    · rw [if_pos hv] at h; omega
    · rw [if_neg hv] at h
      by_cases he : t.size = 0 ∨ (0 : Int) ∈ numsOf t
      · rw [if_pos he] at h; omega
      · exact ⟨by omega, .inr ⟨.inl h2, fun e => he (.inl (emp_size.1 e))⟩, .inr h'⟩
  · rw [if_neg h2] at h
    by_cases h3 : k = 3
    · rw [if_pos h3] at h
      obtain ⟨a, b⟩ := path_pos h
      refine ⟨b, .inr ⟨.inr h3, a⟩, .inr ?_⟩
      unfold chkT
      rw [if_neg (by omega), if_neg]
      rintro (e | e)
      · exact a (emp_size.2 e)
      · exact absurd e (path_nozero (chE_zero.1 h).2)
    · rw [if_neg h3] at h
      by_cases ht : t = emp
      · subst ht; exact ⟨by decide, .inl ⟨h2, h3, rfl⟩, .inl rfl⟩
      · rw [if_neg ht] at h; omega
theorem sz_cases {k s : Int} (h : szE k s = 0) : 0 ≤ s ∧ s ≤ 1099511627776 ∧ (k ≠ 1 → s = 0) := by
  unfold szE at h
  by_cases h1 : k = 1
  · rw [if_pos h1] at h
    by_cases h2 : s < 0 ∨ 1099511627776 < s
    · rw [if_pos h2] at h; omega
    · omega
  · rw [if_neg h1] at h
    by_cases h2 : s = 0
    · omega
    · rw [if_neg h2] at h; omega
end Go.Proofs.YtinmkgpmoclcoaaDoor.Fit
