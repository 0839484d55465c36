/-
  Plain mathematics of a stable merge sort in place: rows of elements with keys, rotations, SymMerge. No memory; any element type.
-/
import Derived.Test.YtinmkgpmoclcoaaDoorPnmMath
namespace Go.Proofs.YtinmkgpmoclcoaaDoor
open Pnm

namespace Stab
section
variable {α : Type} [Inhabited α] (K : α → List Int)

/-- element i -/
def g (l : List α) (i : Nat) : α := (l[i]?).getD default
theorem g_get {l : List α} {i : Nat} (h : i < l.length) : g l i = l[i] := by unfold g; rw [List.getElem?_eq_getElem h]; rfl
theorem g_some {l : List α} {i : Nat} (h : i < l.length) : l[i]? = some (g l i) := by rw [g_get h]; exact List.getElem?_eq_getElem h
/-- zs is ys, read through the map -/
def Ix (zs ys : List α) (σ : Nat → Nat) : Prop := zs.length = ys.length ∧ ∀ k, zs[k]? = ys[σ k]?
theorem Ix.g {zs ys : List α} {σ : Nat → Nat} (h : Ix zs ys σ) (k : Nat) : Stab.g zs k = Stab.g ys (σ k) := by unfold Stab.g; rw [h.2]
omit [Inhabited α] in
theorem Ix.refl (ys : List α) {σ : Nat → Nat} (h : ∀ k, σ k = k) : Ix ys ys σ := ⟨rfl, fun k => by rw [h]⟩
omit [Inhabited α] in
theorem Ix.trans {zs ys xs : List α} {σ τ ρ : Nat → Nat} (h : Ix zs ys σ) (h' : Ix xs zs τ) (e : ∀ k, σ (τ k) = ρ k) : Ix xs ys ρ :=
  ⟨h'.1.trans h.1, fun k => by rw [h'.2, h.2, e]⟩
omit [Inhabited α] in
theorem Ix.same {zs ys : List α} {σ τ : Nat → Nat} (h : Ix zs ys σ) (e : ∀ k, σ k = τ k) : Ix zs ys τ := ⟨h.1, fun k => by rw [h.2, e]⟩
def swp (i j k : Nat) : Nat := if k = i then j else if k = j then i else k
def rot (a m b k : Nat) : Nat := if a ≤ k ∧ k < a + (b - m) then k + (m - a) else if a + (b - m) ≤ k ∧ k < b then k - (b - m) else k
/-- two elements exchanged -/
def swl (l : List α) (i j : Nat) : List α := (l.set i (g l j)).set j (g l i)
theorem swl_ix {l : List α} {i j : Nat} (hi : i < l.length) (hj : j < l.length) : Ix (swl l i j) l (swp i j) := by
  refine ⟨by unfold swl; simp, fun k => ?_⟩
  unfold swl swp
  by_cases hkj : k = j
  · subst hkj
    rw [List.getElem?_set_self (by rw [List.length_set]; exact hj)]
    by_cases hki : k = i
    · subst hki; rw [if_pos rfl]; exact (g_some hi).symm
    · rw [if_neg hki, if_pos rfl]; exact (g_some hi).symm
  · rw [List.getElem?_set_ne (Ne.symm hkj)]
    by_cases hki : k = i
    · subst hki
      rw [List.getElem?_set_self hi, if_pos rfl]; exact (g_some hj).symm
    · rw [List.getElem?_set_ne (Ne.symm hki), if_neg hki, if_neg hkj]

/-- elements of one key keep their order -/
def Stb (ys zs : List α) : Prop := ∀ q : List Int, zs.filter (fun x => decide (K x = q)) = ys.filter (fun x => decide (K x = q))
variable {K}
omit [Inhabited α] in
theorem Stb.refl (ys : List α) : Stb K ys ys := fun _ => rfl
omit [Inhabited α] in
theorem Stb.trans {ys zs xs : List α} (h : Stb K ys zs) (h' : Stb K zs xs) : Stb K ys xs := fun q => (h' q).trans (h q)
omit [Inhabited α] in
theorem Stb.mem {ys zs : List α} (h : Stb K ys zs) {x : α} (hx : x ∈ zs) : x ∈ ys := by
  have : x ∈ zs.filter (fun y => decide (K y = K x)) := List.mem_filter.mpr ⟨hx, decide_eq_true rfl⟩
  rw [h] at this
  exact (List.mem_filter.mp this).1
omit [Inhabited α] in
/-- a rotation, as lists -/
theorem rot_list {ys zs : List α} {a m b : Nat} (h : Ix zs ys (rot a m b)) (ha : a ≤ m) (hm : m ≤ b) (hb : b ≤ ys.length) :
    ys = ys.take a ++ ((ys.drop a).take (m - a) ++ ((ys.drop m).take (b - m) ++ ys.drop b)) ∧ zs = ys.take a ++ ((ys.drop m).take (b - m) ++ ((ys.drop a).take (m - a) ++ ys.drop b)) := by
  have e1 : ys.drop a = (ys.drop a).take (m - a) ++ ys.drop m := by
    conv => lhs; rw [← List.take_append_drop (m - a) (ys.drop a), List.drop_drop]
    rw [show a + (m - a) = m by omega]
  have e2 : ys.drop m = (ys.drop m).take (b - m) ++ ys.drop b := by
    conv => lhs; rw [← List.take_append_drop (b - m) (ys.drop m), List.drop_drop]
    rw [show m + (b - m) = b by omega]
  refine ⟨?_, ?_⟩
  · rw [← e2, ← e1, List.take_append_drop]
  · apply List.ext_getElem?
    intro k
    rw [h.2 k]
    unfold rot
    have l1 : (ys.take a).length = a := by rw [List.length_take]; omega
    have l2 : ((ys.drop m).take (b - m)).length = b - m := by rw [List.length_take, List.length_drop]; omega
    have l3 : ((ys.drop a).take (m - a)).length = m - a := by rw [List.length_take, List.length_drop]; omega
    by_cases c1 : k < a
    · rw [if_neg (by omega), if_neg (by omega), List.getElem?_append_left (by omega), List.getElem?_take_of_lt c1]
    · rw [List.getElem?_append_right (by omega), l1]
      by_cases c2 : k < a + (b - m)
      · rw [if_pos (by omega), List.getElem?_append_left (by omega), List.getElem?_take_of_lt (by omega), List.getElem?_drop]
        congr 1; omega
      · rw [if_neg (by omega), List.getElem?_append_right (by omega), l2]
        by_cases c3 : k < b
        · rw [if_pos (by omega), List.getElem?_append_left (by omega), List.getElem?_take_of_lt (by omega), List.getElem?_drop]
          congr 1; omega
        · rw [if_neg (by omega), List.getElem?_append_right (by omega), l3, List.getElem?_drop]
          congr 1; omega
theorem rot_stb {ys zs : List α} {a m b : Nat} (h : Ix zs ys (rot a m b)) (ha : a ≤ m) (hm : m ≤ b) (hb : b ≤ ys.length)
    (hd : ∀ i j, a ≤ i → i < m → m ≤ j → j < b → K (g ys i) ≠ K (g ys j)) : Stb K ys zs := by
  intro q
  obtain ⟨e1, e2⟩ := rot_list h ha hm hb
  have hnil : (((ys.drop a).take (m - a)).filter (fun x => decide (K x = q)) = []) ∨ (((ys.drop m).take (b - m)).filter (fun x => decide (K x = q)) = []) := by
    by_cases c : ((ys.drop a).take (m - a)).filter (fun x => decide (K x = q)) = []
    · exact .inl c
    · refine .inr (List.filter_eq_nil_iff.mpr fun y hy hq => c (List.filter_eq_nil_iff.mpr fun x hx hp => ?_))
      obtain ⟨i, hi, rfl⟩ := List.getElem_of_mem hx
      obtain ⟨j, hj, rfl⟩ := List.getElem_of_mem hy
      rw [List.length_take, List.length_drop] at hi hj
      rw [List.getElem_take, List.getElem_drop] at hp hq
      have := hd (a + i) (m + j) (by omega) (by omega) (by omega) (by omega)
      rw [g_get (by omega), g_get (by omega)] at this
      exact this ((of_decide_eq_true hp).trans (of_decide_eq_true hq).symm)
  rw [e2]
  conv => rhs; rw [e1]
  simp only [List.filter_append]
  rcases hnil with c | c <;> rw [c] <;> simp

/-- only the places from a to b have turned, and hold what they held -/
structure Win (ys zs : List α) (a b : Nat) : Prop where
  len : zs.length = ys.length
  out : ∀ k, k < a ∨ b ≤ k → g zs k = g ys k
  inn : ∀ k, a ≤ k → k < b → ∃ j, a ≤ j ∧ j < b ∧ g zs k = g ys j
theorem Win.refl (ys : List α) (a b : Nat) : Win ys ys a b := ⟨rfl, fun _ _ => rfl, fun k h h' => ⟨k, h, h', rfl⟩⟩
theorem Win.trans {ys zs xs : List α} {a b : Nat} (h : Win ys zs a b) (h' : Win zs xs a b) : Win ys xs a b :=
  ⟨h'.len.trans h.len, fun k hk => (h'.out k hk).trans (h.out k hk), fun k h1 h2 => by
    obtain ⟨j, j1, j2, e⟩ := h'.inn k h1 h2
    obtain ⟨i, i1, i2, e'⟩ := h.inn j j1 j2
    exact ⟨i, i1, i2, e.trans e'⟩⟩
theorem Win.wide {ys zs : List α} {a b c d : Nat} (h : Win ys zs a b) (hc : c ≤ a) (hd : b ≤ d) : Win ys zs c d :=
  ⟨h.len, fun k hk => h.out k (by omega), fun k h1 h2 => by
    by_cases hk : a ≤ k ∧ k < b
    · obtain ⟨j, j1, j2, e⟩ := h.inn k hk.1 hk.2
      exact ⟨j, by omega, by omega, e⟩
    · exact ⟨k, h1, h2, h.out k (by omega)⟩⟩
theorem rot_win {ys zs : List α} {s m e : Nat} (h : Ix zs ys (rot s m e)) (h1 : s ≤ m) (h2 : m ≤ e) : Win ys zs s e := by
  refine ⟨h.1, fun k hk => ?_, fun k k1 k2 => ⟨rot s m e k, ?_, ?_, h.g k⟩⟩
  · rw [h.g]; unfold rot; rw [if_neg (by omega), if_neg (by omega)]
  · unfold rot; split
    · omega
    · split <;> omega
  · unfold rot; split
    · omega
    · split <;> omega

/-- sorted from a to b -/
def SrtOn (K : α → List Int) (ys : List α) (a b : Nat) : Prop := ∀ i j, a ≤ i → i < j → j < b → cmpZ (K (g ys i)) (K (g ys j)) ≤ 0
theorem SrtOn.le {ys : List α} {a b : Nat} (h : SrtOn K ys a b) {i j : Nat} (h1 : a ≤ i) (h2 : i ≤ j) (h3 : j < b) : cmpZ (K (g ys i)) (K (g ys j)) ≤ 0 := by
  by_cases e : i = j
  · subst e; rw [(cmp_eq _ _).mpr rfl]; exact Int.le_refl 0
  · exact h i j h1 (by omega) h3
theorem SrtOn.sub {ys : List α} {a b c d : Nat} (h : SrtOn K ys a b) (h1 : a ≤ c) (h2 : d ≤ b) : SrtOn K ys c d := fun i j k1 k2 k3 => h i j (by omega) k2 (by omega)
theorem SrtOn.one (ys : List α) (a b : Nat) (h : b ≤ a + 1) : SrtOn K ys a b := fun i j k1 k2 k3 => by omega
theorem SrtOn.out {ys zs : List α} {a b c d : Nat} (h : SrtOn K ys c d) (hw : Win ys zs a b) (hd : d ≤ a ∨ b ≤ c) : SrtOn K zs c d := fun i j k1 k2 k3 => by
  rw [hw.out i (by omega), hw.out j (by omega)]; exact h i j k1 k2 k3
theorem glue {ys : List α} {a c b : Nat} (h : SrtOn K ys a c) (h' : SrtOn K ys c b) (hx : ∀ i j, a ≤ i → i < c → c ≤ j → j < b → cmpZ (K (g ys i)) (K (g ys j)) ≤ 0) : SrtOn K ys a b := fun i j k1 k2 k3 => by
  by_cases c1 : j < c
  · exact h i j k1 k2 c1
  · by_cases c2 : i < c
    · exact hx i j k1 c2 (by omega) k3
    · exact h' i j (by omega) k2 k3
theorem lt_ne {p q : List Int} (h : cmpZ p q < 0) : q ≠ p := fun e => by rw [(cmp_eq p q).mpr e.symm] at h; exact absurd h (Int.lt_irrefl 0)
theorem lt_le {p q : List Int} (h : ¬ cmpZ p q < 0) : cmpZ q p ≤ 0 := by rw [cmp_neg]; omega
theorem le_lt {p q r : List Int} (h : cmpZ p q ≤ 0) (h' : cmpZ q r < 0) : cmpZ p r < 0 := by
  apply Decidable.byContradiction
  intro c
  have := cmp_trans _ _ _ (lt_le c) h
  rw [cmp_neg] at this
  omega
theorem lt_le_lt {p q r : List Int} (h : cmpZ p q < 0) (h' : cmpZ q r ≤ 0) : cmpZ p r < 0 := by
  apply Decidable.byContradiction
  intro c
  have := cmp_trans _ _ _ h' (lt_le c)
  rw [cmp_neg] at this
  omega
/-- what a merge of the places from a to b yields -/
structure Mrg (K : α → List Int) (ys zs : List α) (a b : Nat) : Prop where
  win : Win ys zs a b
  stb : Stb K ys zs
  srt : SrtOn K zs a b
theorem Mrg.id {ys : List α} {a b : Nat} (h : SrtOn K ys a b) : Mrg K ys ys a b := ⟨Win.refl _ _ _, Stb.refl _, h⟩

/-- an element goes back past those that are greater -/
theorem ins_mrg {ys zs : List α} {a i m : Nat} (h : Ix zs ys (rot i m (m + 1))) (ha : a ≤ i) (hi : i ≤ m) (hm : m < ys.length) (hs : SrtOn K ys a m)
    (h1 : ∀ k, a ≤ k → k < i → cmpZ (K (g ys k)) (K (g ys m)) ≤ 0) (h2 : ∀ k, i ≤ k → k < m → cmpZ (K (g ys m)) (K (g ys k)) < 0) : Mrg K ys zs a (m + 1) := by
  have hw := rot_win h hi (Nat.le_succ m)
  refine ⟨hw.wide ha (Nat.le_refl _), rot_stb h hi (Nat.le_succ m) hm fun x y x1 x2 y1 y2 => ?_, ?_⟩
  · obtain rfl : y = m := by omega
    exact lt_ne (h2 x x1 x2)
  · intro x y x1 x2 y1
    rw [h.g x, h.g y]
    unfold rot
    by_cases c1 : y < i
    · rw [if_neg (by omega), if_neg (by omega), if_neg (by omega), if_neg (by omega)]
      exact hs x y x1 x2 (by omega)
    · by_cases c2 : y = i
      · subst c2
        rw [if_neg (by omega), if_neg (by omega), if_pos (by omega), show y + (m - y) = m by omega]
        exact h1 x x1 (by omega)
      · rw [if_neg (c := y ≥ i ∧ _) (by omega), if_pos (c := i + (m + 1 - m) ≤ y ∧ _) (by omega), show y - (m + 1 - m) = y - 1 by omega]
        by_cases d1 : x < i
        · rw [if_neg (by omega), if_neg (by omega)]
          exact hs x (y - 1) x1 (by omega) (by omega)
        · by_cases d2 : x = i
          · subst d2
            rw [if_pos (by omega), show x + (m - x) = m by omega]
            exact Int.le_of_lt (h2 (y - 1) (by omega) (by omega))
          · rw [if_neg (by omega), if_pos (by omega), show x - (m + 1 - m) = x - 1 by omega]
            exact hs (x - 1) (y - 1) (by omega) (by omega) (by omega)
/-- an element goes forth past those that are less -/
theorem fwd_mrg {ys zs : List α} {a i b : Nat} (h : Ix zs ys (rot a (a + 1) i)) (ha : a + 1 ≤ i) (hi : i ≤ b) (hb : b ≤ ys.length) (hs : SrtOn K ys (a + 1) b)
    (h1 : ∀ k, a + 1 ≤ k → k < i → cmpZ (K (g ys k)) (K (g ys a)) < 0) (h2 : ∀ k, i ≤ k → k < b → cmpZ (K (g ys a)) (K (g ys k)) ≤ 0) : Mrg K ys zs a b := by
  have hw := rot_win h (Nat.le_succ a) ha
  refine ⟨hw.wide (Nat.le_refl _) hi, rot_stb h (Nat.le_succ a) ha (by omega) fun x y x1 x2 y1 y2 => ?_, ?_⟩
  · obtain rfl : x = a := by omega
    exact fun e => lt_ne (h1 y y1 y2) e
  · intro x y x1 x2 y1
    rw [h.g x, h.g y]
    unfold rot
    by_cases c1 : i ≤ x
    · rw [if_neg (by omega), if_neg (by omega), if_neg (by omega), if_neg (by omega)]
      exact hs x y (by omega) x2 y1
    · by_cases c2 : x = i - 1
      · subst c2
        rw [if_neg (c := a ≤ i - 1 ∧ _) (by omega), if_pos (c := a + (i - (a + 1)) ≤ i - 1 ∧ _) (by omega), if_neg (by omega), if_neg (by omega), show i - 1 - (i - (a + 1)) = a by omega]
        exact h2 y (by omega) y1
      · rw [if_pos (c := a ≤ x ∧ _) (by omega), show x + (a + 1 - a) = x + 1 by omega]
        by_cases d1 : i ≤ y
        · rw [if_neg (by omega), if_neg (by omega)]
          exact hs (x + 1) y (by omega) (by omega) (by omega)
        · by_cases d2 : y = i - 1
          · subst d2
            rw [if_neg (by omega), if_pos (by omega), show i - 1 - (i - (a + 1)) = a by omega]
            exact Int.le_of_lt (h1 (x + 1) (by omega) (by omega))
          · rw [if_pos (by omega), show y + (a + 1 - a) = y + 1 by omega]
            exact hs (x + 1) (y + 1) (by omega) (by omega) (by omega)

/-- SymMerge: what its search finds -/
structure Cut (K : α → List Int) (ys : List α) (a m b mid s : Nat) : Prop where
  as : a ≤ s
  sm : s ≤ m
  me : m ≤ mid + m - s
  eb : mid + m - s ≤ b
  le : s ≤ mid
  gt : ∀ i j, s ≤ i → i < m → m ≤ j → j < mid + m - s → cmpZ (K (g ys j)) (K (g ys i)) < 0
  ok : ∀ i j, a ≤ i → i < s → mid + m - s ≤ j → j < b → cmpZ (K (g ys i)) (K (g ys j)) ≤ 0
/-- the test at c -/
def B (K : α → List Int) (ys : List α) (p c : Nat) : Prop := cmpZ (K (g ys (p - c))) (K (g ys c)) < 0
def lo (a m b mid : Nat) : Nat := if mid < m then mid + m - b else a
def hi (m mid : Nat) : Nat := if mid < m then mid else m
theorem lo_hi {a m b mid : Nat} (ham : a < m) (hmb : m < b) (h1 : mid * 2 ≤ a + b) (h2 : a + b ≤ mid * 2 + 1) : a ≤ lo a m b mid ∧ lo a m b mid ≤ hi m mid ∧ hi m mid ≤ m ∧ hi m mid ≤ mid ∧ mid + m - b ≤ lo a m b mid := by
  unfold lo hi; split <;> omega
theorem cut_of {ys : List α} {a m b mid s : Nat} (ham : a < m) (hmb : m < b) (hm1 : mid * 2 ≤ a + b) (hm2 : a + b ≤ mid * 2 + 1) (h1 : SrtOn K ys a m) (h2 : SrtOn K ys m b) (hl : lo a m b mid ≤ s) (hh : s ≤ hi m mid)
    (hn : lo a m b mid < s → ¬ B K ys (mid + m - 1) (s - 1)) (hy : s < hi m mid → B K ys (mid + m - 1) s) : Cut K ys a m b mid s := by
  unfold lo at hl hn
  unfold hi at hh hy
  by_cases c : mid < m
  · rw [if_pos c] at hl hn hh hy
    refine ⟨by omega, by omega, by omega, by omega, by omega, fun i j i1 i2 j1 j2 => ?_, fun i j i1 i2 j1 j2 => ?_⟩
    · have hb := hy (by omega)
      unfold B at hb
      exact lt_le_lt (le_lt (h2.le j1 (show j ≤ mid + m - 1 - s by omega) (by omega)) hb) (h1.le (by omega) i1 i2)
    · have hb := hn (by omega)
      unfold B at hb
      exact cmp_trans _ _ _ (cmp_trans _ _ _ (h1.le i1 (show i ≤ s - 1 by omega) (by omega)) (lt_le hb)) (h2.le (by omega) (by omega) j2)
  · rw [if_neg c] at hl hn hh hy
    refine ⟨by omega, by omega, by omega, by omega, by omega, fun i j i1 i2 j1 j2 => ?_, fun i j i1 i2 j1 j2 => ?_⟩
    · have hb := hy (by omega)
      unfold B at hb
      exact lt_le_lt (le_lt (h2.le j1 (show j ≤ mid + m - 1 - s by omega) (by omega)) hb) (h1.le (by omega) i1 i2)
    · have hb := hn (by omega)
      unfold B at hb
      exact cmp_trans _ _ _ (cmp_trans _ _ _ (h1.le i1 (show i ≤ s - 1 by omega) (by omega)) (lt_le hb)) (h2.le (by omega) (by omega) j2)
/-- the test holds from some place on -/
theorem b_mono {ys : List α} {a m b mid c d : Nat} (ham : a < m) (hmb : m < b) (hm1 : mid * 2 ≤ a + b) (hm2 : a + b ≤ mid * 2 + 1) (h1 : SrtOn K ys a m) (h2 : SrtOn K ys m b) (hl : lo a m b mid ≤ c) (hcd : c ≤ d) (hh : d < hi m mid)
    (h : B K ys (mid + m - 1) c) : B K ys (mid + m - 1) d := by
  unfold lo at hl
  unfold hi at hh
  unfold B at h ⊢
  by_cases e : mid < m
  · rw [if_pos e] at hl hh
    exact lt_le_lt (le_lt (h2.le (show m ≤ mid + m - 1 - d by omega) (show mid + m - 1 - d ≤ mid + m - 1 - c by omega) (by omega)) h) (h1.le (by omega) hcd (by omega))
  · rw [if_neg e] at hl hh
    exact lt_le_lt (le_lt (h2.le (show m ≤ mid + m - 1 - d by omega) (show mid + m - 1 - d ≤ mid + m - 1 - c by omega) (by omega)) h) (h1.le (by omega) hcd (by omega))

/-- SymMerge: behind the rotation -/
structure Mid (K : α → List Int) (ys zs : List α) (a m b mid s : Nat) : Prop where
  win : Win ys zs a b
  stb : Stb K ys zs
  s1 : SrtOn K zs a s
  s2 : SrtOn K zs s mid
  s3 : SrtOn K zs mid (mid + m - s)
  s4 : SrtOn K zs (mid + m - s) b
  x : ∀ i j, a ≤ i → i < mid → mid ≤ j → j < b → cmpZ (K (g zs i)) (K (g zs j)) ≤ 0
theorem mid_of {ys zs : List α} {a m b mid s : Nat} (hb : b ≤ ys.length) (h1 : SrtOn K ys a m) (h2 : SrtOn K ys m b) (c : Cut K ys a m b mid s)
    (h : Ix zs ys (rot s m (mid + m - s))) : Mid K ys zs a m b mid s := by
  obtain ⟨c1, c2, c3, c4, c5, c6, c7⟩ := c
  have hw := rot_win h c2 c3
  refine ⟨hw.wide c1 c4, rot_stb h c2 c3 (by omega) fun i j i1 i2 j1 j2 => lt_ne (c6 i j i1 i2 j1 j2), ?_, ?_, ?_, ?_, ?_⟩
  · exact (h1.sub (Nat.le_refl _) c2).out hw (.inl (Nat.le_refl _))
  · intro i j i1 i2 i3
    rw [h.g, h.g]
    unfold rot
    rw [if_pos (by omega), if_pos (by omega)]
    exact h2 _ _ (by omega) (by omega) (by omega)
  · intro i j i1 i2 i3
    rw [h.g, h.g]
    unfold rot
    rw [if_neg (by omega), if_pos (by omega), if_neg (by omega), if_pos (by omega)]
    exact h1 _ _ (by omega) (by omega) (by omega)
  · exact (h2.sub (by omega) (Nat.le_refl _)).out hw (.inr (Nat.le_refl _))
  · intro i j i1 i2 j1 j2
    rw [h.g, h.g]
    unfold rot
    by_cases d1 : i < s
    · rw [if_neg (c := s ≤ i ∧ _) (by omega), if_neg (c := s + (mid + m - s - m) ≤ i ∧ _) (by omega), if_neg (by omega)]
      by_cases d2 : j < mid + m - s
      · rw [if_pos (by omega)]; exact h1.le i1 (by omega) (by omega)
      · rw [if_neg (by omega)]; exact c7 i j i1 d1 (by omega) j2
    · rw [if_pos (c := s ≤ i ∧ _) (by omega), if_neg (by omega)]
      by_cases d2 : j < mid + m - s
      · rw [if_pos (by omega)]; exact Int.le_of_lt (c6 _ _ (by omega) (by omega) (by omega) (by omega))
      · rw [if_neg (by omega)]; exact h2.le (by omega) (by omega) j2
theorem mid_fin {ys zs xs us : List α} {a m b mid s : Nat} (h : Mid K ys zs a m b mid s) (ha : a ≤ mid) (hb : mid ≤ b) (h1 : Mrg K zs xs a mid) (h2 : Mrg K xs us mid b) : Mrg K ys us a b := by
  refine ⟨h.win.trans ((h1.win.wide (Nat.le_refl _) hb).trans (h2.win.wide ha (Nat.le_refl _))), h.stb.trans (h1.stb.trans h2.stb), glue (h1.srt.out h2.win (.inl (Nat.le_refl _))) h2.srt fun i j i1 i2 j1 j2 => ?_⟩
  obtain ⟨j', k1, k2, e⟩ := h2.win.inn j j1 j2
  rw [e, h1.win.out j' (.inr k1), h2.win.out i (.inl i2)]
  obtain ⟨i', l1, l2, e'⟩ := h1.win.inn i i1 i2
  rw [e']
  exact h.x i' j' l1 l2 k1 k2
/-- the places that a swap of blocks reads -/
def swr (a b n k : Nat) : Nat := if a ≤ k ∧ k < a + n then k - a + b else if b ≤ k ∧ k < b + n then k - b + a else k
theorem swr_zero (a b k : Nat) : swr a b 0 k = k := by unfold swr; rw [if_neg (by omega), if_neg (by omega)]
theorem swr_step {a b n : Nat} (h : a + n < b) (k : Nat) : swr a b n (swp (a + n) (b + n) k) = swr a b (n + 1) k := by
  unfold swr swp
  by_cases c1 : k = a + n
  · rw [if_pos c1, if_neg (by omega), if_neg (by omega), if_pos (by omega)]; omega
  · rw [if_neg c1]
    by_cases c2 : k = b + n
    · rw [if_pos c2, if_neg (by omega), if_neg (by omega), if_neg (by omega), if_pos (by omega)]; omega
    · rw [if_neg c2]
      by_cases c3 : a ≤ k ∧ k < a + n
      · rw [if_pos c3, if_pos (by omega)]
      · rw [if_neg c3, if_neg (c := a ≤ k ∧ k < a + (n + 1)) (by omega)]
        by_cases c4 : b ≤ k ∧ k < b + n
        · rw [if_pos c4, if_pos (by omega)]
        · rw [if_neg c4, if_neg (by omega)]
theorem rot_cases (a m b k : Nat) : (a ≤ k ∧ k < a + (b - m) ∧ rot a m b k = k + (m - a)) ∨ (a + (b - m) ≤ k ∧ k < b ∧ rot a m b k = k - (b - m)) ∨ ((k < a ∨ b ≤ k ∧ a + (b - m) ≤ k) ∧ rot a m b k = k) := by
  unfold rot
  by_cases c : a ≤ k ∧ k < a + (b - m)
  · rw [if_pos c]; omega
  · rw [if_neg c]
    by_cases d : a + (b - m) ≤ k ∧ k < b
    · rw [if_pos d]; omega
    · rw [if_neg d]; omega
theorem swr_cases (a b n k : Nat) : (a ≤ k ∧ k < a + n ∧ swr a b n k = k - a + b) ∨ (b ≤ k ∧ k < b + n ∧ (k < a ∨ a + n ≤ k) ∧ swr a b n k = k - b + a) ∨ ((k < a ∨ a + n ≤ k) ∧ (k < b ∨ b + n ≤ k) ∧ swr a b n k = k) := by
  unfold swr
  by_cases c : a ≤ k ∧ k < a + n
  · rw [if_pos c]; omega
  · rw [if_neg c]
    by_cases d : b ≤ k ∧ k < b + n
    · rw [if_pos d]; omega
    · rw [if_neg d]; omega
theorem swp_cases (i j k : Nat) : (k = i ∧ swp i j k = j) ∨ (k ≠ i ∧ k = j ∧ swp i j k = i) ∨ (k ≠ i ∧ k ≠ j ∧ swp i j k = k) := by
  unfold swp
  by_cases c : k = i
  · rw [if_pos c]; omega
  · rw [if_neg c]
    by_cases d : k = j
    · rw [if_pos d]; omega
    · rw [if_neg d]; omega
/-- the longer block goes on -/
theorem rot_left {m i j : Nat} (hi : i ≤ m) (hij : j < i) (k : Nat) : swr (m - i) m j (rot (m - (i - j)) m (m + j) k) = rot (m - i) m (m + j) k := by
  have h1 := rot_cases (m - (i - j)) m (m + j) k
  have h2 := rot_cases (m - i) m (m + j) k
  have h3 := swr_cases (m - i) m j (rot (m - (i - j)) m (m + j) k)
  omega
theorem rot_right {m i j : Nat} (hi : i ≤ m) (hij : i < j) (k : Nat) : swr (m - i) (m + j - i) i (rot (m - i) m (m + (j - i)) k) = rot (m - i) m (m + j) k := by
  have h1 := rot_cases (m - i) m (m + (j - i)) k
  have h2 := rot_cases (m - i) m (m + j) k
  have h3 := swr_cases (m - i) (m + j - i) i (rot (m - i) m (m + (j - i)) k)
  omega
theorem rot_even {m i : Nat} (hi : i ≤ m) (k : Nat) : swr (m - i) m i k = rot (m - i) m (m + i) k := by
  have h2 := rot_cases (m - i) m (m + i) k
  have h3 := swr_cases (m - i) m i k
  omega
/-- one step of an element's way back, and forth -/
theorem rot_back {j i : Nat} (h : j ≤ i) (hj : 0 < j) (k : Nat) : rot j i (i + 1) (swp j (j - 1) k) = rot (j - 1) i (i + 1) k := by
  have h1 := swp_cases j (j - 1) k
  have h2 := rot_cases j i (i + 1) (swp j (j - 1) k)
  have h3 := rot_cases (j - 1) i (i + 1) k
  omega
theorem rot_forth {a j : Nat} (h : a ≤ j) (k : Nat) : rot a (a + 1) (j + 1) (swp j (j + 1) k) = rot a (a + 1) (j + 2) k := by
  have h1 := swp_cases j (j + 1) k
  have h2 := rot_cases a (a + 1) (j + 1) (swp j (j + 1) k)
  have h3 := rot_cases a (a + 1) (j + 2) k
  omega
end
end Stab
end Go.Proofs.YtinmkgpmoclcoaaDoor
