/-
  Layer 9: plain mathematics of decimal numerals and of a record's length.
-/
import Derived.Test.YtokjmehecfjhmaaDoorGen
import Derived.Lib.ItoaNum
namespace Go.Proofs.YtokjmehecfjhmaaDoor.Pxr
open Go.Lib

/-! decimal numerals, as bytes -/
def decD (n : Nat) : List Int := (decDigits n).map fun b => (b.toNat : Int)
def digB (z : Int) : Bool := decide (48 ≤ z) && decide (z ≤ 57)
def decV (zs : List Int) : Nat := zs.foldl (fun n z => 10 * n + (z - 48).toNat) 0
def decOk (zs : List Int) : Bool := !zs.isEmpty && zs.all digB && (decide (zs.getD 0 0 ≠ 48) || decide (zs.length = 1))

theorem snoc_ind {P : List Int → Prop} (nil : P []) (append_singleton : ∀ ys z, P ys → P (ys ++ [z])) (zs : List Int) : P zs := by
  rw [← List.reverse_reverse zs]
  generalize zs.reverse = l
  induction l with
  | nil => exact nil
  | cons a l ih => rw [List.reverse_cons]; exact append_singleton _ _ ih

theorem digB_iff (z : Int) : digB z = true ↔ 48 ≤ z ∧ z ≤ 57 := by unfold digB; simp
theorem ofNat_digit {n : Nat} (h : n < 10) : ((UInt8.ofNat (48 + n)).toNat : Int) = 48 + (n : Int) := by
  rw [UInt8.toNat_ofNat']; omega
theorem decD_small {n : Nat} (h : n < 10) : decD n = [48 + (n : Int)] := by
  unfold decD; rw [decDigits, dif_pos h, List.map_cons, List.map_nil, ofNat_digit h]
theorem decD_big {n : Nat} (h : ¬ n < 10) : decD n = decD (n / 10) ++ [48 + ((n % 10 : Nat) : Int)] := by
  unfold decD; rw [decDigits, dif_neg h, List.map_append, List.map_cons, List.map_nil, ofNat_digit (Nat.mod_lt _ (by decide))]
theorem decD_len (n : Nat) : (decD n).length = nDigits n := by unfold decD; rw [List.length_map, decDigits_length]
theorem decD_ne (n : Nat) : decD n ≠ [] := fun h => by
  have := decD_len n; rw [h] at this; have := nDigits_pos n; simp at *; omega
theorem decV_snoc (zs : List Int) (z : Int) : decV (zs ++ [z]) = 10 * decV zs + (z - 48).toNat := by unfold decV; rw [List.foldl_append]; rfl
theorem decV_nil : decV [] = 0 := rfl
theorem decV_decD (n : Nat) : decV (decD n) = n := by
  induction n using Nat.strongRecOn with
  | _ n ih =>
    by_cases h : n < 10
    · rw [decD_small h]; show 10 * 0 + (48 + (n : Int) - 48).toNat = n; omega
    · rw [decD_big h, decV_snoc, ih (n / 10) (by omega)]; omega
theorem decD_digs (n : Nat) : (decD n).all digB = true := by
  induction n using Nat.strongRecOn with
  | _ n ih =>
    by_cases h : n < 10
    · rw [decD_small h, List.all_cons, List.all_nil, Bool.and_true, digB_iff]; omega
    · rw [decD_big h, List.all_append, ih (n / 10) (by omega), Bool.true_and, List.all_cons, List.all_nil, Bool.and_true, digB_iff]; omega
theorem decD_head (n : Nat) (h1 : 1 ≤ n) : (decD n).getD 0 0 ≠ 48 := by
  induction n using Nat.strongRecOn with
  | _ n ih =>
    by_cases h : n < 10
    · rw [decD_small h]; show (48 + (n : Int)) ≠ 48; omega
    · have hne := decD_ne (n / 10)
      have := ih (n / 10) (by omega) (by omega)
      rw [decD_big h]
      cases hc : decD (n / 10) with
      | nil => exact absurd hc hne
      | cons a l => rw [hc] at this; exact this
theorem decD_ok (n : Nat) : decOk (decD n) = true := by
  unfold decOk
  rw [decD_digs, Bool.and_true]
  have hne := decD_ne n
  have : (decD n).isEmpty = false := by cases hc : decD n with
    | nil => exact absurd hc hne
    | cons _ _ => rfl
  rw [this, Bool.not_false, Bool.true_and]
  by_cases h : n < 10
  · rw [decD_small h]; simp
  · rw [decide_eq_true (decD_head n (by omega))]; rfl
theorem decV_pos : ∀ (zs : List Int), zs.all digB = true → zs ≠ [] → zs.getD 0 0 ≠ 48 → 1 ≤ decV zs := by
  intro zs
  induction zs using snoc_ind with
  | nil => intro _ h; exact absurd rfl h
  | append_singleton ys z ih =>
    intro ha _ hh
    rw [decV_snoc]
    rw [List.all_append, Bool.and_eq_true] at ha
    rcases List.eq_nil_or_concat ys with rfl | ⟨_, _, hy⟩
    · have h1 := ha.2
      rw [List.all_cons, List.all_nil, Bool.and_true, digB_iff] at h1
      change z ≠ 48 at hh
      omega
    · have hne : ys ≠ [] := by rw [hy]; simp
      have := ih ha.1 hne (by
        cases ys with
        | nil => exact absurd rfl hne
        | cons a l => exact hh)
      omega
theorem decD_decV : ∀ (zs : List Int), decOk zs = true → decD (decV zs) = zs := by
  intro zs
  induction zs using snoc_ind with
  | nil => intro h; exact absurd h (by decide)
  | append_singleton ys z ih =>
    intro h
    unfold decOk at h
    rw [Bool.and_eq_true, Bool.and_eq_true] at h
    obtain ⟨⟨_, ha⟩, hh⟩ := h
    rw [List.all_append, Bool.and_eq_true] at ha
    have h1 := ha.2
    rw [List.all_cons, List.all_nil, Bool.and_true, digB_iff] at h1
    rw [decV_snoc]
    rcases List.eq_nil_or_concat ys with rfl | ⟨_, _, hy⟩
    · rw [decV_nil, decD_small (by omega)]
      show [_] = [z]
      congr 1
      omega
    · have hne : ys ≠ [] := by rw [hy]; simp
      have hl : ys.length ≠ 0 := fun h => hne (List.length_eq_zero_iff.1 h)
      have hd : ys.getD 0 0 ≠ 48 := by
        rw [Bool.or_eq_true, decide_eq_true_eq, decide_eq_true_eq, List.length_append, List.length_singleton] at hh
        rcases hh with hh | hh
        · cases ys with
          | nil => exact absurd rfl hne
          | cons a l => exact hh
        · omega
      have hp := decV_pos ys ha.1 hne hd
      have hok : decOk ys = true := by
        unfold decOk
        rw [ha.1, decide_eq_true hd]
        cases ys with
        | nil => exact absurd rfl hne
        | cons a l => rfl
      have e := ih hok
      rw [decD_big (by omega)]
      rw [show (10 * decV ys + (z - 48).toNat) / 10 = decV ys by omega, e]
      congr 2
      omega
theorem decV_mono (xs ys : List Int) : decV xs ≤ decV (xs ++ ys) := by
  induction ys using snoc_ind with
  | nil => rw [List.append_nil]; exact Nat.le_refl _
  | append_singleton ys z ih => rw [← List.append_assoc, decV_snoc]; omega
theorem decV_take_le (zs : List Int) (k : Nat) : decV (zs.take k) ≤ decV zs := by
  have := decV_mono (zs.take k) (zs.drop k); rwa [List.take_append_drop] at this
theorem decV_take_succ (zs : List Int) (k : Nat) (h : k < zs.length) : decV (zs.take (k + 1)) = 10 * decV (zs.take k) + (zs.getD k 0 - 48).toNat := by
  rw [List.take_succ_eq_append_getElem h, decV_snoc, List.getD_eq_getElem?_getD, List.getElem?_eq_getElem h]; rfl
theorem decOk_iff (zs : List Int) : decOk zs = true ↔ zs ≠ [] ∧ (∀ k, k < zs.length → 48 ≤ zs.getD k 0 ∧ zs.getD k 0 ≤ 57) ∧ (zs.getD 0 0 = 48 → zs.length = 1) := by
  unfold decOk
  rw [Bool.and_eq_true, Bool.and_eq_true, Bool.or_eq_true, decide_eq_true_eq, decide_eq_true_eq]
  constructor
  · rintro ⟨⟨h1, h2⟩, h3⟩
    refine ⟨fun e => (by rw [e] at h1; cases h1), fun k hk => ?_, fun e => h3.resolve_left (fun h => h e)⟩
    rw [List.all_eq_true] at h2
    have := h2 _ (List.getElem_mem hk)
    rw [digB_iff] at this
    rw [List.getD_eq_getElem?_getD, List.getElem?_eq_getElem hk]; exact this
  · rintro ⟨h1, h2, h3⟩
    refine ⟨⟨?_, ?_⟩, ?_⟩
    · cases zs with
      | nil => exact absurd rfl h1
      | cons _ _ => rfl
    · rw [List.all_eq_true]
      intro z hz
      obtain ⟨k, hk, rfl⟩ := List.getElem_of_mem hz
      have := h2 k hk
      rw [List.getD_eq_getElem?_getD, List.getElem?_eq_getElem hk] at this
      exact (digB_iff _).2 this
    · by_cases e : zs.getD 0 0 = 48
      · exact .inr (h3 e)
      · exact .inl e

/-! the number of digits -/
theorem nDigits_mono {a b : Nat} (h : a ≤ b) : nDigits a ≤ nDigits b := by
  induction b using Nat.strongRecOn generalizing a with
  | _ b ih =>
    by_cases hb : b < 10
    · rw [nDigits_small hb, nDigits_small (by omega)]; exact Nat.le_refl _
    · rw [nDigits_big hb]
      by_cases ha : a < 10
      · rw [nDigits_small ha]; omega
      · rw [nDigits_big ha]
        have := ih (b / 10) (by omega) (show a / 10 ≤ b / 10 by omega)
        omega
theorem nDigits_le : ∀ (k n : Nat), n < 10 ^ (k + 1) → nDigits n ≤ k + 1
  | 0, n, h => by rw [nDigits_small (by simpa using h)]; exact Nat.le_refl _
  | k + 1, n, h => by
    by_cases hn : n < 10
    · rw [nDigits_small hn]; omega
    · rw [nDigits_big hn]
      rw [Nat.pow_succ] at h
      have := nDigits_le k (n / 10) (by omega)
      omega

/-! the length of a record: 'rest' bytes besides the length itself -/
def szF : Nat → Nat → Nat → Nat
  | 0, D, _ => D
  | f + 1, D, rest => if nDigits (D + rest) ≤ D then D else szF f (D + 1) rest
def szD (rest : Nat) : Nat := szF 7 1 rest
def szN (rest : Nat) : Nat := szD rest + rest

theorem szF_spec (rest : Nat) : ∀ (f D : Nat), 1 ≤ D → nDigits (D + f + rest) ≤ D + f → (∀ d, 1 ≤ d → d < D → ¬ nDigits (d + rest) ≤ d) →
    D ≤ szF f D rest ∧ szF f D rest ≤ D + f ∧ nDigits (szF f D rest + rest) ≤ szF f D rest ∧ ∀ d, 1 ≤ d → d < szF f D rest → ¬ nDigits (d + rest) ≤ d
  | 0, D, h1, h2, h3 => ⟨Nat.le_refl _, Nat.le_refl _, h2, h3⟩
  | f + 1, D, h1, h2, h3 => by
    unfold szF
    by_cases h : nDigits (D + rest) ≤ D
    · rw [if_pos h]; exact ⟨Nat.le_refl _, by omega, h, h3⟩
    · rw [if_neg h]
      obtain ⟨a, b, c, d⟩ := szF_spec rest f (D + 1) (by omega) (by rw [show D + 1 + f = D + (f + 1) by omega]; exact h2) (fun d hd1 hd2 => by
        by_cases e : d = D
        · rw [e]; exact h
        · exact h3 d hd1 (by omega))
      exact ⟨by omega, by omega, c, d⟩

theorem szD_spec {rest : Nat} (hr : rest ≤ 1000000) : 1 ≤ szD rest ∧ szD rest ≤ 8 ∧ nDigits (szD rest + rest) = szD rest ∧ ∀ d, 1 ≤ d → d < szD rest → d < nDigits (d + rest) := by
  have h8 : nDigits (1 + 7 + rest) ≤ 1 + 7 := nDigits_le 7 _ (by
    have : (10 : Nat) ^ (7 + 1) = 100000000 := by decide
    omega)
  obtain ⟨a, b, c, d⟩ := szF_spec rest 7 1 (Nat.le_refl _) h8 (fun d h1 h2 => by omega)
  refine ⟨a, b, ?_, fun d' h1 h2 => by have := d d' h1 h2; omega⟩
  change nDigits (szD rest + rest) ≤ szD rest at c
  change 1 ≤ szD rest at a
  by_cases e : szD rest = 1
  · rw [e] at c ⊢; have := nDigits_pos (1 + rest); omega
  · have := d (szD rest - 1) (by omega) (by show szD rest - 1 < szD rest; omega)
    have m := nDigits_mono (show szD rest - 1 + rest ≤ szD rest + rest by omega)
    omega
theorem szN_fix {rest : Nat} (hr : rest ≤ 1000000) : nDigits (szN rest) + rest = szN rest := by
  have := (szD_spec hr).2.2.1; unfold szN; omega
theorem szN_bd {rest : Nat} (hr : rest ≤ 1000000) : rest + 1 ≤ szN rest ∧ szN rest ≤ rest + 8 := by
  have := szD_spec hr; unfold szN; omega
theorem szN_least {rest m : Nat} (hr : rest ≤ 1000000) (h : nDigits m + rest = m) : szN rest ≤ m := by
  obtain ⟨_, _, _, h4⟩ := szD_spec hr
  unfold szN
  by_cases c : szD rest + rest ≤ m
  · exact c
  · have h1 : m - rest = nDigits m := by omega
    have h2 := nDigits_pos m
    have := h4 (m - rest) (by omega) (by omega)
    rw [show m - rest + rest = m by omega] at this
    omega
theorem szN_uniq {rest n : Nat} (hr : rest ≤ 1000000) (h : nDigits n + rest = n) (hl : ∀ m, m < n → nDigits m + rest ≠ m) : n = szN rest := by
  have h1 := szN_least hr h
  by_cases e : szN rest = n
  · exact e.symm
  · exact absurd (szN_fix hr) (hl _ (by omega))
/-- the steps of the program's loop -/
theorem szF_stop {f D rest : Nat} (h : nDigits (D + rest) ≤ D) : szF f D rest = D := by
  cases f with
  | zero => rfl
  | succ f => unfold szF; rw [if_pos h]
theorem szF_go {f D rest : Nat} (h : ¬ nDigits (D + rest) ≤ D) : szF (f + 1) D rest = szF f (D + 1) rest := by
  conv => lhs; unfold szF
  rw [if_neg h]
end Go.Proofs.YtokjmehecfjhmaaDoor.Pxr
