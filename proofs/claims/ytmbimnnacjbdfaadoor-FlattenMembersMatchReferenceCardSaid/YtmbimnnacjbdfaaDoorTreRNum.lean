/-
  Layer 13: plain mathematics: the reference's class numbers, as a row that is filled class by class. No memory.
-/
import Derived.Test.YtmbimnnacjbdfaaDoorTreCanM
namespace Go.Proofs.YtmbimnnacjbdfaaDoor.Tre

/-- the reference's classes before place i -/
def clR (S : List Int) (i : Nat) : List Int := S.map fun c => if c ∈ clsU S i then num S c else 0
theorem clR_len (S : List Int) (i : Nat) : (clR S i).length = S.length := by unfold clR; rw [List.length_map]
theorem clR_get (S : List Int) (i : Nat) {k : Nat} (h : k < S.length) : (clR S i)[k]? = some (if S[k] ∈ clsU S i then num S S[k] else 0) := by
  unfold clR; rw [List.getElem?_map, List.getElem?_eq_getElem h]; rfl
theorem clR_zero (S : List Int) : clR S 0 = List.replicate S.length 0 := by
  unfold clR
  rw [show clsU S 0 = [] from rfl]
  simp only [List.not_mem_nil, if_false]
  exact List.map_const' ..
theorem clR_end (S : List Int) : clR S S.length = S.map (num S) := by
  unfold clR
  refine List.map_congr_left fun c _ => ?_
  rw [clsU_end]
  by_cases h : c ∈ cls S
  · rw [if_pos h]
  · rw [if_neg h]; unfold num; rw [if_neg (fun h' => h (cls_mem.mpr h'))]
theorem clR_stay {S : List Int} {i : Nat} (hi : i < S.length) (h : ¬ Many S S[i] ∨ S[i] ∈ clsU S i) : clR S (i + 1) = clR S i ∧ clsU S (i + 1) = clsU S i := by
  have e : clsU S (i + 1) = clsU S i := by
    rw [clsU_step hi, if_neg]
    rintro ⟨h1, h2⟩
    exact h.elim (fun h => h h1) h2
  exact ⟨by unfold clR; rw [e], e⟩
/-- a class that is met is numbered, a class that is not is zero -/
theorem clR_nz {S : List Int} {i k : Nat} (hi : i ≤ S.length) (hk : k < S.length) : (if S[k] ∈ clsU S i then num S S[k] else 0) ≠ 0 ↔ S[k] ∈ clsU S i := by
  by_cases h : S[k] ∈ clsU S i
  · rw [if_pos h, num_at hi h]
    exact ⟨fun _ => h, fun _ => by omega⟩
  · rw [if_neg h]
    exact ⟨fun h' => absurd rfl h', fun h' => absurd h' h⟩
/-- the row while class i is filled in, before place K -/
def clP (S : List Int) (i : Nat) (v : Int) : Nat → List Int
  | 0 => clR S i
  | K + 1 => if S[K]? = S[i]? then (clP S i v K).set K v else clP S i v K
theorem clP_len (S : List Int) (i : Nat) (v : Int) : ∀ K, (clP S i v K).length = S.length
  | 0 => clR_len S i
  | K + 1 => by
    unfold clP
    split
    · rw [List.length_set, clP_len S i v K]
    · exact clP_len S i v K
theorem clP_get (S : List Int) (i : Nat) (v : Int) {k : Nat} (hk : k < S.length) : ∀ K, (clP S i v K)[k]? = if k < K ∧ S[k]? = S[i]? then some v else (clR S i)[k]?
  | 0 => by rw [if_neg (by omega)]; rfl
  | K + 1 => by
    have ih := clP_get S i v hk K
    unfold clP
    by_cases e : S[K]? = S[i]?
    · rw [if_pos e]
      by_cases ek : k = K
      · subst ek
        rw [List.getElem?_set_self (by rw [clP_len]; exact hk), if_pos ⟨by omega, e⟩]
      · rw [List.getElem?_set_ne (fun h => ek h.symm), ih]
        by_cases c : k < K ∧ S[k]? = S[i]?
        · rw [if_pos c, if_pos ⟨by omega, c.2⟩]
        · rw [if_neg c, if_neg (fun h => c ⟨by omega, h.2⟩)]
    · rw [if_neg e, ih]
      by_cases c : k < K ∧ S[k]? = S[i]?
      · rw [if_pos c, if_pos ⟨by omega, c.2⟩]
      · rw [if_neg c, if_neg (fun h => by
          by_cases ek : k = K
          · subst ek; exact e h.2
          · exact c ⟨by omega, h.2⟩)]
theorem clP_end {S : List Int} {i : Nat} (hi : i < S.length) (hm : Many S S[i]) (hn : S[i] ∉ clsU S i) : clP S i (((clsU S i).length : Int) + 1) S.length = clR S (i + 1) ∧ (clsU S (i + 1)).length = (clsU S i).length + 1 := by
  have e : clsU S (i + 1) = clsU S i ++ [S[i]] := by rw [clsU_step hi, if_pos ⟨hm, hn⟩]
  refine ⟨List.ext_getElem? fun k => ?_, by rw [e]; simp⟩
  by_cases hk : k < S.length
  · rw [clP_get S i _ hk, clR_get S (i + 1) hk, clR_get S i hk, e, List.getElem?_eq_getElem hk, List.getElem?_eq_getElem hi]
    by_cases c : S[k] = S[i]
    · rw [if_pos ⟨hk, by rw [c]⟩, c, if_pos (by simp), num_new hi hm hn]
    · rw [if_neg (fun h => c (Option.some.inj h.2))]
      by_cases h1 : S[k] ∈ clsU S i
      · rw [if_pos h1, if_pos (by simp [h1])]
      · rw [if_neg h1, if_neg (by simp [h1, c])]
  · rw [List.getElem?_eq_none (by rw [clP_len]; omega), List.getElem?_eq_none (by rw [clR_len]; omega)]
/-- how many of the first K have the class of place i -/
theorem cnt_next {S : List Int} {K : Nat} (hK : K < S.length) (c : Int) : (S.take (K + 1)).count c = if S[K] = c then (S.take K).count c + 1 else (S.take K).count c := by
  rw [List.take_add_one, List.getElem?_eq_getElem hK]
  simp only [Option.toList_some, List.count_append, List.count_singleton]
  by_cases e : S[K] = c
  · simp [e]
  · simp [e]
end Go.Proofs.YtmbimnnacjbdfaaDoor.Tre
