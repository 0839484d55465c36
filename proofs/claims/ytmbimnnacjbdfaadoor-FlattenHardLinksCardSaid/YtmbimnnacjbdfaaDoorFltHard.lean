/-
  Layer 14: plain mathematics: how many members are links, how many bytes are stored. No memory.
-/
import Derived.Test.YtmbimnnacjbdfaaDoorFltMath
namespace Go.Proofs.YtmbimnnacjbdfaaDoor.Flt
open Go.RowKit Go.Proofs.YtmbimnnacjbdfaaDoor.Fit Pnm Tre

/-- the classes of a list, each once -/
def pz (t : List Int) : List Int := t.filter fun c => decide (0 < c)
def dp (t : List Int) : List Int := dd [] (pz t)
theorem pz_snoc (t : List Int) (c : Int) : pz (t ++ [c]) = if 0 < c then pz t ++ [c] else pz t := by
  unfold pz
  rw [List.filter_append]
  by_cases h : 0 < c
  · rw [if_pos h]; simp [h]
  · rw [if_neg h]; simp [h]
theorem dp_mem {t : List Int} {x : Int} : x ∈ dp t ↔ 0 < x ∧ x ∈ t := by
  unfold dp
  rw [dd_mem]
  unfold pz
  simp [and_comm]
theorem dp_snoc (t : List Int) (c : Int) : dp (t ++ [c]) = if 0 < c ∧ c ∉ t then dp t ++ [c] else dp t := by
  unfold dp
  rw [pz_snoc]
  by_cases h : 0 < c
  · rw [if_pos h, dd_snoc]
    by_cases h' : c ∈ t
    · rw [if_pos (show c ∈ dd [] (pz t) from dp_mem.mpr ⟨h, h'⟩), if_neg (fun e => e.2 h')]
    · rw [if_neg (show ¬ c ∈ dd [] (pz t) from fun e => h' (dp_mem.mp e).2), if_pos ⟨h, h'⟩]
  · rw [if_neg h, if_neg (fun e => h e.1)]
theorem dd_count (x : Int) : ∀ (t s : List Int), (dd s t).count x = if x ∈ s then s.count x else if x ∈ t then 1 else 0
  | [], s => by
    unfold dd
    split
    · rfl
    · rename_i h; simpa using List.count_eq_zero_of_not_mem h
  | c :: t, s => by
    unfold dd
    rw [dd_count x t]
    by_cases hc : c ∈ s
    · rw [if_pos hc]
      by_cases hx : x ∈ s
      · rw [if_pos hx, if_pos hx]
      · have : x ≠ c := fun e => hx (e ▸ hc)
        rw [if_neg hx, if_neg hx]
        simp [this]
    · rw [if_neg hc]
      by_cases hx : x ∈ s
      · have : x ≠ c := fun e => hc (e ▸ hx)
        rw [if_pos hx, if_pos (by simp [hx]), List.count_append, List.count_singleton]
        simp; omega
      · rw [if_neg hx]
        by_cases e : x = c
        · subst e
          rw [if_pos (by simp), List.count_append, List.count_eq_zero_of_not_mem hx]
          simp
        · rw [if_neg (by simp [hx, e])]
          simp [e]
theorem dp_perm {a b : List Int} (h : a.Perm b) : (dp a).Perm (dp b) := by
  refine List.perm_iff_count.mpr fun x => ?_
  have : x ∈ pz a ↔ x ∈ pz b := (h.filter _).mem_iff
  unfold dp
  rw [dd_count, dd_count]
  simp [this]
theorem cs_take (L : List Nd) (j : Nat) : (cs L).take j = cs (L.take j) := by unfold cs; rw [List.map_take]
theorem cs_take_step {L : List Nd} {j : Nat} (h : j < L.length) : (cs L).take (j + 1) = (cs L).take j ++ [(nd L j).c] := by
  rw [List.take_add_one, cs_get h]; rfl

/-- an earlier node is of the same class -/
def Again (L : List Nd) (i : Nat) : Prop := 0 < (nd L i).c ∧ (nd L i).c ∈ (cs L).take i
open Classical in
/-- the bytes of the first n nodes, each class once -/
noncomputable def byN (L : List Nd) : Nat → Nat
  | 0 => 0
  | j + 1 => byN L j + if Again L j then 0 else (nd L j).d.length
def lkN (M : List Mb) (j : Nat) : Nat := ((M.take j).filter fun x => decide (x.e.k = 3)).length
def stN (M : List Mb) (j : Nat) : Nat := ((M.take j).map fun x => x.d.length).sum
def flN (L : List Nd) (j : Nat) : Nat := ((L.take j).filter fun x => decide (x.k = 1)).length
def alN (L : List Nd) (j : Nat) : Nat := ((L.take j).filter fun x => decide (x.k = 1 ∧ x.c = 0)).length
theorem lk_step {M : List Mb} {j : Nat} {x : Mb} (h : M[j]? = some x) : lkN M (j + 1) = if x.e.k = 3 then lkN M j + 1 else lkN M j := by
  unfold lkN
  rw [List.take_add_one, h, List.filter_append]
  by_cases e : x.e.k = 3
  · rw [if_pos e]; simp [e]
  · rw [if_neg e]; simp [e]
theorem st_step {M : List Mb} {j : Nat} {x : Mb} (h : M[j]? = some x) : stN M (j + 1) = stN M j + x.d.length := by
  unfold stN
  rw [List.take_add_one, h]; simp
theorem fl_step {L : List Nd} {j : Nat} (h : j < L.length) : flN L (j + 1) = if (nd L j).k = 1 then flN L j + 1 else flN L j := by
  unfold flN
  rw [List.take_add_one, List.getElem?_eq_getElem h, List.filter_append, ← nd_get h]
  by_cases e : (nd L j).k = 1
  · rw [if_pos e]; simp [e]
  · rw [if_neg e]; simp [e]
theorem al_step {L : List Nd} {j : Nat} (h : j < L.length) : alN L (j + 1) = if (nd L j).k = 1 ∧ (nd L j).c = 0 then alN L j + 1 else alN L j := by
  unfold alN
  rw [List.take_add_one, List.getElem?_eq_getElem h, List.filter_append, ← nd_get h]
  by_cases e : (nd L j).k = 1 ∧ (nd L j).c = 0
  · rw [if_pos e]; simp [e.1, e.2]
  · rw [if_neg e]; have e' : (decide ((nd L j).k = 1 ∧ (nd L j).c = 0)) = false := decide_eq_false e
    rw [Option.toList_some, List.filter_cons, e', List.length_append]; rfl

theorem st_form {L : List Nd} {h : Int → Nat} (hh : ∀ x ∈ L, 0 < x.c → x.d.length = h x.c) : ∀ j, j ≤ L.length →
    byN L j = (((L.take j).filter fun x => decide (x.c ≤ 0)).map fun x => x.d.length).sum + ((dp ((cs L).take j)).map h).sum
  | 0, _ => by simp [byN, dp, pz, dd]
  | j + 1, hj => by
    have hl : j < L.length := by omega
    unfold byN
    rw [st_form hh j (by omega), cs_take_step hl, dp_snoc, List.take_add_one, List.getElem?_eq_getElem hl, List.filter_append, ← nd_get hl]
    have hx := hh _ (nd_mem hl)
    by_cases hp : 0 < (nd L j).c
    · have e1 : (Option.toList (some (nd L j))).filter (fun x => decide (x.c ≤ 0)) = [] := by simp; omega
      rw [e1, List.append_nil]
      by_cases hm : (nd L j).c ∈ (cs L).take j
      · rw [if_pos ⟨hp, hm⟩, if_neg (fun e => e.2 hm)]; rfl
      · rw [if_neg (fun e => hm e.2), if_pos ⟨hp, hm⟩, hx hp]
        simp; omega
    · rw [if_neg (fun e : Again L j => hp e.1), if_neg (fun e => hp e.1)]
      have e1 : (Option.toList (some (nd L j))).filter (fun x => decide (x.c ≤ 0)) = [nd L j] := by simp; omega
      rw [e1]
      simp; omega
theorem by_perm {a b : List Nd} (hp : a.Perm b) (hv : Val b) : byN a a.length = byN b b.length := by
  obtain ⟨h, eh⟩ : ∃ h : Int → Nat, h = fun c => ((b.find? fun y => decide (y.c = c)).map fun y => y.d.length).getD 0 := ⟨_, rfl⟩
  have hh : ∀ x ∈ b, 0 < x.c → x.d.length = h x.c := by
    intro x hx h'
    rw [eh]
    obtain ⟨y, hy⟩ := find_class hx
    dsimp only
    rw [hy]
    have e : y.c = x.c := by have := List.find?_some hy; exact of_decide_eq_true this
    have := hv.cls x hx y (List.mem_of_find?_eq_some hy) (by omega) e.symm
    show x.d.length = y.d.length
    rw [this.2]
  rw [st_form (fun x hx h' => hh x (hp.mem_iff.mp hx) h') _ (Nat.le_refl _), st_form hh _ (Nat.le_refl _), List.take_of_length_le (Nat.le_refl _), List.take_of_length_le (Nat.le_refl _)]
  have la : (cs a).take a.length = cs a := List.take_of_length_le (by unfold cs; rw [List.length_map]; exact Nat.le_refl _)
  have lb : (cs b).take b.length = cs b := List.take_of_length_le (by unfold cs; rw [List.length_map]; exact Nat.le_refl _)
  rw [la, lb]
  have h1 : (((a.filter fun x => decide (x.c ≤ 0)).map fun x => x.d.length)).sum = (((b.filter fun x => decide (x.c ≤ 0)).map fun x => x.d.length)).sum := ((hp.filter _).map _).sum_nat
  have h2 := ((dp_perm (hp.map Nd.c)).map h).sum_nat
  unfold cs
  rw [h1, h2]

/-- a member is a link exactly if an earlier node in path order is of its class -/
theorem link_iff {l : List Nd} {i : Nat} (hi : i < l.length) : (∃ y, fr (canon l) i (nd (canon l) i).c = some y) ↔ Again (srt l) i := by
  have hS : i < (srt l).length := by rw [srt_len]; exact hi
  have hC : i < (canon l).length := by rw [canon_len]; exact hi
  have cc : ∀ j, j < l.length → (nd (canon l) j).c = num (cs (srt l)) (nd (srt l) j).c := by
    intro j hj
    rw [nd_get (by rw [canon_len]; exact hj), nd_get (by rw [srt_len]; exact hj)]
    unfold canon
    rw [List.getElem_map]
    rfl
  have hex : (∃ y, fr (canon l) i (nd (canon l) i).c = some y) ↔ ∃ j, j < i ∧ 0 < (nd (canon l) j).c ∧ (nd (canon l) j).c = (nd (canon l) i).c := by
    constructor
    · rintro ⟨y, hy⟩
      obtain ⟨r, hr, rfl, h1, h2, _⟩ := fr_some (Nat.le_of_lt hC) hy
      exact ⟨r, hr, h1, h2⟩
    · rintro ⟨j, hj, h1, h2⟩
      cases e : fr (canon l) i (nd (canon l) i).c with
      | some y => exact ⟨y, rfl⟩
      | none => exact absurd ⟨h1, h2⟩ ((fr_none (Nat.le_of_lt hC)).mp e j hj)
  rw [hex]
  constructor
  · rintro ⟨j, hj, h1, h2⟩
    rw [cc j (by omega)] at h1 h2
    rw [cc i hi] at h2
    have m1 := num_pos.mp h1
    rw [h2] at h1
    have m2 := num_pos.mp h1
    have e := num_inj m1 m2 h2
    refine ⟨m2.1, ?_⟩
    rw [← e]
    exact List.mem_take_iff_getElem.mpr ⟨j, by unfold cs; rw [List.length_map]; omega, by
      have := cs_get (show j < (srt l).length by omega)
      rw [List.getElem?_eq_getElem (by unfold cs; rw [List.length_map]; omega)] at this
      exact Option.some.inj this⟩
  · rintro ⟨hp, hm⟩
    obtain ⟨j, hj, e⟩ := List.mem_take_iff_getElem.mp hm
    have lS : (cs (srt l)).length = (srt l).length := by unfold cs; rw [List.length_map]
    have ej : (nd (srt l) j).c = (nd (srt l) i).c := by
      have := cs_get (show j < (srt l).length by omega)
      rw [List.getElem?_eq_getElem (by omega)] at this
      rw [← Option.some.inj this]; exact e
    have hc : 2 ≤ (cs (srt l)).count (nd (srt l) i).c := by
      have h1 : (cs (srt l)) = (cs (srt l)).take i ++ (cs (srt l)).drop i := (List.take_append_drop i _).symm
      have h2 : 0 < ((cs (srt l)).take i).count (nd (srt l) i).c := List.count_pos_iff.mpr hm
      have h3 : 0 < ((cs (srt l)).drop i).count (nd (srt l) i).c := List.count_pos_iff.mpr (by
        refine List.mem_iff_getElem?.mpr ⟨0, ?_⟩
        rw [List.getElem?_drop, Nat.add_zero, cs_get hS])
      rw [h1, List.count_append]; omega
    have M : Many (cs (srt l)) (nd (srt l) i).c := ⟨hp, hc⟩
    refine ⟨j, by omega, ?_, ?_⟩
    · rw [cc j (by omega), ej]; exact num_pos.mpr M
    · rw [cc j (by omega), cc i hi, ej]
theorem canon_d {l : List Nd} {i : Nat} (hi : i < l.length) : (nd (canon l) i).d = (nd (srt l) i).d := by
  rw [nd_get (by rw [canon_len]; exact hi), nd_get (by rw [srt_len]; exact hi)]
  unfold canon
  rw [List.getElem_map]
  rfl
theorem lk_form {l : List Nd} (h : Val l) : ∀ j, j ≤ l.length → lkN (mbs (canon l)) j + (dp ((cs (srt l)).take j)).length = (pz ((cs (srt l)).take j)).length ∧ stN (mbs (canon l)) j = byN (srt l) j
  | 0, _ => by simp [lkN, stN, byN, dp, pz, dd]
  | j + 1, hj => by
    have hl : j < l.length := by omega
    have hC : j < (canon l).length := by rw [canon_len]; exact hl
    obtain ⟨i1, i2⟩ := lk_form h j (by omega)
    rw [lk_step (mbs_at hC), st_step (mbs_at hC), cs_take_step (by rw [srt_len]; exact hl), dp_snoc, pz_snoc]
    unfold byN
    have hk := (can_of h).k3 hC
    by_cases ha : Again (srt l) j
    · obtain ⟨y, hy⟩ := (link_iff hl).mpr ha
      rw [if_pos (hk.mpr ⟨y, hy⟩), if_neg (fun e => e.2 ha.2), if_pos ha.1, if_pos ha, mb_some hy]
      refine ⟨?_, ?_⟩
      · rw [List.length_append, List.length_singleton]; omega
      · show stN _ j + 0 = _; omega
    · have hn : fr (canon l) j (nd (canon l) j).c = none := by
        cases e : fr (canon l) j (nd (canon l) j).c with
        | none => rfl
        | some y => exact absurd ((link_iff hl).mp ⟨y, e⟩) ha
      rw [if_neg (fun e => by obtain ⟨y, hy⟩ := hk.mp e; rw [hn] at hy; cases hy), if_neg ha, mb_none hn]
      refine ⟨?_, ?_⟩
      · by_cases hp : 0 < (nd (srt l) j).c
        · have hm : (nd (srt l) j).c ∉ (cs (srt l)).take j := fun e => ha ⟨hp, e⟩
          rw [if_pos ⟨hp, hm⟩, if_pos hp, List.length_append, List.length_append, List.length_singleton]; omega
        · rw [if_neg (fun e => hp e.1), if_neg hp]; exact i1
      · show stN _ j + (nd (canon l) j).d.length = _
        rw [canon_d hl, i2]
theorem fl_form {l : List Nd} (h : Val l) : ∀ j, j ≤ l.length → flN l j = alN l j + (pz ((cs l).take j)).length
  | 0, _ => by simp [flN, alN, pz]
  | j + 1, hj => by
    have hl : j < l.length := by omega
    have o := one_c (h.one _ (nd_mem hl))
    rw [fl_step hl, al_step hl, cs_take_step hl, pz_snoc, fl_form h j (by omega)]
    by_cases hk : (nd l j).k = 1
    · by_cases hc : (nd l j).c = 0
      · rw [if_pos hk, if_pos ⟨hk, hc⟩, if_neg (by omega)]; omega
      · rw [if_pos hk, if_neg (fun e => hc e.2), if_pos (by omega), List.length_append, List.length_singleton]; omega
    · rw [if_neg hk, if_neg (fun e => hk e.1), if_neg (by have := o.2.1 hk; omega)]
/-- WHAT FlattenHardLinks COUNTS -/
theorem hard_links {l : List Nd} (h : Val l) : lkN (mbs (canon l)) l.length + alN l l.length + (dp (cs l)).length = flN l l.length ∧ stN (mbs (canon l)) l.length = byN l l.length := by
  obtain ⟨h1, h2⟩ := lk_form h l.length (Nat.le_refl _)
  have h3 := fl_form h l.length (Nat.le_refl _)
  have la : (cs l).take l.length = cs l := List.take_of_length_le (by unfold cs; rw [List.length_map]; exact Nat.le_refl _)
  have lb : (cs (srt l)).take l.length = cs (srt l) := List.take_of_length_le (by unfold cs; rw [List.length_map, srt_len]; exact Nat.le_refl _)
  rw [la] at h3
  rw [lb] at h1
  have hp : (cs (srt l)).Perm (cs l) := (srt_perm l).map Nd.c
  have e1 := (dp_perm hp).length_eq
  have e2 : (pz (cs (srt l))).length = (pz (cs l)).length := (hp.filter _).length_eq
  have e3 := by_perm (srt_perm l) h
  rw [srt_len] at e3
  exact ⟨by omega, h2.trans e3⟩
end Go.Proofs.YtmbimnnacjbdfaaDoor.Flt
