/-
  Layer 14: plain mathematics: the members of a canonical list of nodes. No memory.
-/
import Derived.Test.YtmbimnnacjbdfaaDoorPk06
namespace Go.Proofs.YtmbimnnacjbdfaaDoor.Flt
open Go.RowKit Go.Proofs.YtmbimnnacjbdfaaDoor.Fit Pnm Tre

/-- a member -/
structure Mb where
  e : Ent
  d : List Int
/-- of class c, which is no class of its own -/
def mt (c : Int) (y : Nd) : Bool := decide (0 < y.c ∧ y.c = c)
/-- the first node of the class among those before place i -/
def fr (C : List Nd) (i : Nat) (c : Int) : Option Nd := (C.take i).find? (mt c)
def lnk (x : Nd) (q : ByteArray) : Mb := ⟨⟨3, x.p, x.m, q, 0⟩, []⟩
def own1 (x : Nd) : Mb := ⟨entN x, x.d⟩
def mb (C : List Nd) (i : Nat) : Mb := match fr C i (nd C i).c with | some y => lnk (nd C i) y.p | none => own1 (nd C i)
def mbs (C : List Nd) : List Mb := (List.range C.length).map (mb C)
theorem mbs_len (C : List Nd) : (mbs C).length = C.length := by unfold mbs; rw [List.length_map, List.length_range]
theorem mbs_at {C : List Nd} {i : Nat} (h : i < C.length) : (mbs C)[i]? = some (mb C i) := by
  unfold mbs; rw [List.getElem?_map, List.getElem?_range h]; rfl
theorem mb_some {C : List Nd} {i : Nat} {y : Nd} (h : fr C i (nd C i).c = some y) : mb C i = lnk (nd C i) y.p := by unfold mb; rw [h]
theorem mb_none {C : List Nd} {i : Nat} (h : fr C i (nd C i).c = none) : mb C i = own1 (nd C i) := by unfold mb; rw [h]

theorem fr_none {C : List Nd} {i : Nat} {c : Int} (hi : i ≤ C.length) : fr C i c = none ↔ ∀ j, j < i → ¬ (0 < (nd C j).c ∧ (nd C j).c = c) := by
  unfold fr
  rw [List.find?_eq_none]
  constructor
  · intro h j hj
    have hl : j < C.length := by omega
    have := h (nd C j) (by rw [nd_get hl]; exact List.mem_take_iff_getElem.mpr ⟨j, by omega, rfl⟩)
    simpa [mt] using this
  · intro h y hy
    obtain ⟨j, hj, rfl⟩ := List.mem_take_iff_getElem.mp hy
    have := h j (by omega)
    rw [nd_get (by omega)] at this
    simpa [mt] using this
theorem fr_some {C : List Nd} {i : Nat} {c : Int} {y : Nd} (hi : i ≤ C.length) (h : fr C i c = some y) : ∃ r, r < i ∧ nd C r = y ∧ 0 < y.c ∧ y.c = c ∧ fr C r c = none := by
  unfold fr at h
  obtain ⟨h1, r, hr, h2, h3⟩ := List.find?_eq_some_iff_getElem.mp h
  have h1 : 0 < y.c ∧ y.c = c := of_decide_eq_true h1
  have hr' : r < i ∧ r < C.length := by rw [List.length_take] at hr; omega
  rw [List.getElem_take] at h2
  refine ⟨r, hr'.1, by rw [nd_get hr'.2]; exact h2, h1.1, h1.2, ?_⟩
  refine (fr_none (by omega)).mpr fun j hj hm => ?_
  have := h3 j hj
  rw [List.getElem_take, ← nd_get (by omega)] at this
  simp [mt] at this
  rcases this with h | h
  · have := hm.1; omega
  · exact h hm.2
theorem fr_of {C : List Nd} {i r : Nat} {c : Int} (hi : i ≤ C.length) (hr : r < i) (hp : 0 < (nd C r).c) (hc : (nd C r).c = c) (hn : fr C r c = none) : fr C i c = some (nd C r) := by
  unfold fr
  refine List.find?_eq_some_iff_getElem.mpr ⟨decide_eq_true ⟨hp, hc⟩, r, by rw [List.length_take]; omega, by rw [List.getElem_take, nd_get (by omega)], fun j hj => ?_⟩
  have := (fr_none (by omega)).mp hn j hj
  rw [List.getElem_take, ← nd_get (by omega)]
  simp only [mt, Bool.not_eq_true', decide_eq_false_iff_not]
  exact this
theorem fr_step {C : List Nd} {i : Nat} (hi : i < C.length) (c : Int) : fr C (i + 1) c = (fr C i c).or (if 0 < (nd C i).c ∧ (nd C i).c = c then some (nd C i) else none) := by
  unfold fr
  rw [List.take_add_one, List.getElem?_eq_getElem hi, List.find?_append, ← nd_get hi]
  congr 1
  by_cases h : 0 < (nd C i).c ∧ (nd C i).c = c
  · rw [if_pos h]; have h1 : mt c (nd C i) = true := decide_eq_true h
    simp [h1]
  · rw [if_neg h]; have h1 : mt c (nd C i) = false := decide_eq_false h
    simp [h1]

/-! a canonical valid list -/
structure Can (C : List Nd) : Prop where
  v : Val C
  s : Srt C
  f : ∀ x ∈ C, num (cs C) x.c = x.c
theorem can_of {l : List Nd} (h : Val l) : Can (canon l) := by
  refine ⟨canon_val h, srt_canon l, fun x hx => ?_⟩
  have e : (canon l).map (ren (canon l)) = canon l := by
    have := canon_canon l
    unfold canon at this ⊢
    rw [srt_id (by have := srt_canon l; unfold canon at this; exact this)] at this
    exact this
  obtain ⟨i, hi, rfl⟩ := List.getElem_of_mem hx
  have h2 : ((canon l).map (ren (canon l)))[i]? = (canon l)[i]? := by rw [e]
  rw [List.getElem?_map, List.getElem?_eq_getElem hi] at h2
  have h3 := Option.some.inj h2
  exact congrArg Nd.c h3
theorem Can.lt {C : List Nd} (h : Can C) {i j : Nat} (hij : i < j) (hj : j < C.length) : cmpZ (key (nd C i)) (key (nd C j)) = -1 := by
  have h1 := List.pairwise_iff_getElem.mp h.s i j (by omega) hj hij
  have h2 := List.pairwise_iff_getElem.mp h.v.apt i j (by omega) hj hij
  rw [← nd_get (show i < C.length by omega), ← nd_get hj] at h1 h2
  rcases cmp_cases (key (nd C i)) (key (nd C j)) with e | e | e
  · exact e
  · exact absurd (nums_inj ((cmp_eq _ _).mp e)) h2
  · unfold Le at h1; omega
theorem Can.at_ {C : List Nd} (h : Can C) {i j : Nat} (hi : i < C.length) (hj : j < C.length) (e : (nd C i).p = (nd C j).p) : i = j := by
  rcases Nat.lt_trichotomy i j with l | l | l
  · have := h.lt l hj
    unfold key at this
    rw [e, (cmp_eq _ _).mpr rfl] at this; omega
  · exact l
  · have := h.lt l hi
    unfold key at this
    rw [e, (cmp_eq _ _).mpr rfl] at this; omega
/-- the parent comes before -/
theorem Can.par {C : List Nd} (h : Can C) {i : Nat} (hi : i < C.length) : parZ (key (nd C i)) = [] ∨ ∃ j, j < i ∧ (nd C j).k = 0 ∧ key (nd C j) = parZ (key (nd C i)) := by
  rcases h.v.par _ (nd_mem hi) with e | ⟨y, hy, hk, e⟩
  · exact .inl e
  obtain ⟨j, hj, rfl⟩ := nd_of hy
  rcases (par_bas (key (nd C i))).2 with ⟨_, e', _⟩ | ⟨_, e'⟩
  · exact .inl e'
  refine .inr ⟨j, ?_, hk, e⟩
  have h1 : cmpZ (key (nd C j)) (key (nd C i)) = -1 := by rw [e']; rw [e]; exact cmp_pre _ _ _
  rcases Nat.lt_or_ge j i with l | l
  · exact l
  · rcases Nat.eq_or_lt_of_le l with l | l
    · subst l; rw [(cmp_eq _ _).mpr rfl] at h1; omega
    · have := h.lt l hj
      rw [cmp_neg] at this; omega
theorem one_ck {x : Nd} (h1 : oneE x = 0) : ckE (entN x) = 0 := by
  unfold oneE at h1
  split at h1
  · omega
  · split at h1
    · rename_i h2; exact absurd h1 h2
    · rename_i h2; exact Decidable.byContradiction h2
/-- a member's entry is valid -/
theorem Can.ck {C : List Nd} (h : Can C) {i : Nat} (hi : i < C.length) : ckE (mb C i).e = 0 := by
  have h1 := (h.v.one _ (nd_mem hi))
  have hck := one_ck h1
  cases e : fr C i (nd C i).c with
  | none => rw [mb_none e]; exact hck
  | some y =>
    rw [mb_some e]
    obtain ⟨r, hr, rfl, hp, hc, _⟩ := fr_some (Nat.le_of_lt hi) e
    have hy := one_c (h.v.one _ (nd_mem (show r < C.length by omega)))
    have hok := ck_ok.mp hck
    refine ck_ok.mpr ⟨by show (0 : Int) ≤ 3; decide, by show (3 : Int) < 4; decide, hok.path, hok.m0, hok.m1, fun h => absurd h (by show ¬ (3 : Int) = 2; decide), ?_, rfl⟩
    show tgE 3 (nd C r).p = 0
    unfold tgE
    rw [if_neg (by decide), if_pos rfl]
    exact hy.2.2.2.2.2
/-- what a link is -/
theorem Can.lnk {C : List Nd} (h : Can C) {i : Nat} (hi : i < C.length) {y : Nd} (e : fr C i (nd C i).c = some y) : ∃ r, r < i ∧ nd C r = y ∧ (nd C r).k = 1 ∧ (nd C i).k = 1 ∧ fr C r (nd C r).c = none ∧ (nd C r).m = (nd C i).m ∧ (nd C r).d = (nd C i).d ∧ 0 < (nd C r).c ∧ (nd C r).c = (nd C i).c := by
  obtain ⟨r, hr, rfl, hp, hc, hn⟩ := fr_some (Nat.le_of_lt hi) e
  have o1 := one_c (h.v.one _ (nd_mem (show r < C.length by omega)))
  have o2 := one_c (h.v.one _ (nd_mem hi))
  have k := h.v.cls _ (nd_mem (show r < C.length by omega)) _ (nd_mem hi) (by omega) hc
  refine ⟨r, hr, rfl, ?_, ?_, by rw [hc]; exact hn, k.1, k.2, hp, hc⟩
  · exact Decidable.byContradiction fun hk => by have := o1.2.1 hk; omega
  · exact Decidable.byContradiction fun hk => by have := o2.2.1 hk; omega
theorem mb_p (C : List Nd) (i : Nat) : (mb C i).e.p = (nd C i).p ∧ (mb C i).e.m = (nd C i).m := by
  cases e : fr C i (nd C i).c with
  | none => rw [mb_none e]; exact ⟨rfl, rfl⟩
  | some y => rw [mb_some e]; exact ⟨rfl, rfl⟩
/-- the kind tells whether it is a link -/
theorem Can.k3 {C : List Nd} (h : Can C) {i : Nat} (hi : i < C.length) : (mb C i).e.k = 3 ↔ ∃ y, fr C i (nd C i).c = some y := by
  cases e : fr C i (nd C i).c with
  | none =>
    rw [mb_none e]
    have := one_c (h.v.one _ (nd_mem hi))
    constructor
    · intro h3
      have : (nd C i).k = 3 := h3
      omega
    · rintro ⟨_, h⟩; cases h
  | some y => rw [mb_some e]; exact ⟨fun _ => ⟨y, rfl⟩, fun _ => rfl⟩

/-! members and trees -/
theorem nd_eq {x y : Nd} (h1 : x.k = y.k) (h2 : x.p = y.p) (h3 : x.m = y.m) (h4 : x.t = y.t) (h5 : x.d = y.d) (h6 : x.c = y.c) : x = y := by
  obtain ⟨k, p, m, t, d, c⟩ := x
  obtain ⟨k', p', m', t', d', c'⟩ := y
  dsimp only at *
  subst h1; subst h2; subst h3; subst h4; subst h5; subst h6; rfl
theorem rel_of {C D : List Nd} (_hC : Can C) (hD : Can D) (hm : mbs C = mbs D) {i j : Nat} (hij : i < j) (hj : j < C.length) (h : 0 < (nd C i).c ∧ (nd C i).c = (nd C j).c) : 0 < (nd D i).c ∧ (nd D i).c = (nd D j).c := by
  have hl : C.length = D.length := by rw [← mbs_len C, hm, mbs_len]
  have eq : ∀ k, k < C.length → mb C k = mb D k := fun k hk => by
    have h1 := mbs_at hk
    rw [hm, mbs_at (by omega)] at h1
    exact (Option.some.inj h1).symm
  have pe : ∀ k, k < C.length → (nd C k).p = (nd D k).p := fun k hk => by rw [← (mb_p C k).1, eq k hk, (mb_p D k).1]
  -- a link's target is the same node in both
  have key : ∀ k r, k < C.length → r < k → 0 < (nd C r).c → (nd C r).c = (nd C k).c → fr C r (nd C k).c = none → 0 < (nd D r).c ∧ (nd D r).c = (nd D k).c := by
    intro k r hk hr hp hc hn
    have e1 := fr_of (Nat.le_of_lt hk) hr hp hc hn
    have m1 := mb_some e1
    have k3 : (mb D k).e.k = 3 := by rw [← eq k hk, m1]; rfl
    obtain ⟨y, e2⟩ := (hD.k3 (by omega)).mp k3
    have m2 := mb_some e2
    obtain ⟨r', hr', rfl, hp', hc', _⟩ := fr_some (by omega) e2
    have e3 : (nd C r).p = (nd D r').p := by
      have : (mb C k).e.t = (mb D k).e.t := by rw [eq k hk]
      rw [m1, m2] at this
      exact this
    obtain rfl : r = r' := hD.at_ (by omega) (by omega) (by rw [← pe r (by omega)]; exact e3)
    exact ⟨hp', hc'⟩
  cases e : fr C i (nd C i).c with
  | none => exact key j i hj hij h.1 h.2 (by rw [← h.2]; exact e)
  | some y =>
    obtain ⟨r, hr, rfl, hp, hc, hn⟩ := fr_some (by omega) e
    have k1 := key i r (by omega) hr hp hc hn
    have k2 := key j r hj (by omega) hp (hc.trans h.2) (by rw [← h.2]; exact hn)
    exact ⟨by omega, by omega⟩
theorem Can.many {C : List Nd} (h : Can C) {i : Nat} (hi : i < C.length) : 0 < (nd C i).c ↔ Many (cs C) (nd C i).c := by
  rw [← num_pos, h.f _ (nd_mem hi)]
theorem cs_get {C : List Nd} {i : Nat} (hi : i < C.length) : (cs C)[i]? = some (nd C i).c := by unfold cs; rw [List.getElem?_map, List.getElem?_eq_getElem hi, nd_get hi]; rfl
theorem two_of {l : List Int} {c : Int} (h : 2 ≤ l.count c) {i : Nat} (_ : l[i]? = some c) : ∃ j, j ≠ i ∧ l[j]? = some c := by
  induction l generalizing i with
  | nil => simp at h
  | cons x l ih =>
    cases i with
    | zero =>
      have hx : x = c := by simpa using ‹(x :: l)[0]? = some c›
      subst hx
      have : 0 < l.count x := by rw [List.count_cons_self] at h; omega
      obtain ⟨j, hj, e⟩ := List.getElem_of_mem (List.count_pos_iff.mp this)
      exact ⟨j + 1, by omega, by rw [List.getElem?_cons_succ, List.getElem?_eq_getElem hj, e]⟩
    | succ i =>
      by_cases hx : x = c
      · exact ⟨0, by omega, by simp [hx]⟩
      · rw [List.count_cons_of_ne hx] at h
        obtain ⟨j, hj, e⟩ := ih h (i := i) (by simpa using ‹(x :: l)[i + 1]? = some c›)
        exact ⟨j + 1, by omega, by simpa using e⟩
theorem many_two {C : List Nd} (h : Can C) {i : Nat} (hi : i < C.length) : 0 < (nd C i).c ↔ ∃ j, j < C.length ∧ j ≠ i ∧ 0 < (nd C i).c ∧ (nd C j).c = (nd C i).c := by
  constructor
  · intro hp
    obtain ⟨j, hj, e⟩ := two_of ((h.many hi).mp hp).2 (cs_get hi)
    have hl : j < C.length := by
      have := (List.getElem?_eq_some_iff.mp e).1
      unfold cs at this
      rwa [List.length_map] at this
    rw [cs_get hl] at e
    exact ⟨j, hl, hj, hp, Option.some.inj e⟩
  · rintro ⟨_, _, _, h, _⟩; exact h
theorem rel_iff {C D : List Nd} (hC : Can C) (hD : Can D) (hm : mbs C = mbs D) {i j : Nat} (hi : i < C.length) (hj : j < C.length) : (0 < (nd C i).c ∧ (nd C i).c = (nd C j).c) ↔ (0 < (nd D i).c ∧ (nd D i).c = (nd D j).c) := by
  have hl : C.length = D.length := by rw [← mbs_len C, hm, mbs_len]
  have one : ∀ {C D : List Nd}, Can C → Can D → mbs C = mbs D → ∀ {i j : Nat}, i < C.length → j < C.length → i ≠ j → (0 < (nd C i).c ∧ (nd C i).c = (nd C j).c) → (0 < (nd D i).c ∧ (nd D i).c = (nd D j).c) := by
    intro C D hC hD hm i j hi hj hij h
    rcases Nat.lt_or_gt_of_ne hij with l | l
    · exact rel_of hC hD hm l hj h
    · have := rel_of hC hD hm l hi ⟨by omega, h.2.symm⟩
      exact ⟨by omega, this.2.symm⟩
  by_cases hij : i = j
  · subst hij
    constructor
    · rintro ⟨hp, _⟩
      obtain ⟨j, hj, hn, _, e⟩ := (many_two hC hi).mp hp
      exact ⟨(one hC hD hm hi hj (Ne.symm hn) ⟨hp, e.symm⟩).1, rfl⟩
    · rintro ⟨hp, _⟩
      obtain ⟨j, hj, hn, _, e⟩ := (many_two hD (by omega)).mp hp
      exact ⟨(one hD hC hm.symm (by omega) hj (Ne.symm hn) ⟨hp, e.symm⟩).1, rfl⟩
  · exact ⟨one hC hD hm hi hj hij, one hD hC hm.symm (by omega) (by omega) hij⟩
/-- the members tell the tree -/
theorem mbs_inj {C D : List Nd} (hC : Can C) (hD : Can D) (hm : mbs C = mbs D) : C = D := by
  have hl : C.length = D.length := by rw [← mbs_len C, hm, mbs_len]
  have eq : ∀ k, k < C.length → mb C k = mb D k := fun k hk => by
    have h1 := mbs_at hk
    rw [hm, mbs_at (by omega)] at h1
    exact (Option.some.inj h1).symm
  have hc : ∀ i, i < C.length → (nd C i).c = (nd D i).c := by
    intro i hi
    let f : Int → Int := fun a => (cs D).getD ((cs C).idxOf a) 0
    have lC : (cs C).length = C.length := by unfold cs; rw [List.length_map]
    have lD : (cs D).length = D.length := by unfold cs; rw [List.length_map]
    have hf : ∀ j, j < C.length → f (nd C j).c = (nd D j).c := by
      intro j hj
      have hmem : (nd C j).c ∈ cs C := List.mem_of_getElem? (cs_get hj)
      have hr : (cs C).idxOf (nd C j).c < C.length := by rw [← lC]; exact List.idxOf_lt_length_iff.mpr hmem
      have hre : (nd C ((cs C).idxOf (nd C j).c)).c = (nd C j).c := by
        have h1 := cs_get hr
        rw [List.getElem?_eq_getElem (by omega)] at h1
        rw [← Option.some.inj h1]
        exact List.getElem_idxOf _
      show (cs D).getD ((cs C).idxOf (nd C j).c) 0 = _
      rw [List.getD_eq_getElem?_getD, cs_get (by omega)]
      show (nd D ((cs C).idxOf (nd C j).c)).c = _
      generalize (cs C).idxOf (nd C j).c = r at hr hre
      by_cases hp : 0 < (nd C r).c
      · exact ((rel_iff hC hD hm hr hj).mp ⟨hp, hre⟩).2
      · have n1 : ¬ 0 < (nd D r).c := fun h => hp ((rel_iff hC hD hm hr hr).mpr ⟨h, rfl⟩).1
        have n2 : ¬ 0 < (nd D j).c := fun h => hp (by rw [hre]; exact ((rel_iff hC hD hm hj hj).mpr ⟨h, rfl⟩).1)
        have := (one_c (hD.v.one _ (nd_mem (show r < D.length by omega)))).1
        have := (one_c (hD.v.one _ (nd_mem (show j < D.length by omega)))).1
        omega
    have hmap : cs D = (cs C).map f := by
      refine List.ext_getElem? fun j => ?_
      by_cases hj : j < C.length
      · rw [List.getElem?_map, cs_get hj, cs_get (by omega)]
        show some _ = some _
        rw [hf j hj]
      · rw [List.getElem?_eq_none (by omega), List.getElem?_eq_none (by rw [List.length_map]; omega)]
    have mem_of : ∀ a ∈ cs C, ∃ j, j < C.length ∧ (nd C j).c = a := fun a ha => by
      obtain ⟨j, hj, rfl⟩ := List.getElem_of_mem ha
      have hj' : j < C.length := by omega
      refine ⟨j, hj', ?_⟩
      have := cs_get hj'
      rw [List.getElem?_eq_getElem hj] at this
      exact (Option.some.inj this).symm
    have hn := num_ren (l := cs C) (f := f) (fun a ha => by
        obtain ⟨j, hj, rfl⟩ := mem_of a ha
        rw [hf j hj]
        exact ⟨fun h => ((rel_iff hC hD hm hj hj).mpr ⟨h, rfl⟩).1, fun h => ((rel_iff hC hD hm hj hj).mp ⟨h, rfl⟩).1⟩)
      (fun a ha b hb h1 h2 e => by
        obtain ⟨j, hj, rfl⟩ := mem_of a ha
        obtain ⟨k, hk, rfl⟩ := mem_of b hb
        rw [hf j hj, hf k hk] at e
        exact ((rel_iff hC hD hm hj hk).mpr ⟨((rel_iff hC hD hm hj hj).mp ⟨h1, rfl⟩).1, e⟩).2)
      (a := (nd C i).c) (List.mem_of_getElem? (cs_get hi))
    rw [← hmap, hf i hi, hC.f _ (nd_mem hi), hD.f _ (nd_mem (show i < D.length by omega))] at hn
    exact hn.symm
  have non : ∀ i, i < C.length → fr C i (nd C i).c = none → nd C i = nd D i := by
    intro i hi e1
    have e := eq i hi
    have c := hc i hi
    cases e2 : fr D i (nd D i).c with
    | some y =>
      have := (hD.k3 (by omega)).mpr ⟨y, e2⟩
      rw [← e, hC.k3 hi, e1] at this
      obtain ⟨_, h⟩ := this; cases h
    | none =>
      rw [mb_none e1, mb_none e2] at e
      have h1 : entN (nd C i) = entN (nd D i) := congrArg Mb.e e
      have h2 : (nd C i).d = (nd D i).d := congrArg Mb.d e
      have hk : (nd C i).k = (nd D i).k := congrArg Ent.k h1
      have hp : (nd C i).p = (nd D i).p := congrArg Ent.p h1
      have hm' : (nd C i).m = (nd D i).m := congrArg Ent.m h1
      have ht : (nd C i).t = (nd D i).t := congrArg Ent.t h1
      exact nd_eq hk hp hm' ht h2 c
  have tg0 : ∀ {E : List Nd}, Can E → ∀ {i}, i < E.length → (nd E i).k = 1 → (nd E i).t = emp := by
    intro E hE i hi hk
    have h1 := tg_cases (ck_ok.mp (one_ck (hE.v.one _ (nd_mem hi)))).tg
    rcases h1.2.1 with h | h
    · exact h.2.2
    · have : (nd E i).k = 2 ∨ (nd E i).k = 3 := h.1
      omega
  refine List.ext_getElem hl fun i hi hi' => ?_
  rw [← nd_get hi, ← nd_get hi']
  cases e1 : fr C i (nd C i).c with
  | none => exact non i hi e1
  | some y =>
    have e := eq i hi
    have h3 := (hC.k3 hi).mpr ⟨y, e1⟩
    rw [e] at h3
    obtain ⟨z, e2⟩ := (hD.k3 hi').mp h3
    obtain ⟨r, hr, rfl, k1, k2, n1, m1, d1, _, _⟩ := hC.lnk hi e1
    obtain ⟨q, hq, rfl, k1', k2', n2, m2, d2, _, _⟩ := hD.lnk hi' e2
    have ht : (mb C i).e.t = (mb D i).e.t := by rw [e]
    have hp : (mb C i).e.p = (mb D i).e.p := by rw [e]
    have hm' : (mb C i).e.m = (mb D i).e.m := by rw [e]
    rw [(mb_p C i).1, (mb_p D i).1] at hp
    rw [(mb_p C i).2, (mb_p D i).2] at hm'
    rw [mb_some e1, mb_some e2] at ht
    have hrn := non r (by omega) n1
    obtain rfl : r = q := hD.at_ (by omega) (by omega) (by rw [← hrn]; exact ht)
    exact nd_eq (by rw [k2, k2']) hp hm' (by rw [tg0 hC hi k2, tg0 hD hi' k2']) (by rw [← d1, ← d2, hrn]) (hc i hi)
end Go.Proofs.YtmbimnnacjbdfaaDoor.Flt
