/-
  Layer 14: plain mathematics: the members of a canonical list of nodes. No memory.
-/
import Derived.Test.YtmbimnnacjbdfaaGreatDoorPz19
import Derived.Test.YtmbimnnacjbdfaaGreatDoorPz17
import Derived.Test.YtmbimnnacjbdfaaGreatDoorPz05
import Derived.Deep.Strs
namespace Go.Proofs.YtmbimnnacjbdfaaGreatDoor.Flt
open Go.RowKit Go.Proofs.YtmbimnnacjbdfaaGreatDoor.Fit Pnm Tre

/-- a member -/
structure Mb where
  e : Ent
  d : List Int
/-- of class c, which is no class of its own -/
def mt (c : Int) (y : Nd) : Bool := decide (0 < y.c ∧ y.c = c)
/-- the first node of the class among those before place i -/
def fr (C : List Nd) (i : Nat) (c : Int) : Option Nd := (C.take i).find? (mt c)
def lnk (x : Nd) (q : ByteArray) : Mb := ⟨⟨3, x.p, x.m, q, 0⟩, []⟩
def own1 (x : Nd) : Mb := ⟨entN x, x.d⟩
def mb (C : List Nd) (i : Nat) : Mb := match fr C i (nd C i).c with | some y => lnk (nd C i) y.p | none => own1 (nd C i)
def mbs (C : List Nd) : List Mb := (List.range C.length).map (mb C)
theorem mbs_len (C : List Nd) : (mbs C).length = C.length := by unfold mbs; rw [List.length_map, List.length_range]
theorem mbs_at {C : List Nd} {i : Nat} (h : i < C.length) : (mbs C)[i]? = some (mb C i) := by
  unfold mbs; rw [List.getElem?_map, List.getElem?_range h]; rfl
theorem mb_some {C : List Nd} {i : Nat} {y : Nd} (h : fr C i (nd C i).c = some y) : mb C i = lnk (nd C i) y.p := by unfold mb; rw [h]
theorem mb_none {C : List Nd} {i : Nat} (h : fr C i (nd C i).c = none) : mb C i = own1 (nd C i) := by unfold mb; rw [h]

theorem fr_none {C : List Nd} {i : Nat} {c : Int} (hi : i ≤ C.length) : fr C i c = none ↔ ∀ j, j < i → ¬ (0 < (nd C j).c ∧ (nd C j).c = c) := by
  unfold fr
  rw [List.find?_eq_none]
  constructor
  · intro h j hj
    have hl : j < C.length := by omega
    have := h (nd C j) (by rw [nd_get hl]; exact List.mem_take_iff_getElem.mpr ⟨j, by omega, rfl⟩)
    simpa [mt] using this
  · intro h y hy
    obtain ⟨j, hj, rfl⟩ := List.mem_take_iff_getElem.mp hy
    have := h j (by omega)
    rw [nd_get (by omega)] at this
    simpa [mt] using this
theorem fr_some {C : List Nd} {i : Nat} {c : Int} {y : Nd} (hi : i ≤ C.length) (h : fr C i c = some y) : ∃ r, r < i ∧ nd C r = y ∧ 0 < y.c ∧ y.c = c ∧ fr C r c = none := by
  unfold fr at h
  obtain ⟨h1, r, hr, h2, h3⟩ := List.find?_eq_some_iff_getElem.mp h
  have h1 : 0 < y.c ∧ y.c = c := of_decide_eq_true h1
  have hr' : r < i ∧ r < C.length := by rw [List.length_take] at hr; omega
  rw [List.getElem_take] at h2
  refine ⟨r, hr'.1, by rw [nd_get hr'.2]; exact h2, h1.1, h1.2, ?_⟩
  refine (fr_none (by omega)).mpr fun j hj hm => ?_
  have := h3 j hj
  rw [List.getElem_take, ← nd_get (by omega)] at this
  simp [mt] at this
  rcases this with h | h
  · have := hm.1; omega
  · exact h hm.2
theorem fr_of {C : List Nd} {i r : Nat} {c : Int} (hi : i ≤ C.length) (hr : r < i) (hp : 0 < (nd C r).c) (hc : (nd C r).c = c) (hn : fr C r c = none) : fr C i c = some (nd C r) := by
  unfold fr
  refine List.find?_eq_some_iff_getElem.mpr ⟨decide_eq_true ⟨hp, hc⟩, r, by rw [List.length_take]; omega, by rw [List.getElem_take, nd_get (by omega)], fun j hj => ?_⟩
  have := (fr_none (by omega)).mp hn j hj
  rw [List.getElem_take, ← nd_get (by omega)]
  simp only [mt, Bool.not_eq_true', decide_eq_false_iff_not]
  exact this
theorem fr_step {C : List Nd} {i : Nat} (hi : i < C.length) (c : Int) : fr C (i + 1) c = (fr C i c).or (if 0 < (nd C i).c ∧ (nd C i).c = c then some (nd C i) else none) := by
  unfold fr
  rw [List.take_add_one, List.getElem?_eq_getElem hi, List.find?_append, ← nd_get hi]
  congr 1
  by_cases h : 0 < (nd C i).c ∧ (nd C i).c = c
  · rw [if_pos h]; have h1 : mt c (nd C i) = true := decide_eq_true h
    simp [h1]
  · rw [if_neg h]; have h1 : mt c (nd C i) = false := decide_eq_false h
    simp [h1]

/-! a canonical valid list -/
structure Can (C : List Nd) : Prop where
  v : Val C
  s : Srt C
  f : ∀ x ∈ C, num (cs C) x.c = x.c
theorem can_of {l : List Nd} (h : Val l) : Can (canon l) := by
  refine ⟨canon_val h, srt_canon l, fun x hx => ?_⟩
  have e : (canon l).map (ren (canon l)) = canon l := by
    have := canon_canon l
    unfold canon at this ⊢
    rw [srt_id (by have := srt_canon l; unfold canon at this; exact this)] at this
    exact this
  obtain ⟨i, hi, rfl⟩ := List.getElem_of_mem hx
  have h2 : ((canon l).map (ren (canon l)))[i]? = (canon l)[i]? := by rw [e]
  rw [List.getElem?_map, List.getElem?_eq_getElem hi] at h2
  have h3 := Option.some.inj h2
  exact congrArg Nd.c h3
theorem Can.lt {C : List Nd} (h : Can C) {i j : Nat} (hij : i < j) (hj : j < C.length) : cmpZ (key (nd C i)) (key (nd C j)) = -1 := by
  have h1 := List.pairwise_iff_getElem.mp h.s i j (by omega) hj hij
  have h2 := List.pairwise_iff_getElem.mp h.v.apt i j (by omega) hj hij
  rw [← nd_get (show i < C.length by omega), ← nd_get hj] at h1 h2
  rcases cmp_cases (key (nd C i)) (key (nd C j)) with e | e | e
  · exact e
  · exact absurd (nums_inj ((cmp_eq _ _).mp e)) h2
  · unfold Le at h1; omega
theorem Can.at_ {C : List Nd} (h : Can C) {i j : Nat} (hi : i < C.length) (hj : j < C.length) (e : (nd C i).p = (nd C j).p) : i = j := by
  rcases Nat.lt_trichotomy i j with l | l | l
  · have := h.lt l hj
    unfold key at this
    rw [e, (cmp_eq _ _).mpr rfl] at this; omega
  · exact l
  · have := h.lt l hi
    unfold key at this
    rw [e, (cmp_eq _ _).mpr rfl] at this; omega
/-- the parent comes before -/
theorem Can.par {C : List Nd} (h : Can C) {i : Nat} (hi : i < C.length) : parZ (key (nd C i)) = [] ∨ ∃ j, j < i ∧ (nd C j).k = 0 ∧ key (nd C j) = parZ (key (nd C i)) := by
  rcases h.v.par _ (nd_mem hi) with e | ⟨y, hy, hk, e⟩
  · exact .inl e
  obtain ⟨j, hj, rfl⟩ := nd_of hy
  rcases (par_bas (key (nd C i))).2 with ⟨_, e', _⟩ | ⟨_, e'⟩
  · exact .inl e'
  refine .inr ⟨j, ?_, hk, e⟩
  have h1 : cmpZ (key (nd C j)) (key (nd C i)) = -1 := by rw [e']; rw [e]; exact cmp_pre _ _ _
  rcases Nat.lt_or_ge j i with l | l
  · exact l
  · rcases Nat.eq_or_lt_of_le l with l | l
    · subst l; rw [(cmp_eq _ _).mpr rfl] at h1; omega
    · have := h.lt l hj
      rw [cmp_neg] at this; omega
theorem one_ck {x : Nd} (h1 : oneE x = 0) : ckE (entN x) = 0 := by
  unfold oneE at h1
  split at h1
  · omega
  · split at h1
    · rename_i h2; exact absurd h1 h2
    · rename_i h2; exact Decidable.byContradiction h2
/-- a member's entry is valid -/
theorem Can.ck {C : List Nd} (h : Can C) {i : Nat} (hi : i < C.length) : ckE (mb C i).e = 0 := by
  have h1 := (h.v.one _ (nd_mem hi))
  have hck := one_ck h1
  cases e : fr C i (nd C i).c with
  | none => rw [mb_none e]; exact hck
  | some y =>
    rw [mb_some e]
    obtain ⟨r, hr, rfl, hp, hc, _⟩ := fr_some (Nat.le_of_lt hi) e
    have hy := one_c (h.v.one _ (nd_mem (show r < C.length by omega)))
    have hok := ck_ok.mp hck
    refine ck_ok.mpr ⟨by show (0 : Int) ≤ 3; decide, by show (3 : Int) < 4; decide, hok.path, hok.m0, hok.m1, fun h => absurd h (by show ¬ (3 : Int) = 2; decide), ?_, rfl⟩
    show tgE 3 (nd C r).p = 0
    unfold tgE
    rw [if_neg (by decide), if_pos rfl]
    exact hy.2.2.2.2.2
/-- what a link is -/
theorem Can.lnk {C : List Nd} (h : Can C) {i : Nat} (hi : i < C.length) {y : Nd} (e : fr C i (nd C i).c = some y) : ∃ r, r < i ∧ nd C r = y ∧ (nd C r).k = 1 ∧ (nd C i).k = 1 ∧ fr C r (nd C r).c = none ∧ (nd C r).m = (nd C i).m ∧ (nd C r).d = (nd C i).d ∧ 0 < (nd C r).c ∧ (nd C r).c = (nd C i).c := by
  obtain ⟨r, hr, rfl, hp, hc, hn⟩ := fr_some (Nat.le_of_lt hi) e
  have o1 := one_c (h.v.one _ (nd_mem (show r < C.length by omega)))
  have o2 := one_c (h.v.one _ (nd_mem hi))
  have k := h.v.cls _ (nd_mem (show r < C.length by omega)) _ (nd_mem hi) (by omega) hc
  refine ⟨r, hr, rfl, ?_, ?_, by rw [hc]; exact hn, k.1, k.2, hp, hc⟩
  · exact Decidable.byContradiction fun hk => by have := o1.2.1 hk; omega
  · exact Decidable.byContradiction fun hk => by have := o2.2.1 hk; omega
theorem mb_p (C : List Nd) (i : Nat) : (mb C i).e.p = (nd C i).p ∧ (mb C i).e.m = (nd C i).m := by
  cases e : fr C i (nd C i).c with
  | none => rw [mb_none e]; exact ⟨rfl, rfl⟩
  | some y => rw [mb_some e]; exact ⟨rfl, rfl⟩
/-- the kind tells whether it is a link -/
theorem Can.k3 {C : List Nd} (h : Can C) {i : Nat} (hi : i < C.length) : (mb C i).e.k = 3 ↔ ∃ y, fr C i (nd C i).c = some y := by
  cases e : fr C i (nd C i).c with
  | none =>
    rw [mb_none e]
    have := one_c (h.v.one _ (nd_mem hi))
    constructor
    · intro h3
      have : (nd C i).k = 3 := h3
      omega
    · rintro ⟨_, h⟩; cases h
  | some y => rw [mb_some e]; exact ⟨fun _ => ⟨y, rfl⟩, fun _ => rfl⟩

/-! members and trees -/
theorem nd_eq {x y : Nd} (h1 : x.k = y.k) (h2 : x.p = y.p) (h3 : x.m = y.m) (h4 : x.t = y.t) (h5 : x.d = y.d) (h6 : x.c = y.c) : x = y := by
  obtain ⟨k, p, m, t, d, c⟩ := x
  obtain ⟨k', p', m', t', d', c'⟩ := y
  dsimp only at *
  subst h1; subst h2; subst h3; subst h4; subst h5; subst h6; rfl
theorem rel_of {C D : List Nd} (_hC : Can C) (hD : Can D) (hm : mbs C = mbs D) {i j : Nat} (hij : i < j) (hj : j < C.length) (h : 0 < (nd C i).c ∧ (nd C i).c = (nd C j).c) : 0 < (nd D i).c ∧ (nd D i).c = (nd D j).c := by
  have hl : C.length = D.length := by rw [← mbs_len C, hm, mbs_len]
  have eq : ∀ k, k < C.length → mb C k = mb D k := fun k hk => by
    have h1 := mbs_at hk
    rw [hm, mbs_at (by omega)] at h1
    exact (Option.some.inj h1).symm
  have pe : ∀ k, k < C.length → (nd C k).p = (nd D k).p := fun k hk => by rw [← (mb_p C k).1, eq k hk, (mb_p D k).1]
  -- a link's target is the same node in both
  have key : ∀ k r, k < C.length → r < k → 0 < (nd C r).c → (nd C r).c = (nd C k).c → fr C r (nd C k).c = none → 0 < (nd D r).c ∧ (nd D r).c = (nd D k).c := by
    intro k r hk hr hp hc hn
    have e1 := fr_of (Nat.le_of_lt hk) hr hp hc hn
    have m1 := mb_some e1
    have k3 : (mb D k).e.k = 3 := by rw [← eq k hk, m1]; rfl
    obtain ⟨y, e2⟩ := (hD.k3 (by omega)).mp k3
    have m2 := mb_some e2
    obtain ⟨r', hr', rfl, hp', hc', _⟩ := fr_some (by omega) e2
    have e3 : (nd C r).p = (nd D r').p := by
      have : (mb C k).e.t = (mb D k).e.t := by rw [eq k hk]
      rw [m1, m2] at this
      exact this
    obtain rfl : r = r' := hD.at_ (by omega) (by omega) (by rw [← pe r (by omega)]; exact e3)
    exact ⟨hp', hc'⟩
  cases e : fr C i (nd C i).c with
  | none => exact key j i hj hij h.1 h.2 (by rw [← h.2]; exact e)
  | some y =>
    obtain ⟨r, hr, rfl, hp, hc, hn⟩ := fr_some (by omega) e
    have k1 := key i r (by omega) hr hp hc hn
    have k2 := key j r hj (by omega) hp (hc.trans h.2) (by rw [← h.2]; exact hn)
    exact ⟨by omega, by omega⟩
theorem Can.many {C : List Nd} (h : Can C) {i : Nat} (hi : i < C.length) : 0 < (nd C i).c ↔ Many (cs C) (nd C i).c := by
  rw [← num_pos, h.f _ (nd_mem hi)]
theorem cs_get {C : List Nd} {i : Nat} (hi : i < C.length) : (cs C)[i]? = some (nd C i).c := by unfold cs; rw [List.getElem?_map, List.getElem?_eq_getElem hi, nd_get hi]; rfl
theorem two_of {l : List Int} {c : Int} (h : 2 ≤ l.count c) {i : Nat} (_ : l[i]? = some c) : ∃ j, j ≠ i ∧ l[j]? = some c := by
  induction l generalizing i with
  | nil => simp at h
  | cons x l ih =>
    cases i with
    | zero =>
      have hx : x = c := by simpa using ‹(x :: l)[0]? = some c›
      subst hx
      have : 0 < l.count x := by rw [List.count_cons_self] at h; omega
      obtain ⟨j, hj, e⟩ := List.getElem_of_mem (List.count_pos_iff.mp this)
      exact ⟨j + 1, by omega, by rw [List.getElem?_cons_succ, List.getElem?_eq_getElem hj, e]⟩
    | succ i =>
      by_cases hx : x = c
      · exact ⟨0, by omega, by simp [hx]⟩
      · rw [List.count_cons_of_ne hx] at h
        obtain ⟨j, hj, e⟩ := ih h (i := i) (by simpa using ‹(x :: l)[i + 1]? = some c›)
        exact ⟨j + 1, by omega, by simpa using e⟩
theorem many_two {C : List Nd} (h : Can C) {i : Nat} (hi : i < C.length) : 0 < (nd C i).c ↔ ∃ j, j < C.length ∧ j ≠ i ∧ 0 < (nd C i).c ∧ (nd C j).c = (nd C i).c := by
  constructor
  · intro hp
    obtain ⟨j, hj, e⟩ := two_of ((h.many hi).mp hp).2 (cs_get hi)
    have hl : j < C.length := by
      have := (List.getElem?_eq_some_iff.mp e).1
      unfold cs at this
      rwa [List.length_map] at this
    rw [cs_get hl] at e
    exact ⟨j, hl, hj, hp, Option.some.inj e⟩
  · rintro ⟨_, _, _, h, _⟩; exact h
theorem rel_iff {C D : List Nd} (hC : Can C) (hD : Can D) (hm : mbs C = mbs D) {i j : Nat} (hi : i < C.length) (hj : j < C.length) : (0 < (nd C i).c ∧ (nd C i).c = (nd C j).c) ↔ (0 < (nd D i).c ∧ (nd D i).c = (nd D j).c) := by
  have hl : C.length = D.length := by rw [← mbs_len C, hm, mbs_len]
  have one : ∀ {C D : List Nd}, Can C → Can D → mbs C = mbs D → ∀ {i j : Nat}, i < C.length → j < C.length → i ≠ j → (0 < (nd C i).c ∧ (nd C i).c = (nd C j).c) → (0 < (nd D i).c ∧ (nd D i).c = (nd D j).c) := by
    intro C D hC hD hm i j hi hj hij h
    rcases Nat.lt_or_gt_of_ne hij with l | l
    · exact rel_of hC hD hm l hj h
    · have := rel_of hC hD hm l hi ⟨by omega, h.2.symm⟩
      exact ⟨by omega, this.2.symm⟩
  by_cases hij : i = j
  · subst hij
    constructor
    · rintro ⟨hp, _⟩
      obtain ⟨j, hj, hn, _, e⟩ := (many_two hC hi).mp hp
      exact ⟨(one hC hD hm hi hj (Ne.symm hn) ⟨hp, e.symm⟩).1, rfl⟩
    · rintro ⟨hp, _⟩
      obtain ⟨j, hj, hn, _, e⟩ := (many_two hD (by omega)).mp hp
      exact ⟨(one hD hC hm.symm (by omega) hj (Ne.symm hn) ⟨hp, e.symm⟩).1, rfl⟩
  · exact ⟨one hC hD hm hi hj hij, one hD hC hm.symm (by omega) (by omega) hij⟩
/-- the members tell the tree -/
theorem mbs_inj {C D : List Nd} (hC : Can C) (hD : Can D) (hm : mbs C = mbs D) : C = D := by
  have hl : C.length = D.length := by rw [← mbs_len C, hm, mbs_len]
  have eq : ∀ k, k < C.length → mb C k = mb D k := fun k hk => by
    have h1 := mbs_at hk
    rw [hm, mbs_at (by omega)] at h1
    exact (Option.some.inj h1).symm
  have hc : ∀ i, i < C.length → (nd C i).c = (nd D i).c := by
    intro i hi
    let f : Int → Int := fun a => (cs D).getD ((cs C).idxOf a) 0
    have lC : (cs C).length = C.length := by unfold cs; rw [List.length_map]
    have lD : (cs D).length = D.length := by unfold cs; rw [List.length_map]
    have hf : ∀ j, j < C.length → f (nd C j).c = (nd D j).c := by
      intro j hj
      have hmem : (nd C j).c ∈ cs C := List.mem_of_getElem? (cs_get hj)
      have hr : (cs C).idxOf (nd C j).c < C.length := by rw [← lC]; exact List.idxOf_lt_length_iff.mpr hmem
      have hre : (nd C ((cs C).idxOf (nd C j).c)).c = (nd C j).c := by
        have h1 := cs_get hr
        rw [List.getElem?_eq_getElem (by omega)] at h1
        rw [← Option.some.inj h1]
        exact List.getElem_idxOf _
      show (cs D).getD ((cs C).idxOf (nd C j).c) 0 = _
      rw [List.getD_eq_getElem?_getD, cs_get (by omega)]
      show (nd D ((cs C).idxOf (nd C j).c)).c = _
      generalize (cs C).idxOf (nd C j).c = r at hr hre
      by_cases hp : 0 < (nd C r).c
      · exact ((rel_iff hC hD hm hr hj).mp ⟨hp, hre⟩).2
      · have n1 : ¬ 0 < (nd D r).c := fun h => hp ((rel_iff hC hD hm hr hr).mpr ⟨h, rfl⟩).1
        have n2 : ¬ 0 < (nd D j).c := fun h => hp (by rw [hre]; exact ((rel_iff hC hD hm hj hj).mpr ⟨h, rfl⟩).1)
        have := (one_c (hD.v.one _ (nd_mem (show r < D.length by omega)))).1
        have := (one_c (hD.v.one _ (nd_mem (show j < D.length by omega)))).1
        omega
    have hmap : cs D = (cs C).map f := by
      refine List.ext_getElem? fun j => ?_
      by_cases hj : j < C.length
      · rw [List.getElem?_map, cs_get hj, cs_get (by omega)]
        show some _ = some _
        rw [hf j hj]
      · rw [List.getElem?_eq_none (by omega), List.getElem?_eq_none (by rw [List.length_map]; omega)]
    have mem_of : ∀ a ∈ cs C, ∃ j, j < C.length ∧ (nd C j).c = a := fun a ha => by
      obtain ⟨j, hj, rfl⟩ := List.getElem_of_mem ha
      have hj' : j < C.length := by omega
      refine ⟨j, hj', ?_⟩
      have := cs_get hj'
      rw [List.getElem?_eq_getElem hj] at this
      exact (Option.some.inj this).symm
    have hn := num_ren (l := cs C) (f := f) (fun a ha => by
        obtain ⟨j, hj, rfl⟩ := mem_of a ha
        rw [hf j hj]
        exact ⟨fun h => ((rel_iff hC hD hm hj hj).mpr ⟨h, rfl⟩).1, fun h => ((rel_iff hC hD hm hj hj).mp ⟨h, rfl⟩).1⟩)
      (fun a ha b hb h1 h2 e => by
        obtain ⟨j, hj, rfl⟩ := mem_of a ha
        obtain ⟨k, hk, rfl⟩ := mem_of b hb
        rw [hf j hj, hf k hk] at e
        exact ((rel_iff hC hD hm hj hk).mpr ⟨((rel_iff hC hD hm hj hj).mp ⟨h1, rfl⟩).1, e⟩).2)
      (a := (nd C i).c) (List.mem_of_getElem? (cs_get hi))
    rw [← hmap, hf i hi, hC.f _ (nd_mem hi), hD.f _ (nd_mem (show i < D.length by omega))] at hn
    exact hn.symm
  have non : ∀ i, i < C.length → fr C i (nd C i).c = none → nd C i = nd D i := by
    intro i hi e1
    have e := eq i hi
    have c := hc i hi
    cases e2 : fr D i (nd D i).c with
    | some y =>
      have := (hD.k3 (by omega)).mpr ⟨y, e2⟩
      rw [← e, hC.k3 hi, e1] at this
      obtain ⟨_, h⟩ := this; cases h
    | none =>
      rw [mb_none e1, mb_none e2] at e
      have h1 : entN (nd C i) = entN (nd D i) := congrArg Mb.e e
      have h2 : (nd C i).d = (nd D i).d := congrArg Mb.d e
      have hk : (nd C i).k = (nd D i).k := congrArg Ent.k h1
      have hp : (nd C i).p = (nd D i).p := congrArg Ent.p h1
      have hm' : (nd C i).m = (nd D i).m := congrArg Ent.m h1
      have ht : (nd C i).t = (nd D i).t := congrArg Ent.t h1
      exact nd_eq hk hp hm' ht h2 c
  have tg0 : ∀ {E : List Nd}, Can E → ∀ {i}, i < E.length → (nd E i).k = 1 → (nd E i).t = emp := by
    intro E hE i hi hk
    have h1 := tg_cases (ck_ok.mp (one_ck (hE.v.one _ (nd_mem hi)))).tg
    rcases h1.2.1 with h | h
    · exact h.2.2
    · have : (nd E i).k = 2 ∨ (nd E i).k = 3 := h.1
      omega
  refine List.ext_getElem hl fun i hi hi' => ?_
  rw [← nd_get hi, ← nd_get hi']
  cases e1 : fr C i (nd C i).c with
  | none => exact non i hi e1
  | some y =>
    have e := eq i hi
    have h3 := (hC.k3 hi).mpr ⟨y, e1⟩
    rw [e] at h3
    obtain ⟨z, e2⟩ := (hD.k3 hi').mp h3
    obtain ⟨r, hr, rfl, k1, k2, n1, m1, d1, _, _⟩ := hC.lnk hi e1
    obtain ⟨q, hq, rfl, k1', k2', n2, m2, d2, _, _⟩ := hD.lnk hi' e2
    have ht : (mb C i).e.t = (mb D i).e.t := by rw [e]
    have hp : (mb C i).e.p = (mb D i).e.p := by rw [e]
    have hm' : (mb C i).e.m = (mb D i).e.m := by rw [e]
    rw [(mb_p C i).1, (mb_p D i).1] at hp
    rw [(mb_p C i).2, (mb_p D i).2] at hm'
    rw [mb_some e1, mb_some e2] at ht
    have hrn := non r (by omega) n1
    obtain rfl : r = q := hD.at_ (by omega) (by omega) (by rw [← hrn]; exact ht)
    exact nd_eq (by rw [k2, k2']) hp hm' (by rw [tg0 hC hi k2, tg0 hD hi' k2']) (by rw [← d1, ← d2, hrn]) (hc i hi)
end Go.Proofs.YtmbimnnacjbdfaaGreatDoor.Flt
/-
  A slice of members (an entry: an integer, a string, an integer, a string, an integer; a slice of bytes) that came in, opened; what the reach says of the strings and of the bytes. Nothing of the program. (gen_MbsArg.py writes it.)
-/
namespace Go.Proofs.YtmbimnnacjbdfaaGreatDoor.Flt
open Go.RowKit Go.ChangeShapes Go.Deep

/-- a member in memory: the member; its data's address and capacity -/
structure MbS where
  n : Mb
  a : Option Addr
  cap : Nat
/-- its cells -/
abbrev mbC (k : Int) (p : ByteArray) (m : Int) (t : ByteArray) (s : Int) (a : Option Addr) (n cap : Nat) : List Value := [.int .i64 k, .string p, .int .i64 m, .string t, .int .i64 s, .slice a n cap]
abbrev mbV (y : MbS) : List Value := mbC y.n.e.k y.n.e.p y.n.e.m y.n.e.t y.n.e.s y.a y.n.d.length y.cap
instance : Inhabited MbS := ⟨⟨⟨⟨0, ⟨#[]⟩, 0, ⟨#[]⟩, 0⟩, []⟩, none, 0⟩⟩
/-- the cells of nodes -/
def mbCells (ys : List MbS) : List Value := ys.flatMap mbV
theorem mbCells_cons (y : MbS) (ys : List MbS) : mbCells (y :: ys) = mbV y ++ mbCells ys := by unfold mbCells; rw [List.flatMap_cons]
theorem mbCells_append (xs ys : List MbS) : mbCells (xs ++ ys) = mbCells xs ++ mbCells ys := by unfold mbCells; rw [List.flatMap_append]
theorem mbCells_len : ∀ ys : List MbS, (mbCells ys).length = ys.length * 6
  | [] => rfl
  | y :: ys => by
    rw [mbCells_cons, List.length_append, mbCells_len ys, List.length_cons]
    simp; omega
theorem mbCells_at : ∀ (ys : List MbS) (i : Nat) (y : MbS), ys[i]? = some y → ∀ j v, (mbV y)[j]? = some v → (mbCells ys)[i * 6 + j]? = some v
  | [], i, y, h, _, _, _ => by simp at h
  | q :: ys, i, y, h, j, v, hv => by
    rw [mbCells_cons]
    have hj : j < 6 := by
      have := (List.getElem?_eq_some_iff.mp hv).1
      simpa using this
    cases i with
    | zero =>
      simp at h; subst h
      rw [Nat.zero_mul, Nat.zero_add, List.getElem?_append_left (by simpa using hj)]
      exact hv
    | succ i =>
      rw [List.getElem?_append_right (by simp; omega)]
      have := mbCells_at ys i y (by simpa using h) j v hv
      rw [← this]
      congr 1
      simp; omega

/-- nodes lie at block b from off on -/
def MbsAt (w : World) (b off : Nat) (ys : List MbS) : Prop := ∀ i y, ys[i]? = some y → ∀ j v, (mbV y)[j]? = some v → w.cell? ⟨b, off + i * 6 + j, none⟩ = some v
theorem MbsAt.c {w : World} {b off : Nat} {ys : List MbS} (h : MbsAt w b off ys) {i : Nat} {y : MbS} (hi : ys[i]? = some y) :
    w.cell? ⟨b, off + i * 6, none⟩ = some (.int .i64 y.n.e.k) ∧ w.cell? ⟨b, off + i * 6 + 1, none⟩ = some (.string y.n.e.p) ∧ w.cell? ⟨b, off + i * 6 + 2, none⟩ = some (.int .i64 y.n.e.m) ∧ w.cell? ⟨b, off + i * 6 + 3, none⟩ = some (.string y.n.e.t) ∧ w.cell? ⟨b, off + i * 6 + 4, none⟩ = some (.int .i64 y.n.e.s) ∧ w.cell? ⟨b, off + i * 6 + 5, none⟩ = some (.slice y.a y.n.d.length y.cap) :=
  ⟨h i y hi 0 _ rfl, h i y hi 1 _ rfl, h i y hi 2 _ rfl, h i y hi 3 _ rfl, h i y hi 4 _ rfl, h i y hi 5 _ rfl⟩
theorem MbsAt.block {w w' : World} {b off : Nat} {ys : List MbS} (h : MbsAt w b off ys) (e : w'.heap[b]? = w.heap[b]?) : MbsAt w' b off ys := fun i y hi j v hv => by
  have := h i y hi j v hv
  unfold World.cell? at this ⊢
  rw [e]; exact this
theorem MbsAt.below {w w' : World} {b off B : Nat} {ys : List MbS} (h : MbsAt w b off ys) (hb : Below B w w') (hB : b < B) : MbsAt w' b off ys := h.block (hb.block b hB)
/-- nodes in a slice -/
def MbsIn (w : World) (a : Option Addr) (ys : List MbS) : Prop := ys = [] ∨ ∃ b off, a = some ⟨b, off, none⟩ ∧ b < w.heap.size ∧ MbsAt w b off ys
theorem MbsIn.below {w w' : World} {a : Option Addr} {ys : List MbS} (h : MbsIn w a ys) (hb : Below w.heap.size w w') : MbsIn w' a ys := by
  rcases h with h | ⟨b, off, h1, h2, h3⟩
  · exact .inl h
  · exact .inr ⟨b, off, h1, Nat.lt_of_lt_of_le h2 hb.size, h3.below hb h2⟩

/-- what a walk is told of one member -/
structure MbF (w : World) (y : MbS) : Prop where
  k : (Lit.int .i64 y.n.e.k).wf = true
  p : y.n.e.p.size ≤ 140737488355328
  m : (Lit.int .i64 y.n.e.m).wf = true
  t : y.n.e.t.size ≤ 140737488355328
  s : (Lit.int .i64 y.n.e.s).wf = true
  d : ArgInts .u8 w y.a y.n.d.length y.cap y.n.d
  l : y.n.d.length ≤ 140737488355328
theorem MbF.below {w w' : World} {y : MbS} (h : MbF w y) (hb : Below w.heap.size w w') : MbF w' y := ⟨h.k, h.p, h.m, h.t, h.s, h.d.below hb, h.l⟩
/-- WHAT A WALK IS TOLD OF A SLICE OF NODES THAT CAME IN -/
structure ArgMbs (w : World) (a : Option Addr) (len cap : Nat) (ys : List MbS) : Prop where
  n : ys.length = len
  c : len ≤ cap
  m : cap ≤ maxLen
  r : MbsIn w a ys
  s : ∀ y ∈ ys, MbF w y
theorem ArgMbs.below {w w' : World} {a : Option Addr} {len cap : Nat} {ys : List MbS} (h : ArgMbs w a len cap ys) (hb : Below w.heap.size w w') : ArgMbs w' a len cap ys := ⟨h.n, h.c, h.m, h.r.below hb, fun y hy => (h.s y hy).below hb⟩
theorem ArgMbs.get {w : World} {a : Option Addr} {len cap : Nat} {ys : List MbS} (h : ArgMbs w a len cap ys) (i : Nat) (hi : i < len) :
    ∃ b off y, a = some ⟨b, off, none⟩ ∧ b < w.heap.size ∧ ys[i]? = some y ∧ MbF w y ∧ MbsAt w b off ys := by
  have hlt : i < ys.length := by rw [h.n]; exact hi
  have hg : ys[i]? = some ys[i] := List.getElem?_eq_getElem hlt
  rcases h.r with h0 | ⟨b, off, h1, h2, h3⟩
  · simp [h0] at hlt
  · exact ⟨b, off, _, h1, h2, hg, h.s _ (List.getElem_mem _), h3⟩
/-- the nodes alone -/
def mms (ys : List MbS) : List Mb := ys.map MbS.n
theorem mms_len (ys : List MbS) : (mms ys).length = ys.length := by unfold mms; rw [List.length_map]
theorem mms_at {ys : List MbS} {i : Nat} {y : MbS} (h : ys[i]? = some y) : (mms ys)[i]? = some y.n := by unfold mms; rw [List.getElem?_map, h]; rfl

section
variable {H : Type} {enc : TypeId × Value → H} {P : Program} {w : World} {base : Nat} {held : Bool}

theorem open_mbs {t e q : TypeId} {g0 g1 f0 f1 f2 f3 f4 : Field} {a : Option Addr} {len cap : Nat} {d : DataW H} {p : List MemPlace}
    (ht : P.underlying t = some (.slice e)) (he : P.underlying e = some (.struct #[g0, g1])) (hg : P.underlying g0.type = some (.struct #[f0, f1, f2, f3, f4])) (h0 : P.underlying f0.type = some (.int .i64)) (h1 : P.underlying f1.type = some .string) (h2 : P.underlying f2.type = some (.int .i64)) (h3 : P.underlying f3.type = some .string) (h4 : P.underlying f4.type = some (.int .i64)) (h5 : P.underlying g1.type = some (.slice q)) (hq : P.underlying q = some (.int .u8))
    (hs : (P.cellsOf e, f0.offset, P.cellsOf f0.type, f1.offset, P.cellsOf f1.type, f2.offset, P.cellsOf f2.type, f3.offset, P.cellsOf f3.type, f4.offset, P.cellsOf f4.type, g1.offset, P.cellsOf g1.type) = (6, 0, 1, 1, 1, 2, 1, 3, 1, 4, 1, 5, 1)) (hsg : (g0.offset, P.cellsOf g0.type) = (0, 5)) (hsq : P.cellsOf q = 1) (hbq : P.bytesOf q = 1)
    (h : DataW.Trod enc P w base (fun _ => true) held t (.slice a len cap) d p) (hw : ∀ n ∈ d.weights P t, n ≤ reachBytes) : ∃ ys, ArgMbs w a len cap ys := by
  simp only [Prod.mk.injEq] at hs hsg
  obtain ⟨s, o0, z0, o1, z1, o2, z2, o3, z3, o4, z4, o5, z5⟩ := hs
  obtain ⟨og, zg⟩ := hsg
  obtain ⟨fuel, hf⟩ := h
  rcases open_slice ht hf with ⟨hcs, _⟩ | ⟨x, len', cap', m, n, D, Pl, hcs, _, hl, hm, hmm, hd, hx⟩
  · simp [Value.cells] at hcs
    obtain ⟨rfl, rfl, rfl⟩ := hcs
    exact ⟨[], rfl, Nat.le_refl _, Nat.zero_le _, .inl rfl, fun _ h => by cases h⟩
  · simp [Value.cells] at hcs
    obtain ⟨rfl, rfl, rfl⟩ := hcs
    simp only [if_true] at hmm
    simp only [Prod.mk.injEq] at hd
    obtain ⟨rfl, _⟩ := hd
    have hreach := reachBytes_lt
    have each : ∀ i, i < m → ∃ y : MbS, (∀ j v, (mbV y)[j]? = some v → w.cell? (x.add (i * 6 + j)) = some v) ∧ (i < len → MbF w y) := by
      intro i hi
      obtain ⟨cs', g1', g2⟩ := hx i hi
      rw [s] at g1'
      obtain ⟨_, hlen, hcell⟩ := World.cells?_some g1'
      obtain ⟨xs, k, _, hxe, _, hxl, hfd⟩ := DataW.trod_struct he g2
      match cs', hlen with
      | [v0, v1, v2, v3, v4, v5], _ =>
      match xs, hxl with
      | [yg, y5], _ =>
      have ug := hfd 0 g0 rfl
      have u5 := hfd 1 g1 rfl
      rw [og, zg] at ug; rw [o5, z5] at u5
      simp at ug u5
      obtain ⟨xs', k', _, hxg, _, hxl', hfd'⟩ := DataW.trod_struct hg ug
      match xs', hxl' with
      | [y0, y1, y2, y3, y4], _ =>
      have u0 := hfd' 0 f0 rfl
      have u1 := hfd' 1 f1 rfl
      have u2 := hfd' 2 f2 rfl
      have u3 := hfd' 3 f3 rfl
      have u4 := hfd' 4 f4 rfl
      rw [o0, z0] at u0; rw [o1, z1] at u1; rw [o2, z2] at u2; rw [o3, z3] at u3; rw [o4, z4] at u4
      simp at u0 u1 u2 u3 u4
      obtain ⟨k0, e0, x0, w0⟩ := DataW.trod_int h0 u0
      obtain ⟨k1, e1, x1, _⟩ := DataW.trod_string h1 u1
      obtain ⟨k2, e2, x2, w2⟩ := DataW.trod_int h2 u2
      obtain ⟨k3, e3, x3, _⟩ := DataW.trod_string h3 u3
      obtain ⟨k4, e4, x4, w4⟩ := DataW.trod_int h4 u4
      simp only [List.cons.injEq, and_true] at e0 e1 e2 e3 e4
      subst e0; subst e1; subst e2; subst e3; subst e4
      have c : ∀ j (h : j < 6), w.cell? (x.add (i * 6 + j)) = [Value.int .i64 k0, .string k1, .int .i64 k2, .string k3, .int .i64 k4, v5][j]? := fun j hj => by
        rw [← add_add]
        exact hcell j hj
      simp only [Prod.mk.injEq] at hxe
      have hyg : yg.1 = .agg [.lit (.int .i64 k0), .lit (.string k1.data.toList), .lit (.int .i64 k2), .lit (.string k3.data.toList), .lit (.int .i64 k4)] := by
        rw [hxg, x0, x1, x2, x3, x4]; rfl
      have hmem : i < len → ∀ z, z ∈ (D i).weights P e → z ≤ reachBytes := fun hil z hz => hw z (by
        simp only [DataW.weights, ht, List.mem_cons, List.mem_append]
        exact .inr (.inl (weightsAll_mem (x := D i) hz _ (List.mem_map.2 ⟨i, by simpa using hil, rfl⟩))))
      have hD : D i = .agg [.agg [.lit (.int .i64 k0), .lit (.string k1.data.toList), .lit (.int .i64 k2), .lit (.string k3.data.toList), .lit (.int .i64 k4)], y5.1] := by
        rw [hxe.1, ← hyg]; rfl
      rcases open_ints h5 hq hsq u5 with ⟨e5, x5⟩ | ⟨a5, l5, c5, zs, e5, _, hl5, hm5, hz5, x5, hcl, hwz⟩
      · simp only [List.cons.injEq, and_true] at e5
        subst e5
        refine ⟨⟨⟨⟨k0, k1, k2, k3, k4⟩, []⟩, none, 0⟩, fun j v hv => ?_, fun hil => ?_⟩
        · rw [c j (by simpa using (List.getElem?_eq_some_iff.mp hv).1)]; exact hv
        · have b1 := hmem hil k1.data.toList.length (by rw [hD]; simp [DataW.weights, DataW.weightsEach, he, hg])
          have b3 := hmem hil k3.data.toList.length (by rw [hD]; simp [DataW.weights, DataW.weightsEach, he, hg])
          rw [← Lib.size_eq] at b1 b3
          exact ⟨w0, by show k1.size ≤ _; omega, w2, by show k3.size ≤ _; omega, w4, ArgInts.nil, Nat.zero_le _⟩
      · simp only [List.cons.injEq, and_true] at e5
        subst e5
        have hzl : zs.length = c5 := by simpa using hz5
        have htl : (zs.take l5).length = l5 := by rw [List.length_take]; omega
        refine ⟨⟨⟨⟨k0, k1, k2, k3, k4⟩, zs.take l5⟩, some a5, c5⟩, fun j v hv => ?_, fun hil => ?_⟩
        · rw [c j (by simpa using (List.getElem?_eq_some_iff.mp hv).1), ← hv]
          show _ = (mbC k0 k1 k2 k3 k4 (some a5) (zs.take l5).length c5)[j]?
          rw [htl]
        · have b1 := hmem hil k1.data.toList.length (by rw [hD]; simp [DataW.weights, DataW.weightsEach, he, hg])
          have b3 := hmem hil k3.data.toList.length (by rw [hD]; simp [DataW.weights, DataW.weightsEach, he, hg])
          have b5 := hmem hil (((lits (H := H) .u8 (zs.take l5)).length + (lits (H := H) .u8 (zs.drop l5)).length) * P.bytesOf q) (by rw [hD, x5]; simp [DataW.weights, DataW.weightsEach, he, hg, h5])
          rw [← Lib.size_eq] at b1 b3
          rw [hbq] at b5
          unfold lits at b5
          rw [List.length_map, List.length_map] at b5
          exact ⟨w0, by show k1.size ≤ _; omega, w2, by show k3.size ≤ _; omega, w4, by show ArgInts _ _ _ (zs.take l5).length _ _; rw [htl]; exact ArgInts.mk' hl5 hm5 hzl hcl hwz, by show (zs.take l5).length ≤ _; omega⟩
    obtain ⟨A, hA⟩ := choose_lt each
    refine ⟨(List.range len).map A, by simp, hl, hm, ?_, fun y hy => ?_⟩
    · rcases Nat.eq_zero_or_pos len with h0' | h0'
      · subst h0'; exact .inl rfl
      · have hc0 := (hA 0 (by omega)).1 0 _ rfl
        obtain ⟨b, off, spot⟩ := x
        have hspot : spot = none := by simpa [Addr.add] using World.cell?_spot hc0
        subst hspot
        refine .inr ⟨b, off, rfl, ?_, fun i y hy j v hv => ?_⟩
        · exact World.block_lt_of_cell? w (⟨b, off, none⟩ : Addr) (by simpa [Go.WideShapes.add_plain] using hc0)
        · rw [List.getElem?_map] at hy
          have hi : i < len := by
            rcases Nat.lt_or_ge i len with h | h
            · exact h
            · rw [List.getElem?_eq_none (by simpa using h)] at hy; cases hy
          rw [List.getElem?_range hi] at hy
          obtain rfl := Option.some.inj hy
          have := (hA i (by omega)).1 j v hv
          rw [Go.WideShapes.add_plain] at this
          rw [Nat.add_assoc]; exact this
    · obtain ⟨r, hr', rfl⟩ := List.mem_map.1 hy
      have hlt : r < len := by simpa using hr'
      exact (hA r (by omega)).2 hlt
end
end Go.Proofs.YtmbimnnacjbdfaaGreatDoor.Flt
