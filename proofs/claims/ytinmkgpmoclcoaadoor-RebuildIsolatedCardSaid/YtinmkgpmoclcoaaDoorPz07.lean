/-
  Layer 14: plain mathematics: the members of a canonical list of nodes. No memory.
-/
import Derived.Test.YtinmkgpmoclcoaaDoorPz05
import Derived.Test.YtinmkgpmoclcoaaDoorPz06
namespace Go.Proofs.YtinmkgpmoclcoaaDoor.Flt
open Go.RowKit Go.Proofs.YtinmkgpmoclcoaaDoor.Fit Pnm Tre

/-- a member -/
structure Mb where
  e : Ent
  d : List Int
/-- of class c, which is no class of its own -/
def mt (c : Int) (y : Nd) : Bool := decide (0 < y.c ∧ y.c = c)
/-- the first node of the class among those before place i -/
def fr (C : List Nd) (i : Nat) (c : Int) : Option Nd := (C.take i).find? (mt c)
def lnk (x : Nd) (q : ByteArray) : Mb := ⟨⟨3, x.p, x.m, q, 0⟩, []⟩
def own1 (x : Nd) : Mb := ⟨entN x, x.d⟩
def mb (C : List Nd) (i : Nat) : Mb := match fr C i (nd C i).c with | some y => lnk (nd C i) y.p | none => own1 (nd C i)
def mbs (C : List Nd) : List Mb := (List.range C.length).map (mb C)
theorem mbs_len (C : List Nd) : (mbs C).length = C.length := by unfold mbs; rw [List.length_map, List.length_range]
theorem mbs_at {C : List Nd} {i : Nat} (h : i < C.length) : (mbs C)[i]? = some (mb C i) := by
  unfold mbs; rw [List.getElem?_map, List.getElem?_range h]; rfl
theorem mb_some {C : List Nd} {i : Nat} {y : Nd} (h : fr C i (nd C i).c = some y) : mb C i = lnk (nd C i) y.p := by unfold mb; rw [h]
theorem mb_none {C : List Nd} {i : Nat} (h : fr C i (nd C i).c = none) : mb C i = own1 (nd C i) := by unfold mb; rw [h]

theorem fr_none {C : List Nd} {i : Nat} {c : Int} (hi : i ≤ C.length) : fr C i c = none ↔ ∀ j, j < i → ¬ (0 < (nd C j).c ∧ (nd C j).c = c) := by
  unfold fr
  rw [List.find?_eq_none]
  constructor
  · intro h j hj
    have hl : j < C.length := by omega
    have := h (nd C j) (by rw [nd_get hl]; exact List.mem_take_iff_getElem.mpr ⟨j, by omega, rfl⟩)
    simpa [mt] using this
  · intro h y hy
    obtain ⟨j, hj, rfl⟩ := List.mem_take_iff_getElem.mp hy
    have := h j (by omega)
    rw [nd_get (by omega)] at this
    simpa [mt] using this
theorem fr_some {C : List Nd} {i : Nat} {c : Int} {y : Nd} (hi : i ≤ C.length) (h : fr C i c = some y) : ∃ r, r < i ∧ nd C r = y ∧ 0 < y.c ∧ y.c = c ∧ fr C r c = none := by
  unfold fr at h
  obtain ⟨h1, r, hr, h2, h3⟩ := List.find?_eq_some_iff_getElem.mp h
  have h1 : 0 < y.c ∧ y.c = c := of_decide_eq_true h1
  have hr' : r < i ∧ r < C.length := by rw [List.length_take] at hr; omega
  rw [List.getElem_take] at h2
  refine ⟨r, hr'.1, by rw [nd_get hr'.2]; exact h2, h1.1, h1.2, ?_⟩
  refine (fr_none (by omega)).mpr fun j hj hm => ?_
  have := h3 j hj
  rw [List.getElem_take, ← nd_get (by omega)] at this
  simp [mt] at this
  rcases this with h | h
  · have := hm.1; omega
  · exact h hm.2
theorem fr_of {C : List Nd} {i r : Nat} {c : Int} (hi : i ≤ C.length) (hr : r < i) (hp : 0 < (nd C r).c) (hc : (nd C r).c = c) (hn : fr C r c = none) : fr C i c = some (nd C r) := by
  unfold fr
  refine List.find?_eq_some_iff_getElem.mpr ⟨decide_eq_true ⟨hp, hc⟩, r, by rw [List.length_take]; omega, by rw [List.getElem_take, nd_get (by omega)], fun j hj => ?_⟩
  have := (fr_none (by omega)).mp hn j hj
  rw [List.getElem_take, ← nd_get (by omega)]
  simp only [mt, Bool.not_eq_true', decide_eq_false_iff_not]
  exact this
theorem fr_step {C : List Nd} {i : Nat} (hi : i < C.length) (c : Int) : fr C (i + 1) c = (fr C i c).or (if 0 < (nd C i).c ∧ (nd C i).c = c then some (nd C i) else none) := by
  unfold fr
  rw [List.take_add_one, List.getElem?_eq_getElem hi, List.find?_append, ← nd_get hi]
  congr 1
  by_cases h : 0 < (nd C i).c ∧ (nd C i).c = c
  · rw [if_pos h]; have h1 : mt c (nd C i) = true := decide_eq_true h
    simp [h1]
  · rw [if_neg h]; have h1 : mt c (nd C i) = false := decide_eq_false h
    simp [h1]

/-! a canonical valid list -/
structure Can (C : List Nd) : Prop where
  v : Val C
  s : Srt C
  f : ∀ x ∈ C, num (cs C) x.c = x.c
theorem can_of {l : List Nd} (h : Val l) : Can (canon l) := by
  refine ⟨canon_val h, srt_canon l, fun x hx => ?_⟩
  have e : (canon l).map (ren (canon l)) = canon l := by
    have := canon_canon l
    unfold canon at this ⊢
    rw [srt_id (by have := srt_canon l; unfold canon at this; exact this)] at this
    exact this
  obtain ⟨i, hi, rfl⟩ := List.getElem_of_mem hx
  have h2 : ((canon l).map (ren (canon l)))[i]? = (canon l)[i]? := by rw [e]
  rw [List.getElem?_map, List.getElem?_eq_getElem hi] at h2
  have h3 := Option.some.inj h2
  exact congrArg Nd.c h3
theorem Can.lt {C : List Nd} (h : Can C) {i j : Nat} (hij : i < j) (hj : j < C.length) : cmpZ (key (nd C i)) (key (nd C j)) = -1 := by
  have h1 := List.pairwise_iff_getElem.mp h.s i j (by omega) hj hij
  have h2 := List.pairwise_iff_getElem.mp h.v.apt i j (by omega) hj hij
  rw [← nd_get (show i < C.length by omega), ← nd_get hj] at h1 h2
  rcases cmp_cases (key (nd C i)) (key (nd C j)) with e | e | e
  · exact e
  · exact absurd (nums_inj ((cmp_eq _ _).mp e)) h2
  · unfold Le at h1; omega
theorem Can.at_ {C : List Nd} (h : Can C) {i j : Nat} (hi : i < C.length) (hj : j < C.length) (e : (nd C i).p = (nd C j).p) : i = j := by
  rcases Nat.lt_trichotomy i j with l | l | l
  · have := h.lt l hj
    unfold key at this
    rw [e, (cmp_eq _ _).mpr rfl] at this; omega
  · exact l
  · have := h.lt l hi
    unfold key at this
    rw [e, (cmp_eq _ _).mpr rfl] at this; omega
/-- the parent comes before -/
theorem Can.par {C : List Nd} (h : Can C) {i : Nat} (hi : i < C.length) : parZ (key (nd C i)) = [] ∨ ∃ j, j < i ∧ (nd C j).k = 0 ∧ key (nd C j) = parZ (key (nd C i)) := by
  rcases h.v.par _ (nd_mem hi) with e | ⟨y, hy, hk, e⟩
  · exact .inl e
  obtain ⟨j, hj, rfl⟩ := nd_of hy
  rcases (par_bas (key (nd C i))).2 with ⟨_, e', _⟩ | ⟨_, e'⟩
  · exact .inl e'
  refine .inr ⟨j, ?_, hk, e⟩
  have h1 : cmpZ (key (nd C j)) (key (nd C i)) = -1 := by rw [e']; rw [e]; exact cmp_pre _ _ _
  rcases Nat.lt_or_ge j i with l | l
  · exact l
  · rcases Nat.eq_or_lt_of_le l with l | l
    · subst l; rw [(cmp_eq _ _).mpr rfl] at h1; omega
    · have := h.lt l hj
      rw [cmp_neg] at this; omega
theorem one_ck {x : Nd} (h1 : oneE x = 0) : ckE (entN x) = 0 := by
  unfold oneE at h1
  split at h1
  · omega
  · split at h1
    · rename_i h2; exact absurd h1 h2
    · rename_i h2; exact Decidable.byContradiction h2
/-- a member's entry is valid -/
theorem Can.ck {C : List Nd} (h : Can C) {i : Nat} (hi : i < C.length) : ckE (mb C i).e = 0 := by
  have h1 := (h.v.one _ (nd_mem hi))
  have hck := one_ck h1
  cases e : fr C i (nd C i).c with
  | none => rw [mb_none e]; exact hck
  | some y =>
    rw [mb_some e]
    obtain ⟨r, hr, rfl, hp, hc, _⟩ := fr_some (Nat.le_of_lt hi) e
    have hy := one_c (h.v.one _ (nd_mem (show r < C.length by omega)))
    have hok := ck_ok.mp hck
    refine ck_ok.mpr ⟨by show (0 : Int) ≤ 3; decide, by show (3 : Int) < 4; decide, hok.path, hok.m0, hok.m1, fun h => absurd h (by show ¬ (3 : Int) = 2; decide), ?_, rfl⟩
    show tgE 3 (nd C r).p = 0
    unfold tgE
    rw [if_neg (by decide), if_pos rfl]
    exact hy.2.2.2.2.2
/-- what a link is -/
theorem Can.lnk {C : List Nd} (h : Can C) {i : Nat} (hi : i < C.length) {y : Nd} (e : fr C i (nd C i).c = some y) : ∃ r, r < i ∧ nd C r = y ∧ (nd C r).k = 1 ∧ (nd C i).k = 1 ∧ fr C r (nd C r).c = none ∧ (nd C r).m = (nd C i).m ∧ (nd C r).d = (nd C i).d ∧ 0 < (nd C r).c ∧ (nd C r).c = (nd C i).c := by
  obtain ⟨r, hr, rfl, hp, hc, hn⟩ := fr_some (Nat.le_of_lt hi) e
  have o1 := one_c (h.v.one _ (nd_mem (show r < C.length by omega)))
  have o2 := one_c (h.v.one _ (nd_mem hi))
  have k := h.v.cls _ (nd_mem (show r < C.length by omega)) _ (nd_mem hi) (by omega) hc
  refine ⟨r, hr, rfl, ?_, ?_, by rw [hc]; exact hn, k.1, k.2, hp, hc⟩
  · exact Decidable.byContradiction fun hk => by have := o1.2.1 hk; omega
  · exact Decidable.byContradiction fun hk => by have := o2.2.1 hk; omega
theorem mb_p (C : List Nd) (i : Nat) : (mb C i).e.p = (nd C i).p ∧ (mb C i).e.m = (nd C i).m := by
  cases e : fr C i (nd C i).c with
  | none => rw [mb_none e]; exact ⟨rfl, rfl⟩
  | some y => rw [mb_some e]; exact ⟨rfl, rfl⟩
/-- the kind tells whether it is a link -/
theorem Can.k3 {C : List Nd} (h : Can C) {i : Nat} (hi : i < C.length) : (mb C i).e.k = 3 ↔ ∃ y, fr C i (nd C i).c = some y := by
  cases e : fr C i (nd C i).c with
  | none =>
    rw [mb_none e]
    have := one_c (h.v.one _ (nd_mem hi))
    constructor
    · intro h3
      have : (nd C i).k = 3 := h3
      omega
    · rintro ⟨_, h⟩; cases h
  | some y => rw [mb_some e]; exact ⟨fun _ => ⟨y, rfl⟩, fun _ => rfl⟩

/-! members and trees -/
theorem nd_eq {x y : Nd} (h1 : x.k = y.k) (h2 : x.p = y.p) (h3 : x.m = y.m) (h4 : x.t = y.t) (h5 : x.d = y.d) (h6 : x.c = y.c) : x = y := by
  obtain ⟨k, p, m, t, d, c⟩ := x
  obtain ⟨k', p', m', t', d', c'⟩ := y
  dsimp only at *
  subst h1; subst h2; subst h3; subst h4; subst h5; subst h6; rfl
theorem rel_of {C D : List Nd} (_hC : Can C) (hD : Can D) (hm : mbs C = mbs D) {i j : Nat} (hij : i < j) (hj : j < C.length) (h : 0 < (nd C i).c ∧ (nd C i).c = (nd C j).c) : 0 < (nd D i).c ∧ (nd D i).c = (nd D j).c := by
  have hl : C.length = D.length := by rw [← mbs_len C, hm, mbs_len]
  have eq : ∀ k, k < C.length → mb C k = mb D k := fun k hk => by
    have h1 := mbs_at hk
    rw [hm, mbs_at (by omega)] at h1
    exact (Option.some.inj h1).symm
  have pe : ∀ k, k < C.length → (nd C k).p = (nd D k).p := fun k hk => by rw [← (mb_p C k).1, eq k hk, (mb_p D k).1]
  -- a link's target is the same node in both
  have key : ∀ k r, k < C.length → r < k → 0 < (nd C r).c → (nd C r).c = (nd C k).c → fr C r (nd C k).c = none → 0 < (nd D r).c ∧ (nd D r).c = (nd D k).c := by
    intro k r hk hr hp hc hn
    have e1 := fr_of (Nat.le_of_lt hk) hr hp hc hn
    have m1 := mb_some e1
    have k3 : (mb D k).e.k = 3 := by rw [← eq k hk, m1]; rfl
    obtain ⟨y, e2⟩ := (hD.k3 (by omega)).mp k3
    have m2 := mb_some e2
    obtain ⟨r', hr', rfl, hp', hc', _⟩ := fr_some (by omega) e2
    have e3 : (nd C r).p = (nd D r').p := by
      have : (mb C k).e.t = (mb D k).e.t := by rw [eq k hk]
      rw [m1, m2] at this
      exact this
    obtain rfl : r = r' := hD.at_ (by omega) (by omega) (by rw [← pe r (by omega)]; exact e3)
    exact ⟨hp', hc'⟩
  cases e : fr C i (nd C i).c with
  | none => exact key j i hj hij h.1 h.2 (by rw [← h.2]; exact e)
  | some y =>
    obtain ⟨r, hr, rfl, hp, hc, hn⟩ := fr_some (by omega) e
    have k1 := key i r (by omega) hr hp hc hn
    have k2 := key j r hj (by omega) hp (hc.trans h.2) (by rw [← h.2]; exact hn)
    exact ⟨by omega, by omega⟩
theorem Can.many {C : List Nd} (h : Can C) {i : Nat} (hi : i < C.length) : 0 < (nd C i).c ↔ Many (cs C) (nd C i).c := by
  rw [← num_pos, h.f _ (nd_mem hi)]
theorem cs_get {C : List Nd} {i : Nat} (hi : i < C.length) : (cs C)[i]? = some (nd C i).c := by unfold cs; rw [List.getElem?_map, List.getElem?_eq_getElem hi, nd_get hi]; rfl
theorem two_of {l : List Int} {c : Int} (h : 2 ≤ l.count c) {i : Nat} (_ : l[i]? = some c) : ∃ j, j ≠ i ∧ l[j]? = some c := by
  induction l generalizing i with
  | nil => simp at h
  | cons x l ih =>
    cases i with
    | zero =>
      have hx : x = c := by simpa using ‹(x :: l)[0]? = some c›
      subst hx
      have : 0 < l.count x := by rw [List.count_cons_self] at h; omega
      obtain ⟨j, hj, e⟩ := List.getElem_of_mem (List.count_pos_iff.mp this)
      exact ⟨j + 1, by omega, by rw [List.getElem?_cons_succ, List.getElem?_eq_getElem hj, e]⟩
    | succ i =>
      by_cases hx : x = c
      · exact ⟨0, by omega, by simp [hx]⟩
      · rw [List.count_cons_of_ne hx] at h
        obtain ⟨j, hj, e⟩ := ih h (i := i) (by simpa using ‹(x :: l)[i + 1]? = some c›)
        exact ⟨j + 1, by omega, by simpa using e⟩
theorem many_two {C : List Nd} (h : Can C) {i : Nat} (hi : i < C.length) : 0 < (nd C i).c ↔ ∃ j, j < C.length ∧ j ≠ i ∧ 0 < (nd C i).c ∧ (nd C j).c = (nd C i).c := by
  constructor
  · intro hp
    obtain ⟨j, hj, e⟩ := two_of ((h.many hi).mp hp).2 (cs_get hi)
    have hl : j < C.length := by
      have := (List.getElem?_eq_some_iff.mp e).1
      unfold cs at this
      rwa [List.length_map] at this
    rw [cs_get hl] at e
    exact ⟨j, hl, hj, hp, Option.some.inj e⟩
  · rintro ⟨_, _, _, h, _⟩; exact h
theorem rel_iff {C D : List Nd} (hC : Can C) (hD : Can D) (hm : mbs C = mbs D) {i j : Nat} (hi : i < C.length) (hj : j < C.length) : (0 < (nd C i).c ∧ (nd C i).c = (nd C j).c) ↔ (0 < (nd D i).c ∧ (nd D i).c = (nd D j).c) := by
  have hl : C.length = D.length := by rw [← mbs_len C, hm, mbs_len]
  have one : ∀ {C D : List Nd}, Can C → Can D → mbs C = mbs D → ∀ {i j : Nat}, i < C.length → j < C.length → i ≠ j → (0 < (nd C i).c ∧ (nd C i).c = (nd C j).c) → (0 < (nd D i).c ∧ (nd D i).c = (nd D j).c) := by
    intro C D hC hD hm i j hi hj hij h
    rcases Nat.lt_or_gt_of_ne hij with l | l
    · exact rel_of hC hD hm l hj h
    · have := rel_of hC hD hm l hi ⟨by omega, h.2.symm⟩
      exact ⟨by omega, this.2.symm⟩
  by_cases hij : i = j
  · subst hij
    constructor
    · rintro ⟨hp, _⟩
      obtain ⟨j, hj, hn, _, e⟩ := (many_two hC hi).mp hp
      exact ⟨(one hC hD hm hi hj (Ne.symm hn) ⟨hp, e.symm⟩).1, rfl⟩
    · rintro ⟨hp, _⟩
      obtain ⟨j, hj, hn, _, e⟩ := (many_two hD (by omega)).mp hp
      exact ⟨(one hD hC hm.symm (by omega) hj (Ne.symm hn) ⟨hp, e.symm⟩).1, rfl⟩
  · exact ⟨one hC hD hm hi hj hij, one hD hC hm.symm (by omega) (by omega) hij⟩
/-- the members tell the tree -/
theorem mbs_inj {C D : List Nd} (hC : Can C) (hD : Can D) (hm : mbs C = mbs D) : C = D := by
  have hl : C.length = D.length := by rw [← mbs_len C, hm, mbs_len]
  have eq : ∀ k, k < C.length → mb C k = mb D k := fun k hk => by
    have h1 := mbs_at hk
    rw [hm, mbs_at (by omega)] at h1
    exact (Option.some.inj h1).symm
  have hc : ∀ i, i < C.length → (nd C i).c = (nd D i).c := by
    intro i hi
    let f : Int → Int := fun a => (cs D).getD ((cs C).idxOf a) 0
    have lC : (cs C).length = C.length := by unfold cs; rw [List.length_map]
    have lD : (cs D).length = D.length := by unfold cs; rw [List.length_map]
    have hf : ∀ j, j < C.length → f (nd C j).c = (nd D j).c := by
      intro j hj
      have hmem : (nd C j).c ∈ cs C := List.mem_of_getElem? (cs_get hj)
      have hr : (cs C).idxOf (nd C j).c < C.length := by rw [← lC]; exact List.idxOf_lt_length_iff.mpr hmem
      have hre : (nd C ((cs C).idxOf (nd C j).c)).c = (nd C j).c := by
        have h1 := cs_get hr
        rw [List.getElem?_eq_getElem (by omega)] at h1
        rw [← Option.some.inj h1]
        exact List.getElem_idxOf _
      show (cs D).getD ((cs C).idxOf (nd C j).c) 0 = _
      rw [List.getD_eq_getElem?_getD, cs_get (by omega)]
      show (nd D ((cs C).idxOf (nd C j).c)).c = _
      generalize (cs C).idxOf (nd C j).c = r at hr hre
      by_cases hp : 0 < (nd C r).c
      · exact ((rel_iff hC hD hm hr hj).mp ⟨hp, hre⟩).2
      · have n1 : ¬ 0 < (nd D r).c := fun h => hp ((rel_iff hC hD hm hr hr).mpr ⟨h, rfl⟩).1
        have n2 : ¬ 0 < (nd D j).c := fun h => hp (by rw [hre]; exact ((rel_iff hC hD hm hj hj).mpr ⟨h, rfl⟩).1)
        have := (one_c (hD.v.one _ (nd_mem (show r < D.length by omega)))).1
        have := (one_c (hD.v.one _ (nd_mem (show j < D.length by omega)))).1
        omega
    have hmap : cs D = (cs C).map f := by
      refine List.ext_getElem? fun j => ?_
      by_cases hj : j < C.length
      · rw [List.getElem?_map, cs_get hj, cs_get (by omega)]
        show some _ = some _
        rw [hf j hj]
      · rw [List.getElem?_eq_none (by omega), List.getElem?_eq_none (by rw [List.length_map]; omega)]
    have mem_of : ∀ a ∈ cs C, ∃ j, j < C.length ∧ (nd C j).c = a := fun a ha => by
      obtain ⟨j, hj, rfl⟩ := List.getElem_of_mem ha
      have hj' : j < C.length := by omega
      refine ⟨j, hj', ?_⟩
      have := cs_get hj'
      rw [List.getElem?_eq_getElem hj] at this
      exact (Option.some.inj this).symm
    have hn := num_ren (l := cs C) (f := f) (fun a ha => by
        obtain ⟨j, hj, rfl⟩ := mem_of a ha
        rw [hf j hj]
        exact ⟨fun h => ((rel_iff hC hD hm hj hj).mpr ⟨h, rfl⟩).1, fun h => ((rel_iff hC hD hm hj hj).mp ⟨h, rfl⟩).1⟩)
      (fun a ha b hb h1 h2 e => by
        obtain ⟨j, hj, rfl⟩ := mem_of a ha
        obtain ⟨k, hk, rfl⟩ := mem_of b hb
        rw [hf j hj, hf k hk] at e
        exact ((rel_iff hC hD hm hj hk).mpr ⟨((rel_iff hC hD hm hj hj).mp ⟨h1, rfl⟩).1, e⟩).2)
      (a := (nd C i).c) (List.mem_of_getElem? (cs_get hi))
    rw [← hmap, hf i hi, hC.f _ (nd_mem hi), hD.f _ (nd_mem (show i < D.length by omega))] at hn
    exact hn.symm
  have non : ∀ i, i < C.length → fr C i (nd C i).c = none → nd C i = nd D i := by
    intro i hi e1
    have e := eq i hi
    have c := hc i hi
    cases e2 : fr D i (nd D i).c with
    | some y =>
      have := (hD.k3 (by omega)).mpr ⟨y, e2⟩
      rw [← e, hC.k3 hi, e1] at this
      obtain ⟨_, h⟩ := this; cases h
    | none =>
      rw [mb_none e1, mb_none e2] at e
      have h1 : entN (nd C i) = entN (nd D i) := congrArg Mb.e e
      have h2 : (nd C i).d = (nd D i).d := congrArg Mb.d e
      have hk : (nd C i).k = (nd D i).k := congrArg Ent.k h1
      have hp : (nd C i).p = (nd D i).p := congrArg Ent.p h1
      have hm' : (nd C i).m = (nd D i).m := congrArg Ent.m h1
      have ht : (nd C i).t = (nd D i).t := congrArg Ent.t h1
      exact nd_eq hk hp hm' ht h2 c
  have tg0 : ∀ {E : List Nd}, Can E → ∀ {i}, i < E.length → (nd E i).k = 1 → (nd E i).t = emp := by
    intro E hE i hi hk
    have h1 := tg_cases (ck_ok.mp (one_ck (hE.v.one _ (nd_mem hi)))).tg
    rcases h1.2.1 with h | h
    · exact h.2.2
    · have : (nd E i).k = 2 ∨ (nd E i).k = 3 := h.1
      omega
  refine List.ext_getElem hl fun i hi hi' => ?_
  rw [← nd_get hi, ← nd_get hi']
  cases e1 : fr C i (nd C i).c with
  | none => exact non i hi e1
  | some y =>
    have e := eq i hi
    have h3 := (hC.k3 hi).mpr ⟨y, e1⟩
    rw [e] at h3
    obtain ⟨z, e2⟩ := (hD.k3 hi').mp h3
    obtain ⟨r, hr, rfl, k1, k2, n1, m1, d1, _, _⟩ := hC.lnk hi e1
    obtain ⟨q, hq, rfl, k1', k2', n2, m2, d2, _, _⟩ := hD.lnk hi' e2
    have ht : (mb C i).e.t = (mb D i).e.t := by rw [e]
    have hp : (mb C i).e.p = (mb D i).e.p := by rw [e]
    have hm' : (mb C i).e.m = (mb D i).e.m := by rw [e]
    rw [(mb_p C i).1, (mb_p D i).1] at hp
    rw [(mb_p C i).2, (mb_p D i).2] at hm'
    rw [mb_some e1, mb_some e2] at ht
    have hrn := non r (by omega) n1
    obtain rfl : r = q := hD.at_ (by omega) (by omega) (by rw [← hrn]; exact ht)
    exact nd_eq (by rw [k2, k2']) hp hm' (by rw [tg0 hC hi k2, tg0 hD hi' k2']) (by rw [← d1, ← d2, hrn]) (hc i hi)
end Go.Proofs.YtinmkgpmoclcoaaDoor.Flt
/-
  Layer 15: plain mathematics: the members that a builder takes, the tree that it builds. No memory.
-/
namespace Go.Proofs.YtinmkgpmoclcoaaDoor.Reb
open Go.RowKit Go.Proofs.YtinmkgpmoclcoaaDoor.Fit Pnm Tre Flt

def mb0 : Mb := ⟨⟨0, emp, 0, emp, 0⟩, []⟩
def ma (A : List Mb) (i : Nat) : Mb := (A[i]?).getD mb0
theorem ma_get {A : List Mb} {i : Nat} (h : i < A.length) : ma A i = A[i] := by unfold ma; rw [List.getElem?_eq_getElem h]; rfl
theorem ma_some {A : List Mb} {i : Nat} {x : Mb} (h : A[i]? = some x) : ma A i = x := by unfold ma; rw [h]; rfl
theorem ma_take {A : List Mb} {i j : Nat} (h : i < j) : ma (A.take j) i = ma A i := by unfold ma; rw [List.getElem?_take, if_pos h]
theorem ma_app {A : List Mb} {i : Nat} (B : List Mb) (h : i < A.length) : ma (A ++ B) i = ma A i := by unfold ma; rw [List.getElem?_append_left h]
theorem ma_last (A : List Mb) (x : Mb) : ma (A ++ [x]) A.length = x := by unfold ma; simp
/-- the first member of a kind and a path -/
def fnd (A : List Mb) (k : Int) (p : ByteArray) : Option Nat := A.findIdx? fun x => decide (x.e.k = k ∧ x.e.p = p)
theorem fnd_none {A : List Mb} {k : Int} {p : ByteArray} : fnd A k p = none ↔ ∀ i, i < A.length → ¬ ((ma A i).e.k = k ∧ (ma A i).e.p = p) := by
  unfold fnd
  rw [List.findIdx?_eq_none_iff]
  constructor
  · intro h i hi
    have := h (ma A i) (by rw [ma_get hi]; exact List.getElem_mem hi)
    simpa using this
  · intro h x hx
    obtain ⟨i, hi, rfl⟩ := List.getElem_of_mem hx
    have := h i hi
    rw [ma_get hi] at this
    simpa using this
theorem fnd_some {A : List Mb} {k : Int} {p : ByteArray} {r : Nat} : fnd A k p = some r ↔ r < A.length ∧ (ma A r).e.k = k ∧ (ma A r).e.p = p ∧ ∀ i, i < r → ¬ ((ma A i).e.k = k ∧ (ma A i).e.p = p) := by
  unfold fnd
  rw [List.findIdx?_eq_some_iff_getElem]
  constructor
  · rintro ⟨h, h1, h2⟩
    have h1 : A[r].e.k = k ∧ A[r].e.p = p := of_decide_eq_true h1
    refine ⟨h, by rw [ma_get h]; exact h1.1, by rw [ma_get h]; exact h1.2, fun i hi => ?_⟩
    have := h2 i hi
    rw [ma_get (by omega)]
    simpa using this
  · rintro ⟨h, h1, h2, h3⟩
    rw [ma_get h] at h1 h2
    refine ⟨h, decide_eq_true ⟨h1, h2⟩, fun i hi => ?_⟩
    have := h3 i hi
    rw [ma_get (by omega)] at this
    simpa using this

/-! Check and Add -/
/-- a member has been added whose path does not come before p -/
def Late (A : List Mb) (p : ByteArray) : Prop := 0 < A.length ∧ 0 ≤ cmpZ (numsOf (ma A (A.length - 1)).e.p) (numsOf p)
def NoPar (A : List Mb) (p : ByteArray) : Prop := parZ (numsOf p) ≠ [] ∧ fnd A 0 (strOfNums (parZ (numsOf p))) = none
def NoFile (A : List Mb) (e : Ent) : Prop := e.k = 3 ∧ ∀ r, fnd A 1 e.t = some r → (ma A r).e.m ≠ e.m
open Classical in
noncomputable def chR (A : List Mb) (e : Ent) : Int := if ckE e ≠ 0 then ckE e else if Late A e.p then 12 else if NoPar A e.p then 13 else if NoFile A e then 15 else 0
open Classical in
noncomputable def adR (A : List Mb) (x : Mb) : Int := if chR A x.e ≠ 0 then chR A x.e else if (x.d.length : Int) ≠ x.e.s then 2 else 0
theorem chR_zero {A : List Mb} {e : Ent} : chR A e = 0 ↔ ckE e = 0 ∧ ¬ Late A e.p ∧ ¬ NoPar A e.p ∧ ¬ NoFile A e := by
  unfold chR
  by_cases h0 : ckE e = 0
  · by_cases h1 : Late A e.p
    · simp [h0, h1]
    · by_cases h2 : NoPar A e.p
      · simp [h0, h1, h2]
      · by_cases h3 : NoFile A e <;> simp [h0, h1, h2, h3]
  · simp [h0]
theorem adR_zero {A : List Mb} {x : Mb} : adR A x = 0 ↔ chR A x.e = 0 ∧ (x.d.length : Int) = x.e.s := by
  unfold adR
  by_cases h0 : chR A x.e = 0
  · by_cases h1 : (x.d.length : Int) = x.e.s <;> simp [h0, h1]
  · simp [h0]
/-- members that were taken, one after the other -/
def Gd (A : List Mb) : Prop := ∀ i, i < A.length → adR (A.take i) (ma A i) = 0
theorem gd_nil : Gd [] := fun i h => absurd h (Nat.not_lt_zero i)
theorem gd_snoc {A : List Mb} (h : Gd A) {x : Mb} (hx : adR A x = 0) : Gd (A ++ [x]) := fun i hi => by
  rw [List.length_append, List.length_singleton] at hi
  by_cases e : i < A.length
  · rw [ma_app _ e, List.take_append_of_le_length (by omega)]
    exact h i e
  · obtain rfl : i = A.length := by omega
    rw [ma_last, List.take_left]
    exact hx
theorem gd_take {A : List Mb} (h : Gd A) (n : Nat) : Gd (A.take n) := fun i hi => by
  rw [List.length_take] at hi
  rw [ma_take (by omega), List.take_take, Nat.min_eq_left (by omega)]
  exact h i (by omega)

/-! what is known of members that were taken -/
theorem Gd.at_ {A : List Mb} (h : Gd A) {i : Nat} (hi : i < A.length) : ckE (ma A i).e = 0 ∧ ((ma A i).d.length : Int) = (ma A i).e.s ∧ ¬ Late (A.take i) (ma A i).e.p ∧ ¬ NoPar (A.take i) (ma A i).e.p ∧ ¬ NoFile (A.take i) (ma A i).e := by
  obtain ⟨h1, h2⟩ := adR_zero.mp (h i hi)
  obtain ⟨h3, h4, h5, h6⟩ := chR_zero.mp h1
  exact ⟨h3, h2, h4, h5, h6⟩
theorem Gd.next {A : List Mb} (h : Gd A) {i : Nat} (hi : i + 1 < A.length) : cmpZ (numsOf (ma A i).e.p) (numsOf (ma A (i + 1)).e.p) = -1 := by
  have h1 := (h.at_ hi).2.2.1
  have hl : (A.take (i + 1)).length = i + 1 := by rw [List.length_take]; omega
  unfold Late at h1
  rw [hl, Nat.add_sub_cancel, ma_take (Nat.lt_succ_self i)] at h1
  have h2 : ¬ 0 ≤ cmpZ (numsOf (ma A i).e.p) (numsOf (ma A (i + 1)).e.p) := fun e => h1 ⟨Nat.succ_pos i, e⟩
  rcases cmp_cases (numsOf (ma A i).e.p) (numsOf (ma A (i + 1)).e.p) with e | e | e <;> omega
theorem Gd.lt {A : List Mb} (h : Gd A) {i : Nat} : ∀ {j : Nat}, i < j → j < A.length → cmpZ (numsOf (ma A i).e.p) (numsOf (ma A j).e.p) = -1
  | 0, hij, _ => absurd hij (Nat.not_lt_zero i)
  | j + 1, hij, hj => by
    by_cases e : i = j
    · subst e; exact h.next hj
    · have h1 := h.lt (show i < j by omega) (by omega)
      have h2 := h.next hj
      have h3 := cmp_trans _ _ _ (show cmpZ (numsOf (ma A i).e.p) (numsOf (ma A j).e.p) ≤ 0 by omega) (show cmpZ (numsOf (ma A j).e.p) (numsOf (ma A (j + 1)).e.p) ≤ 0 by omega)
      rcases cmp_cases (numsOf (ma A i).e.p) (numsOf (ma A (j + 1)).e.p) with e' | e' | e'
      · exact e'
      · have e2 := (cmp_eq _ _).mp e'
        rw [e2, cmp_neg, h2] at h1
        omega
      · omega
theorem Gd.inj {A : List Mb} (h : Gd A) {i j : Nat} (hi : i < A.length) (hj : j < A.length) (e : (ma A i).e.p = (ma A j).e.p) : i = j := by
  rcases Nat.lt_trichotomy i j with l | l | l
  · have := h.lt l hj
    rw [e, (cmp_eq _ _).mpr rfl] at this; omega
  · exact l
  · have := h.lt l hi
    rw [e, (cmp_eq _ _).mpr rfl] at this; omega
theorem Gd.par {A : List Mb} (h : Gd A) {i : Nat} (hi : i < A.length) : parZ (numsOf (ma A i).e.p) = [] ∨ ∃ j, j < i ∧ (ma A j).e.k = 0 ∧ (ma A j).e.p = strOfNums (parZ (numsOf (ma A i).e.p)) := by
  have h1 := (h.at_ hi).2.2.2.1
  by_cases e : parZ (numsOf (ma A i).e.p) = []
  · exact .inl e
  cases hf : fnd (A.take i) 0 (strOfNums (parZ (numsOf (ma A i).e.p))) with
  | none => exact absurd ⟨e, hf⟩ h1
  | some r =>
    obtain ⟨r1, r2, r3, _⟩ := fnd_some.mp hf
    rw [List.length_take] at r1
    rw [ma_take (by omega)] at r2 r3
    exact .inr ⟨r, by omega, r2, r3⟩
theorem Gd.file {A : List Mb} (h : Gd A) {i : Nat} (hi : i < A.length) (hk : (ma A i).e.k = 3) : ∃ r, r < i ∧ (ma A r).e.k = 1 ∧ (ma A r).e.p = (ma A i).e.t ∧ (ma A r).e.m = (ma A i).e.m ∧ fnd A 1 (ma A i).e.t = some r := by
  have h1 := (h.at_ hi).2.2.2.2
  have h2 : ∃ r, fnd (A.take i) 1 (ma A i).e.t = some r ∧ (ma (A.take i) r).e.m = (ma A i).e.m := by
    refine Classical.byContradiction fun hn => h1 ⟨hk, fun r hr hm => hn ⟨r, hr, hm⟩⟩
  obtain ⟨r, hr, hm⟩ := h2
  obtain ⟨r1, r2, r3, r4⟩ := fnd_some.mp hr
  rw [List.length_take] at r1
  have hri : r < i := by omega
  rw [ma_take hri] at r2 r3 hm
  refine ⟨r, hri, r2, r3, hm, fnd_some.mpr ⟨by omega, r2, r3, fun j hj hm' => ?_⟩⟩
  exact r4 j hj (by rw [ma_take (by omega)]; exact hm')

/-! the tree -/
def ndOf (A : List Mb) (i : Nat) : Nd :=
  if (ma A i).e.k = 3 then
    match fnd A 1 (ma A i).e.t with
    | some r => ⟨1, (ma A i).e.p, (ma A i).e.m, emp, (ma A r).d, (r : Int) + 1⟩
    | none => nd0
  else ⟨(ma A i).e.k, (ma A i).e.p, (ma A i).e.m, (ma A i).e.t, (ma A i).d, if (ma A i).e.k = 1 then (i : Int) + 1 else 0⟩
def ndsOf (A : List Mb) : List Nd := (List.range A.length).map (ndOf A)
theorem ndsOf_len (A : List Mb) : (ndsOf A).length = A.length := by unfold ndsOf; rw [List.length_map, List.length_range]
theorem ndsOf_at {A : List Mb} {i : Nat} (h : i < A.length) : nd (ndsOf A) i = ndOf A i := by
  unfold nd ndsOf
  rw [List.getElem?_map, List.getElem?_range h]; rfl
/-- whose class a member is of -/
def Root (A : List Mb) (i r : Nat) : Prop := r ≤ i ∧ (ma A r).e.k = 1 ∧ (ma A r).e.m = (ma A i).e.m ∧ ndOf A i = ⟨1, (ma A i).e.p, (ma A i).e.m, emp, (ma A r).d, (r : Int) + 1⟩ ∧ ((ma A i).e.k = 1 → r = i) ∧ ((ma A i).e.k = 3 → r < i ∧ (ma A r).e.p = (ma A i).e.t)
theorem Gd.kinds {A : List Mb} (h : Gd A) {i : Nat} (hi : i < A.length) : (∃ r, Root A i r) ∨ ((ma A i).e.k = 0 ∨ (ma A i).e.k = 2) ∧ (ma A i).d = [] ∧ (ma A i).e.s = 0 ∧ ndOf A i = ⟨(ma A i).e.k, (ma A i).e.p, (ma A i).e.m, (ma A i).e.t, [], 0⟩ := by
  obtain ⟨hck, hds, _, _, _⟩ := h.at_ hi
  have hok := ck_ok.mp hck
  have k0 := hok.k0; have k4 := hok.k4
  by_cases h3 : (ma A i).e.k = 3
  · obtain ⟨r, r1, r2, r3, r4, r5⟩ := h.file hi h3
    refine .inl ⟨r, by omega, r2, r4, ?_, fun h1 => absurd (h3.symm.trans h1) (by decide), fun _ => ⟨r1, r3⟩⟩
    unfold ndOf
    rw [if_pos h3, r5]
  · by_cases h1 : (ma A i).e.k = 1
    · refine .inl ⟨i, Nat.le_refl _, h1, rfl, ?_, fun _ => rfl, fun h => absurd h h3⟩
      have ht : (ma A i).e.t = emp := by
        rcases (tg_cases hok.tg).2.1 with ⟨_, _, e⟩ | ⟨e, _⟩
        · exact e
        · omega
      unfold ndOf
      rw [if_neg h3, if_pos h1, h1, ht]
    · obtain ⟨s0, _, s1⟩ := sz_cases hok.sz
      have hs := s1 h1
      have hd : (ma A i).d = [] := List.length_eq_zero_iff.mp (by omega)
      refine .inr ⟨by omega, hd, hs, ?_⟩
      unfold ndOf
      rw [if_neg h3, if_neg h1, hd]
theorem Gd.path {A : List Mb} (h : Gd A) {i : Nat} (hi : i < A.length) : (ndOf A i).p = (ma A i).e.p := by
  rcases h.kinds hi with ⟨r, _, _, _, e, _⟩ | ⟨_, _, _, e⟩ <;> rw [e]
theorem Gd.srt {A : List Mb} (h : Gd A) : Srt (ndsOf A) := by
  unfold Srt
  rw [List.pairwise_iff_getElem]
  intro i j hi hj hij
  rw [ndsOf_len] at hi hj
  rw [← nd_get, ← nd_get, ndsOf_at hi, ndsOf_at hj]
  unfold Le key
  rw [h.path hi, h.path hj, h.lt hij hj]
  decide
theorem Gd.val {A : List Mb} (h : Gd A) : Val (ndsOf A) := by
  have mem : ∀ {x}, x ∈ ndsOf A → ∃ i, i < A.length ∧ x = ndOf A i := fun {x} hx => by
    unfold ndsOf at hx
    obtain ⟨i, hi, rfl⟩ := List.mem_map.mp hx
    exact ⟨i, List.mem_range.mp hi, rfl⟩
  refine ⟨fun x hx => ?_, ?_, fun x hx => ?_, fun x hx y hy h0 e => ?_⟩
  · obtain ⟨i, hi, rfl⟩ := mem hx
    obtain ⟨hck, hds, _, _, _⟩ := h.at_ hi
    have hok := ck_ok.mp hck
    rcases h.kinds hi with ⟨r, r0, r1, r2, e, r3, r4⟩ | ⟨hk, hd, hs, e⟩
    · obtain ⟨hck', hds', _, _, _⟩ := h.at_ (show r < A.length by omega)
      have hok' := ck_ok.mp hck'
      have hz : szE 1 ((ma A r).d.length : Int) = 0 := by
        have := hok'.sz
        rw [r1] at this
        rw [hds']; exact this
      have hc : ckE (entN (ndOf A i)) = 0 := by
        rw [e]
        refine ck_ok.mpr ⟨by show (0 : Int) ≤ 1; decide, by show (1 : Int) < 4; decide, hok.path, hok.m0, hok.m1, fun h => absurd h (by show ¬ (1 : Int) = 2; decide), rfl, ?_⟩
        unfold entN
        exact hz
      unfold oneE
      rw [e] at hc ⊢
      rw [if_neg (by show ¬ ((1 : Int) < 0 ∨ 2 < (1 : Int)); decide), if_neg (by simpa using hc), if_neg (fun h => h.1 rfl), if_neg]
      rintro (h | h)
      · have h : (r : Int) + 1 < 0 := h
        omega
      · exact h.1 rfl
    · have hc : ckE (entN (ndOf A i)) = 0 := by
        rw [e]
        have e2 : entN (⟨(ma A i).e.k, (ma A i).e.p, (ma A i).e.m, (ma A i).e.t, [], 0⟩ : Nd) = (ma A i).e := by
          unfold entN
          dsimp only
          rw [if_neg (by omega), ← hs]
        rw [e2]; exact hck
      unfold oneE
      rw [e] at hc ⊢
      dsimp only
      rw [if_neg (by omega), if_neg (by simpa using hc), if_neg (fun h => h.2 rfl), if_neg]
      rintro (h | h)
      · exact absurd h (by decide)
      · exact h.2 rfl
  · unfold Apt
    rw [List.pairwise_iff_getElem]
    intro i j hi hj hij e
    rw [ndsOf_len] at hi hj
    rw [← nd_get, ← nd_get, ndsOf_at hi, ndsOf_at hj, h.path hi, h.path hj] at e
    have := h.inj hi hj e
    omega
  · obtain ⟨i, hi, rfl⟩ := mem hx
    unfold Par key
    rw [h.path hi]
    rcases h.par hi with e | ⟨j, hj, hk, e⟩
    · exact .inl e
    · refine .inr ⟨ndOf A j, ?_, ?_, ?_⟩
      · unfold ndsOf
        exact List.mem_map.mpr ⟨j, List.mem_range.mpr (by omega), rfl⟩
      · rcases h.kinds (show j < A.length by omega) with ⟨r, r0, r1, r2, e', r3, r4⟩ | ⟨_, _, _, e'⟩
        · exfalso
          have hok := ck_ok.mp (h.at_ (show j < A.length by omega)).1
          have : ndOf A j = ⟨0, (ma A j).e.p, (ma A j).e.m, (ma A j).e.t, (ma A j).d, 0⟩ := by
            unfold ndOf
            rw [if_neg (by omega), if_neg (by omega), hk]
          rw [e'] at this
          have := congrArg Nd.k this
          exact absurd this (by show ¬ (1 : Int) = 0; decide)
        · rw [e']; exact hk
      · rw [h.path (by omega), e]
        exact numsOf_strOfNums (par_bytes _)
  · obtain ⟨i, hi, rfl⟩ := mem hx
    obtain ⟨j, hj, rfl⟩ := mem hy
    rcases h.kinds hi with ⟨r, _, _, r2, e1, _⟩ | ⟨_, _, _, e1⟩
    · rcases h.kinds hj with ⟨q, _, _, q2, e2, _⟩ | ⟨_, _, _, e2⟩
      · rw [e1, e2] at e
        rw [e1, e2]
        have e : (r : Int) + 1 = (q : Int) + 1 := e
        obtain rfl : r = q := by omega
        exact ⟨r2.symm.trans q2, rfl⟩
      · rw [e1, e2] at e
        have e : (r : Int) + 1 = 0 := e
        omega
    · rw [e1] at h0
      exact absurd rfl h0

/-! members of a sorted valid list, whatever its class numbers -/
theorem mb_canon {l : List Nd} (_hv : Val l) (hs : Srt l) {i : Nat} (hi : i < l.length) : mb (canon l) i = mb l i := by
  have e : srt l = l := srt_id hs
  have cn : canon l = l.map (ren l) := by unfold canon; rw [e]
  have hl : (canon l).length = l.length := canon_len l
  have at_ : ∀ j, j < l.length → nd (canon l) j = ren l (nd l j) := fun j hj => by
    rw [nd_get (by omega), nd_get hj]
    simp only [cn, List.getElem_map]
  have cc : ∀ j, j < l.length → (nd (canon l) j).c = num (cs l) (nd l j).c := fun j hj => by rw [at_ j hj]; rfl
  have many : ∀ r, r < i → 0 < (nd l r).c → (nd l r).c = (nd l i).c → Many (cs l) (nd l r).c := fun r hr h0 h1 => by
    refine ⟨h0, ?_⟩
    have h2 : 0 < ((cs l).take i).count (nd l r).c := List.count_pos_iff.mpr (List.mem_take_iff_getElem.mpr ⟨r, by unfold cs; rw [List.length_map]; omega, by
      have := cs_get (show r < l.length by omega)
      rw [List.getElem?_eq_getElem (by unfold cs; rw [List.length_map]; omega)] at this
      exact Option.some.inj this⟩)
    have h3 : 0 < ((cs l).drop i).count (nd l r).c := List.count_pos_iff.mpr (List.mem_iff_getElem?.mpr ⟨0, by rw [List.getElem?_drop, Nat.add_zero, cs_get hi, h1]⟩)
    have h4 : cs l = (cs l).take i ++ (cs l).drop i := (List.take_append_drop i _).symm
    rw [h4, List.count_append]; omega
  have back : ∀ j, j < i → 0 < (nd (canon l) j).c → (nd (canon l) j).c = (nd (canon l) i).c → 0 < (nd l j).c ∧ (nd l j).c = (nd l i).c := fun j hj h0 h1 => by
    rw [cc j (by omega)] at h0 h1
    rw [cc i hi] at h1
    have m1 := num_pos.mp h0
    rw [h1] at h0
    exact ⟨m1.1, num_inj m1 (num_pos.mp h0) h1⟩
  cases h : fr l i (nd l i).c with
  | some y =>
    obtain ⟨r, hr, rfl, h0, h1, hn⟩ := fr_some (Nat.le_of_lt hi) h
    have hM := many r hr h0 h1
    have hf : fr (canon l) i (nd (canon l) i).c = some (nd (canon l) r) := by
      refine fr_of (by omega) hr (by rw [cc r (by omega)]; exact num_pos.mpr hM) (by rw [cc r (by omega), cc i hi, h1]) ((fr_none (by omega)).mpr fun j hj hm => ?_)
      have := back j (by omega) hm.1 hm.2
      exact (fr_none (by omega)).mp hn j hj this
    rw [mb_some hf, mb_some h, at_ i hi, at_ r (by omega)]
    rfl
  | none =>
    have hf : fr (canon l) i (nd (canon l) i).c = none := (fr_none (by omega)).mpr fun j hj hm => (fr_none (by omega)).mp h j hj (back j hj hm.1 hm.2)
    rw [mb_none hf, mb_none h, at_ i hi]
    rfl
theorem mbs_canon {l : List Nd} (hv : Val l) (hs : Srt l) : mbs (canon l) = mbs l := by
  refine List.ext_getElem? fun i => ?_
  by_cases hi : i < l.length
  · rw [mbs_at (by rw [canon_len]; exact hi), mbs_at hi, mb_canon hv hs hi]
  · rw [List.getElem?_eq_none (by rw [mbs_len, canon_len]; omega), List.getElem?_eq_none (by rw [mbs_len]; omega)]

/-- the tree's members are those that were taken -/
theorem Gd.mbs {A : List Mb} (h : Gd A) : mbs (ndsOf A) = A := by
  refine List.ext_getElem? fun i => ?_
  by_cases hi : i < A.length
  · have hl : i < (ndsOf A).length := by rw [ndsOf_len]; exact hi
    rw [mbs_at hl, List.getElem?_eq_getElem hi, ← ma_get hi]
    congr 1
    have cl : ∀ j, j < A.length → (nd (ndsOf A) j).c = (ndOf A j).c := fun j hj => by rw [ndsOf_at hj]
    rcases h.kinds hi with ⟨r, r0, r1, r2, e, r3, r4⟩ | ⟨hk, hd, hs, e⟩
    · -- a regular file
      obtain ⟨hck, hds, _, _, _⟩ := h.at_ hi
      have hok := ck_ok.mp hck
      have ei : (nd (ndsOf A) i).c = (r : Int) + 1 := by rw [cl i hi, e]
      by_cases h3 : (ma A i).e.k = 3
      · obtain ⟨r5, r6⟩ := r4 h3
        have er : (nd (ndsOf A) r).c = (r : Int) + 1 := by
          rw [cl r (by omega)]
          rcases h.kinds (show r < A.length by omega) with ⟨q, _, _, _, e', q3, _⟩ | ⟨hk', _, _, _⟩
          · rw [e', q3 r1]
          · omega
        have hf : fr (ndsOf A) i (nd (ndsOf A) i).c = some (nd (ndsOf A) r) := by
          refine fr_of (by omega) r5 (by omega) (by rw [er, ei]) ((fr_none (by rw [ndsOf_len]; omega)).mpr fun j hj hm => ?_)
          rcases h.kinds (show j < A.length by omega) with ⟨q, q0, _, _, e', _, _⟩ | ⟨_, _, _, e'⟩
          · have : (nd (ndsOf A) j).c = (q : Int) + 1 := by rw [cl j (by omega), e']
            omega
          · have : (nd (ndsOf A) j).c = 0 := by rw [cl j (by omega), e']
            omega
        rw [mb_some hf, ndsOf_at (show r < A.length by omega), h.path (by omega), r6, ndsOf_at hi, e]
        obtain ⟨_, _, s1⟩ := sz_cases hok.sz
        have hs := s1 (by omega)
        have hd : (ma A i).d = [] := List.length_eq_zero_iff.mp (by omega)
        generalize ma A i = x at *
        obtain ⟨⟨k, p, m, t, s⟩, d⟩ := x
        dsimp only at *
        subst h3; subst hs; subst hd
        rfl
      · have h1 : (ma A i).e.k = 1 := by
          have := hok.k0; have := hok.k4
          rcases Classical.em ((ma A i).e.k = 1) with h | h
          · exact h
          · have e2 : ndOf A i = ⟨(ma A i).e.k, (ma A i).e.p, (ma A i).e.m, (ma A i).e.t, (ma A i).d, 0⟩ := by
              unfold ndOf; rw [if_neg h3, if_neg h]
            rw [e] at e2
            exact absurd (congrArg Nd.k e2).symm h
        obtain rfl := r3 h1
        have hf : fr (ndsOf A) r (nd (ndsOf A) r).c = none := (fr_none (by omega)).mpr fun j hj hm => by
          rcases h.kinds (show j < A.length by omega) with ⟨q, q0, _, _, e', _, _⟩ | ⟨_, _, _, e'⟩
          · have : (nd (ndsOf A) j).c = (q : Int) + 1 := by rw [cl j (by omega), e']
            omega
          · have : (nd (ndsOf A) j).c = 0 := by rw [cl j (by omega), e']
            omega
        rw [mb_none hf, ndsOf_at hi, e]
        have ht : (ma A r).e.t = emp := by
          rcases (tg_cases hok.tg).2.1 with ⟨_, _, e⟩ | ⟨e, _⟩
          · exact e
          · omega
        generalize ma A r = x at *
        obtain ⟨⟨k, p, m, t, s⟩, d⟩ := x
        dsimp only at *
        subst h1; subst ht
        unfold own1 entN
        dsimp only
        rw [if_pos rfl, hds]
    · have hf : fr (ndsOf A) i (nd (ndsOf A) i).c = none := (fr_none (by omega)).mpr fun j hj hm => by
        have : (nd (ndsOf A) i).c = 0 := by rw [cl i hi, e]
        omega
      rw [mb_none hf, ndsOf_at hi, e]
      generalize ma A i = x at *
      obtain ⟨⟨k, p, m, t, s⟩, d⟩ := x
      dsimp only at *
      subst hs; subst hd
      unfold own1 entN
      dsimp only
      rw [if_neg (by omega)]
  · rw [List.getElem?_eq_none (by rw [mbs_len, ndsOf_len]; omega), List.getElem?_eq_none (by omega)]
/-- RebuildIsStrict -/
theorem Gd.strict {A : List Mb} (h : Gd A) : Val (canon (ndsOf A)) ∧ Flt.mbs (canon (ndsOf A)) = A ∧ chk (canon (ndsOf A)) = ((A.length : Int), 0) := by
  have hv := canon_val h.val
  refine ⟨hv, by rw [mbs_canon h.val h.srt, h.mbs], ?_⟩
  have := chk_val hv
  rwa [canon_len, ndsOf_len] at this
/-- the members of a canonical list are taken -/
theorem can_gd {C : List Nd} (h : Flt.Can C) : Gd (Flt.mbs C) := by
  intro i hi
  rw [mbs_len] at hi
  have am : ∀ j, j < C.length → ma (Flt.mbs C) j = mb C j := fun j hj => ma_some (mbs_at hj)
  have ap : ∀ j, j < C.length → (ma (Flt.mbs C) j).e.p = (nd C j).p := fun j hj => by rw [am j hj]; exact (mb_p C j).1
  have hl : ((Flt.mbs C).take i).length = i := by rw [List.length_take, mbs_len]; omega
  refine adR_zero.mpr ⟨chR_zero.mpr ⟨by rw [am i hi]; exact h.ck hi, ?_, ?_, ?_⟩, ?_⟩
  · rintro ⟨h0, h1⟩
    rw [hl] at h0 h1
    rw [ma_take (by omega), ap _ (by omega), ap i hi] at h1
    have := h.lt (show i - 1 < i by omega) hi
    unfold key at this
    omega
  · rintro ⟨h0, h1⟩
    rw [ap i hi] at h0 h1
    rcases h.par hi with e | ⟨j, hj, hk, e⟩
    · exact h0 e
    · have hn := fnd_none.mp h1 j (by omega)
      rw [ma_take hj, am j (by omega)] at hn
      have hf : fr C j (nd C j).c = none := by
        cases hfr : fr C j (nd C j).c with
        | none => rfl
        | some y =>
          obtain ⟨_, _, _, _, k1, _⟩ := h.lnk (show j < C.length by omega) hfr
          omega
      refine hn ⟨?_, ?_⟩
      · rw [mb_none hf]; exact hk
      · rw [(mb_p C j).1]
        exact par_key.mp e
  · rintro ⟨h0, h1⟩
    rw [am i hi] at h0 h1
    obtain ⟨y, hy⟩ := (h.k3 hi).mp h0
    obtain ⟨r, hr, hrn, k1, _, hn, hm, _, _, _⟩ := h.lnk hi hy
    have ht : (mb C i).e.t = (nd C r).p := by rw [mb_some hy, hrn]; rfl
    have hf : fnd ((Flt.mbs C).take i) 1 (mb C i).e.t = some r := by
      refine fnd_some.mpr ⟨by omega, ?_, ?_, fun j hj hm' => ?_⟩
      · rw [ma_take hr, am r (by omega), mb_none hn]; exact k1
      · rw [ma_take hr, ap r (by omega), ht]
      · rw [ma_take (by omega), ap j (by omega), ht] at hm'
        have := h.at_ (show j < C.length by omega) (show r < C.length by omega) hm'.2
        omega
    refine h1 r hf ?_
    rw [ma_take hr, am r (by omega), (mb_p C r).2, (mb_p C i).2]
    exact hm
  · rw [am i hi]
    cases hfr : fr C i (nd C i).c with
    | some y => rw [mb_some hfr]; rfl
    | none =>
      rw [mb_none hfr]
      have o := one_c (h.v.one _ (nd_mem hi))
      show ((nd C i).d.length : Int) = if (nd C i).k = 1 then ((nd C i).d.length : Int) else 0
      by_cases hk : (nd C i).k = 1
      · rw [if_pos hk]
      · rw [if_neg hk, o.2.2.1 hk]; rfl
/-- RebuildInvertsFlatten -/
theorem can_back {C : List Nd} (h : Flt.Can C) : canon (ndsOf (Flt.mbs C)) = C :=
  mbs_inj (can_of (can_gd h).val) h (can_gd h).strict.2.1
/-- the first nodes of a canonical list are a valid tree -/
theorem can_take {C : List Nd} (h : Flt.Can C) (k : Nat) : Val (C.take k) ∧ Srt (C.take k) := by
  have hs : Srt (C.take k) := List.Pairwise.sublist (List.take_sublist k C) h.s
  have ha : Apt (C.take k) := List.Pairwise.sublist (List.take_sublist k C) h.v.apt
  refine ⟨⟨fun x hx => h.v.one x (List.mem_of_mem_take hx), ha, fun x hx => ?_, fun x hx y hy => h.v.cls x (List.mem_of_mem_take hx) y (List.mem_of_mem_take hy)⟩, hs⟩
  obtain ⟨i, hi, rfl⟩ := List.mem_take_iff_getElem.mp hx
  have hl : i < C.length := by omega
  rw [← nd_get hl]
  rcases h.par hl with e | ⟨j, hj, hk, e⟩
  · exact .inl e
  · exact .inr ⟨nd C j, by rw [nd_get (by omega)]; exact List.mem_take_iff_getElem.mpr ⟨j, by omega, rfl⟩, hk, e⟩
theorem mb_take {C : List Nd} {k i : Nat} (hi : i < k) : mb (C.take k) i = mb C i := by
  have hn : nd (C.take k) i = nd C i := by unfold nd; rw [List.getElem?_take, if_pos hi]
  have hf : fr (C.take k) i (nd (C.take k) i).c = fr C i (nd C i).c := by
    rw [hn]; unfold fr; rw [List.take_take, Nat.min_eq_left (by omega)]
  unfold mb
  rw [hf, hn]
/-- RebuildPrefixIsValid -/
theorem can_prefix {C : List Nd} (h : Flt.Can C) {k : Nat} (hk : k ≤ C.length) : canon (ndsOf ((Flt.mbs C).take k)) = canon (C.take k) := by
  obtain ⟨hv, hs⟩ := can_take h k
  have hg := gd_take (can_gd h) k
  refine mbs_inj (can_of hg.val) (can_of hv) ?_
  rw [hg.strict.2.1, mbs_canon hv hs]
  refine List.ext_getElem? fun i => ?_
  by_cases hi : i < k
  · rw [List.getElem?_take, if_pos hi, mbs_at (by omega), mbs_at (by rw [List.length_take]; omega), mb_take hi]
  · rw [List.getElem?_eq_none (by rw [List.length_take, mbs_len]; omega), List.getElem?_eq_none (by rw [mbs_len, List.length_take]; omega)]
end Go.Proofs.YtinmkgpmoclcoaaDoor.Reb
