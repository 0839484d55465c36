/-
  Layer 13: plain mathematics: a node more, a node less, two nodes of one class. No memory.
-/
import Derived.Test.YtinmkgpmoclcoaaDoorPz05
import Derived.Test.YtinmkgpmoclcoaaDoorRows
import Derived.Test.YtinmkgpmoclcoaaDoorPz01
import Derived.Test.YtinmkgpmoclcoaaDoorPnmMath
import Derived.Deep.DeepMust
import Derived.Test.YtinmkgpmoclcoaaDoorPz02
import Derived.Deep.QuietTactic
import Derived.BigQuiet
import Derived.BigRegion
namespace Go.Proofs.YtinmkgpmoclcoaaDoor.Tre
open Go.RowKit Pnm Go.Proofs.YtinmkgpmoclcoaaDoor.Fit

theorem nd_app {l : List Nd} {i : Nat} (b : List Nd) (h : i < l.length) : nd (l ++ b) i = nd l i := by
  unfold nd; rw [List.getElem?_append_left h]
theorem nd_last (l : List Nd) (x : Nd) : nd (l ++ [x]) l.length = x := by
  unfold nd; rw [List.getElem?_append_right (Nat.le_refl _), Nat.sub_self]; rfl
theorem Par.more {l m : List Nd} {x : Nd} (h : Par l x) (hs : ∀ y ∈ l, y ∈ m) : Par m x := h.imp id fun ⟨y, hy, h⟩ => ⟨y, hs y hy, h⟩
theorem find_app {l b : List Nd} {x : Nd} (hx : x ∈ l) : (l ++ b).find? (fun y => decide (y.c = x.c)) = l.find? (fun y => decide (y.c = x.c)) := by
  obtain ⟨y, hy⟩ := find_class hx
  rw [List.find?_append, hy]; rfl
theorem dup_app {l : List Nd} {j : Nat} (b : List Nd) (hj : j < l.length) : Dup (l ++ b) j ↔ Dup l j := by
  unfold Dup
  constructor
  · rintro ⟨i, hi, e⟩
    rw [nd_app b (by omega), nd_app b hj] at e
    exact ⟨i, hi, e⟩
  · rintro ⟨i, hi, e⟩
    exact ⟨i, hi, by rw [nd_app b (by omega), nd_app b hj]; exact e⟩
theorem tog_app {l : List Nd} (h : Val l) (b : List Nd) {j : Nat} (hj : j < l.length) : togE (l ++ b) j = 0 := by
  refine tog_zero.mpr ⟨fun hd => apt_dup.mp h.apt j hj ((dup_app b hj).mp hd), ?_, ?_⟩
  · rw [nd_app b hj]
    exact (h.par _ (nd_mem hj)).more fun y hy => List.mem_append_left _ hy
  · rw [nd_app b hj]
    rintro ⟨h0, y, hy, hn⟩
    rw [find_app (nd_mem hj)] at hy
    exact Val.notOdd h.cls (nd_mem hj) ⟨h0, y, hy, hn⟩
theorem one_app {l : List Nd} (h : Val l) (x : Nd) {j : Nat} (hj : j < l.length) : oneE (nd (l ++ [x]) j) = 0 := by
  rw [nd_app _ hj]; exact h.one _ (nd_mem hj)
theorem dup_last {l : List Nd} {x : Nd} : Dup (l ++ [x]) l.length ↔ ∃ y ∈ l, y.p = x.p := by
  unfold Dup
  constructor
  · rintro ⟨j, hj, e⟩
    rw [nd_app _ hj, nd_last] at e
    exact ⟨_, nd_mem hj, e⟩
  · rintro ⟨y, hy, e⟩
    obtain ⟨j, hj, rfl⟩ := nd_of hy
    exact ⟨j, hj, by rw [nd_app _ hj, nd_last]; exact e⟩
/-- a node that is invalid by itself -/
theorem add_one {l : List Nd} (h : Val l) {x : Nd} (hx : oneE x ≠ 0) : chk (l ++ [x]) = ((l.length : Int), oneE x) := by
  have := chk_one (l := l ++ [x]) (i := l.length) (by simp) (fun j hj => one_app h x hj) (by rw [nd_last]; exact hx)
  rw [this, nd_last]
theorem add_tog {l : List Nd} (h : Val l) {x : Nd} (hx : oneE x = 0) {e : Int} (he : togE (l ++ [x]) l.length = e) : chk (l ++ [x]) = if e = 0 then ((l.length : Int) + 1, 0) else ((l.length : Int), e) := by
  have ho : ∀ j, j < (l ++ [x]).length → oneE (nd (l ++ [x]) j) = 0 := fun j hj => by
    by_cases h' : j < l.length
    · exact one_app h x h'
    · rw [List.length_append, List.length_singleton] at hj
      obtain rfl : j = l.length := by omega
      rw [nd_last]; exact hx
  by_cases e0 : e = 0
  · rw [if_pos e0, chk_fine ho fun j hj => ?_]
    · rw [List.length_append, List.length_singleton]; rfl
    · by_cases h' : j < l.length
      · exact tog_app h _ h'
      · rw [List.length_append, List.length_singleton] at hj
        obtain rfl : j = l.length := by omega
        rw [he, e0]
  · rw [if_neg e0, chk_tog ho (i := l.length) (by simp) (fun j hj => tog_app h _ hj) (by rw [he]; exact e0), he]
/-- a path that is there already -/
theorem add_dup {l : List Nd} (h : Val l) {x : Nd} (hx : oneE x = 0) (hd : ∃ y ∈ l, y.p = x.p) : chk (l ++ [x]) = ((l.length : Int), 14) := by
  have e : togE (l ++ [x]) l.length = 14 := by unfold togE; rw [if_pos (dup_last.mpr hd)]
  rw [add_tog h hx e, if_neg (by decide)]
theorem add_twice {l : List Nd} (h : Val l) {x : Nd} (hx : x ∈ l) : chk (l ++ [x]) = ((l.length : Int), 14) := add_dup h (h.one x hx) ⟨x, hx, rfl⟩
/-- no directory for it -/
theorem add_lone {l : List Nd} (h : Val l) {x : Nd} (hx : oneE x = 0) (hk : x.k ≠ 0) (hd : ¬ ∃ y ∈ l, y.p = x.p) (hp : ¬ Par l x) : chk (l ++ [x]) = ((l.length : Int), 13) := by
  have e : togE (l ++ [x]) l.length = 13 := by
    unfold togE
    rw [if_neg fun h => hd (dup_last.mp h), nd_last, if_pos]
    rintro (h | ⟨y, hy, h0, h⟩)
    · exact hp (.inl h)
    · rcases List.mem_append.mp hy with hy | hy
      · exact hp (.inr ⟨y, hy, h0, h⟩)
      · rw [List.mem_singleton.mp hy] at h0; exact hk h0
  rw [add_tog h hx e, if_neg (by decide)]
theorem add_fine {l : List Nd} (h : Val l) {x : Nd} (hx : oneE x = 0) (hc : x.c = 0) (hd : ¬ ∃ y ∈ l, y.p = x.p) (hp : Par l x) : chk (l ++ [x]) = ((l.length : Int) + 1, 0) := by
  have e : togE (l ++ [x]) l.length = 0 := by
    refine tog_zero.mpr ⟨fun h => hd (dup_last.mp h), ?_, ?_⟩
    · rw [nd_last]; exact hp.more fun y hy => List.mem_append_left _ hy
    · rw [nd_last]; exact fun h => h.1 hc
  rw [add_tog h hx e, if_pos rfl]
/-- a new regular file -/
def newF (p : ByteArray) : Nd := { k := 1, p := p, m := 0, t := emp, d := [], c := 0 }
theorem one_newF (p : ByteArray) : oneE (newF p) = chE (numsOf p) := by
  unfold oneE newF entN ckE
  by_cases h : chE (numsOf p) = 0
  · simp [h, tgE, szE]
  · simp [h]

/-! a node less -/
theorem Val.perm {a b : List Nd} (h : Val a) (hp : a.Perm b) : Val b :=
  ⟨fun x hx => h.one x (hp.mem_iff.mpr hx), h.apt.perm hp, fun x hx => (h.par x (hp.mem_iff.mpr hx)).more fun _ hy => hp.mem_iff.mp hy,
   fun x hx y hy => h.cls x (hp.mem_iff.mpr hx) y (hp.mem_iff.mpr hy)⟩
/-- q lies below p -/
def Und (p q : List Int) : Prop := ∃ r, r ≠ [] ∧ q = p ++ 47 :: r
theorem path_par {zs : List Int} (h : chE zs = 0) (hp : parZ zs ≠ []) : ∃ s, s ≠ [] ∧ (47 : Int) ∉ s ∧ zs = parZ zs ++ 47 :: s := by
  obtain ⟨h1, h2 | h2⟩ := par_bas zs
  · exact absurd h2.2.1 hp
  · refine ⟨basZ zs, ?_, h1, h2.2⟩
    have := (chE_zero.mp h).2
    rw [h2.2, pathOk_app, pathOk_one h1] at this
    exact this.2.1
theorem path_ne {zs : List Int} (h : chE zs = 0) : zs ≠ [] := by
  rintro rfl
  exact absurd ((pathOk_one (c := []) (by simp)).mp (chE_zero.mp h).2).1 (by simp)
theorem cut_last {P Q r s : List Int} (h : P ++ 47 :: r = Q ++ 47 :: s) (hs : (47 : Int) ∉ s) : (Q = P ∧ r = s) ∨ ∃ u, Q = P ++ 47 :: u ∧ r = u ++ 47 :: s := by
  rcases List.append_eq_append_iff.mp h with ⟨a, e1, e2⟩ | ⟨a, e1, e2⟩
  · cases a with
    | nil =>
      rw [List.append_nil] at e1
      rw [List.nil_append] at e2
      exact .inl ⟨e1, (List.cons.inj e2).2⟩
    | cons z u =>
      rw [List.cons_append] at e2
      have := List.cons.inj e2
      rw [← this.1] at e1
      exact .inr ⟨u, e1, this.2⟩
  · cases a with
    | nil =>
      rw [List.append_nil] at e1
      rw [List.nil_append] at e2
      exact .inl ⟨e1.symm, (List.cons.inj e2).2.symm⟩
    | cons z u =>
      rw [List.cons_append] at e2
      have := List.cons.inj e2
      exact absurd (show (47 : Int) ∈ s by rw [this.2]; simp) hs
/-- below a node: some node's parent is that node -/
theorem und_child {x : Nd} {m : List Nd} (h : Val (x :: m)) : ∀ (n : Nat) {y : Nd}, y ∈ m → (key y).length ≤ n → Und (key x) (key y) → ∃ z ∈ m, parZ (key z) = key x
  | 0, y, _, hn, ⟨r, _, e⟩ => by rw [e] at hn; simp at hn
  | n + 1, y, hy, hn, ⟨r, hr, e⟩ => by
    have hv := (one_c (h.one y (List.mem_cons_of_mem _ hy))).2.2.2.2.2
    by_cases hp : parZ (key y) = []
    · obtain ⟨h1, h2 | h2⟩ := par_bas (key y)
      · exfalso
        refine h1 ?_
        rw [h2.2.2, e]; simp
      · exfalso
        have h3 := (chE_zero.mp hv).2
        rw [h2.2, hp, pathOk_app, pathOk_one (c := []) (by simp)] at h3
        exact h3.1.1 rfl
    · obtain ⟨s, hs, hns, e'⟩ := path_par hv hp
      rcases cut_last (e.symm.trans e') hns with ⟨e1, _⟩ | ⟨u, e1, e2⟩
      · exact ⟨y, hy, e1⟩
      · have hu : u ≠ [] := by
          rintro rfl
          have h3 := (chE_zero.mp hv).2
          rw [e, e2, List.nil_append, pathOk_app] at h3
          have h4 := h3.2
          rw [show (47 :: s : List Int) = [] ++ 47 :: s from rfl, pathOk_app, pathOk_one (c := []) (by simp)] at h4
          exact h4.1.1 rfl
        rcases h.par y (List.mem_cons_of_mem _ hy) with e0 | ⟨z, hz, _, ez⟩
        · exact absurd e0 hp
        · rcases List.mem_cons.mp hz with rfl | hz
          · rw [e1] at ez
            have := congrArg List.length ez
            rw [List.length_append, List.length_cons] at this
            omega
          · refine und_child h n hz ?_ ⟨u, hu, ez.trans e1⟩
            have h5 : (key z).length = (parZ (key y)).length := by rw [ez]
            have h6 := congrArg List.length e'
            rw [List.length_append, List.length_cons] at h6
            omega
theorem rem_ok {x : Nd} {m : List Nd} (h : Val (x :: m)) (hn : ∀ y ∈ m, ¬ Und (key x) (key y)) : Val m := by
  refine ⟨fun y hy => h.one y (List.mem_cons_of_mem _ hy), (List.pairwise_cons.mp h.apt).2, fun y hy => ?_, fun y hy z hz => h.cls y (List.mem_cons_of_mem _ hy) z (List.mem_cons_of_mem _ hz)⟩
  rcases h.par y (List.mem_cons_of_mem _ hy) with e | ⟨z, hz, hk, e⟩
  · exact .inl e
  · rcases List.mem_cons.mp hz with rfl | hz
    · by_cases hp : parZ (key y) = []
      · exact .inl hp
      · obtain ⟨s, hs, _, e'⟩ := path_par (one_c (h.one y (List.mem_cons_of_mem _ hy))).2.2.2.2.2 hp
        exact absurd ⟨s, hs, by rw [e]; exact e'⟩ (hn y hy)
    · exact .inr ⟨z, hz, hk, e⟩
theorem rem_bad {x : Nd} {m : List Nd} (h : Val (x :: m)) (hn : ∃ y ∈ m, Und (key x) (key y)) : ∃ k : Nat, k < m.length ∧ chk m = ((k : Int), 13) := by
  obtain ⟨y, hy, hu⟩ := hn
  obtain ⟨z, hz, ez⟩ := und_child h _ hy (Nat.le_refl _) hu
  have hnp : ¬ Par m z := by
    rintro (e | ⟨v, hv, _, e⟩)
    · exact path_ne (one_c (h.one x (List.mem_cons_self ..))).2.2.2.2.2 (ez.symm.trans e)
    · exact (List.pairwise_cons.mp h.apt).1 v hv (nums_inj (ez.symm.trans e.symm))
  have ho : ∀ j, j < m.length → oneE (nd m j) = 0 := fun j hj => h.one _ (List.mem_cons_of_mem _ (nd_mem hj))
  have ha : Apt m := (List.pairwise_cons.mp h.apt).2
  have hv : ∀ j, j < m.length → togE m j ≠ 0 → togE m j = 13 := fun j hj => by
    unfold togE
    rw [if_neg (apt_dup.mp ha j hj)]
    by_cases hp : Par m (nd m j)
    · rw [if_neg fun h => h hp, if_neg (Val.notOdd (fun a ha b hb => h.cls a (List.mem_cons_of_mem _ ha) b (List.mem_cons_of_mem _ hb)) (nd_mem hj))]
      exact fun h => absurd rfl h
    · rw [if_pos hp]; exact fun _ => rfl
  obtain ⟨i, hi, rfl⟩ := nd_of hz
  cases e : fstE (togE m) m.length with
  | none => exact absurd (tog_zero.mp (fst_none.mp e i hi)).2.1 hnp
  | some k =>
    have hk := fst_get e
    exact ⟨k, hk.1, by rw [chk_tog ho hk.1 hk.2.2 hk.2.1, hv k hk.1 hk.2.1]⟩

/-! two nodes of one class -/
def twoF (p : ByteArray) (m : Int) (d : List Int) (c : Int) : Nd := { k := 1, p := p, m := m, t := emp, d := d, c := c }
theorem one_twoF {p : ByteArray} {m : Int} {d : List Int} {c : Int} (hp : chE (numsOf p) = 0) (h0 : 0 ≤ m) (h1 : m ≤ 4095) (hd : d.length ≤ 1000) (hc : 0 ≤ c) : oneE (twoF p m d c) = 0 := by
  unfold oneE twoF entN ckE tgE szE
  have e1 : ¬ (m < 0 ∨ 4095 < m) := by omega
  have e2 : ¬ ((d.length : Int) < 0 ∨ 1099511627776 < (d.length : Int)) := by omega
  simp [hp, e1, e2]
  omega
theorem two_chk {p q : ByteArray} {m n : Int} {a b : List Int} {c c' : Int} (hp : chE (numsOf p) = 0) (hq : chE (numsOf q) = 0) (hpq : p ≠ q) (pp : parZ (numsOf p) = []) (pq : parZ (numsOf q) = [])
    (m0 : 0 ≤ m) (m1 : m ≤ 4095) (n0 : 0 ≤ n) (n1 : n ≤ 4095) (ha : a.length ≤ 1000) (hb : b.length ≤ 1000) (hc : 0 < c) (hc' : 0 < c') :
    chk [twoF p m a c, twoF q n b c'] = if c = c' ∧ ¬ (m = n ∧ a = b) then (1, 15) else (2, 0) := by
  have ho : ∀ j, j < [twoF p m a c, twoF q n b c'].length → oneE (nd [twoF p m a c, twoF q n b c'] j) = 0 := fun j hj => by
    match j, hj with
    | 0, _ => exact one_twoF hp m0 m1 ha (by omega)
    | 1, _ => exact one_twoF hq n0 n1 hb (by omega)
  have t0 : togE [twoF p m a c, twoF q n b c'] 0 = 0 := by
    refine tog_zero.mpr ⟨fun ⟨j, hj, _⟩ => absurd hj (Nat.not_lt_zero j), .inl pp, ?_⟩
    rintro ⟨_, y, hy, hn⟩
    have e : [twoF p m a c, twoF q n b c'].find? (fun y => decide (y.c = (nd [twoF p m a c, twoF q n b c'] 0).c)) = some (twoF p m a c) := by
      rw [List.find?_cons_of_pos]; exact decide_eq_true rfl
    rw [e] at hy
    injection hy with hy
    exact hn (by rw [← hy]; exact ⟨rfl, rfl⟩)
  have d1 : ¬ Dup [twoF p m a c, twoF q n b c'] 1 := by
    rintro ⟨j, hj, e⟩
    obtain rfl : j = 0 := by omega
    exact hpq e
  by_cases hcc : c = c'
  · subst hcc
    have e : [twoF p m a c, twoF q n b c].find? (fun y => decide (y.c = (nd [twoF p m a c, twoF q n b c] 1).c)) = some (twoF p m a c) := by
      rw [List.find?_cons_of_pos]; exact decide_eq_true rfl
    by_cases hs : m = n ∧ a = b
    · rw [if_neg fun h => h.2 hs]
      refine chk_fine ho fun j hj => ?_
      match j, hj with
      | 0, _ => exact t0
      | 1, _ =>
        refine tog_zero.mpr ⟨d1, .inl pq, ?_⟩
        rintro ⟨_, y, hy, hn⟩
        rw [e] at hy
        injection hy with hy
        exact hn (by rw [← hy]; exact hs)
    · rw [if_pos ⟨rfl, hs⟩]
      have t1 : togE [twoF p m a c, twoF q n b c] 1 = 15 := by
        unfold togE
        rw [if_neg d1, if_neg fun h => h (.inl pq), if_pos]
        exact ⟨fun h => by have : c = 0 := h; omega, _, e, hs⟩
      rw [chk_tog ho (i := 1) (by simp) (fun j hj => by obtain rfl : j = 0 := by omega
                                                        exact t0) (by rw [t1]; decide), t1]; rfl
  · rw [if_neg fun h => hcc h.1]
    refine chk_fine ho fun j hj => ?_
    match j, hj with
    | 0, _ => exact t0
    | 1, _ =>
      refine tog_zero.mpr ⟨d1, .inl pq, ?_⟩
      rintro ⟨_, y, hy, hn⟩
      have e : [twoF p m a c, twoF q n b c'].find? (fun y => decide (y.c = (nd [twoF p m a c, twoF q n b c'] 1).c)) = some (twoF q n b c') := by
        rw [List.find?_cons_of_neg (by rw [decide_eq_true_iff]; exact hcc), List.find?_cons_of_pos]; exact decide_eq_true rfl
      rw [e] at hy
      injection hy with hy
      exact hn (by rw [← hy]; exact ⟨rfl, rfl⟩)
end Go.Proofs.YtinmkgpmoclcoaaDoor.Tre
/-
  Layer 13: what the maps say of a list: plain mathematics.
-/
namespace Go.Proofs.YtinmkgpmoclcoaaDoor.Tre
open Go.RowKit Go.MapKept Go.Proofs.YtinmkgpmoclcoaaDoor.Fit Pnm

theorem fk_inv {f : Nat → Value} : ∀ {n : Nat} {v z : Value}, fk f n v = some z → ∃ i, i < n ∧ z = .int .i64 i ∧ f i = v ∧ ∀ k, k < i → f k ≠ v
  | 0, v, z, h => by rw [fk] at h; cases h
  | n + 1, v, z, h => by
    cases e : fk f n v with
    | some x =>
      rw [fk, e] at h
      obtain ⟨i, h1, h2, h3, h4⟩ := fk_inv e
      cases h
      exact ⟨i, by omega, h2, h3, h4⟩
    | none =>
      have hn := fk_none.mp e
      rw [fk, e] at h
      by_cases c : v = f n
      · subst c
        have h' : some (Value.int .i64 n) = some z := (upd_same (fun _ => none) (f n) (.int .i64 n)).symm.trans h
        cases h'
        exact ⟨n, by omega, rfl, rfl, hn⟩
      · have h' : none = some z := (upd_ne (F := fun _ => none) c).symm.trans h
        cases h'
theorem fk_has {f : Nat → Value} {n j : Nat} (hj : j < n) : ∃ i, i ≤ j ∧ fk f n (f j) = some (.int .i64 i) ∧ f i = f j ∧ ∀ k, k < i → f k ≠ f j := by
  cases e : fk f n (f j) with
  | none => exact absurd rfl (fk_none.mp e j hj)
  | some z =>
    obtain ⟨i, h1, rfl, h3, h4⟩ := fk_inv e
    refine ⟨i, ?_, rfl, h3, h4⟩
    apply Decidable.byContradiction
    intro c
    exact h4 j (by omega) rfl
theorem pk_eq {ys : List NdS} {i j : Nat} : pk ys i = pk ys j ↔ (nd (nds ys) i).p = (nd (nds ys) j).p := by
  unfold pk; constructor
  · intro h; cases h' : (nd (nds ys) i).p; rw [h'] at h; injection h
  · intro h; rw [h]
theorem dup_has {ys : List NdS} {n j : Nat} (hj : j < n) : ∃ i, i ≤ j ∧ fk (pk ys) n (pk ys j) = some (.int .i64 i) ∧ (i ≠ j ↔ Dup (nds ys) j) := by
  obtain ⟨i, h1, h2, h3, h4⟩ := fk_has (f := pk ys) hj
  refine ⟨i, h1, h2, fun h => ⟨i, by omega, pk_eq.mp h3⟩, ?_⟩
  rintro ⟨k, k1, k2⟩ rfl
  exact h4 k k1 (pk_eq.mpr k2)
theorem str_emp' {zs : List Int} : strOfNums zs = emp ↔ zs = [] := by
  constructor
  · intro h
    have := congrArg ByteArray.size h
    rw [strOfNums_size] at this
    exact List.length_eq_zero_iff.mp this
  · rintro rfl; rfl
theorem par_bytes (p : ByteArray) : Bytes (parZ (numsOf p)) := by
  unfold parZ
  split
  · intro z hz; cases hz
  · intro z hz; exact numsOf_bd p z (List.mem_of_mem_take hz)
theorem par_key {p q : ByteArray} : numsOf q = parZ (numsOf p) ↔ q = strOfNums (parZ (numsOf p)) := by
  constructor
  · intro h; rw [← h, strOfNums_numsOf]
  · rintro rfl; exact numsOf_strOfNums (par_bytes p)
theorem par_has {ys : List NdS} {x : Nd} : Par (nds ys) x ↔ strOfNums (parZ (key x)) = emp ∨ ∃ i, i < ys.length ∧ kk ys i = 0 ∧ pk ys i = .string (strOfNums (parZ (key x))) := by
  unfold Par
  rw [str_emp']
  constructor
  · rintro (h | ⟨y, hy, h1, h2⟩)
    · exact .inl h
    · obtain ⟨i, hi, rfl⟩ := nd_of hy
      rw [nds_len] at hi
      exact .inr ⟨i, hi, h1, by unfold pk; rw [par_key.mp h2]; rfl⟩
  · rintro (h | ⟨i, hi, h1, h2⟩)
    · exact .inl h
    · refine .inr ⟨nd (nds ys) i, nd_mem (by rw [nds_len]; exact hi), h1, par_key.mpr ?_⟩
      unfold pk at h2
      injection h2
theorem find_first {l : List Nd} {c : Int} {i : Nat} (hi : i < l.length) (h : (nd l i).c = c) (hb : ∀ k, k < i → (nd l k).c ≠ c) : l.find? (fun y => decide (y.c = c)) = some (nd l i) := by
  rw [List.find?_eq_some_iff_getElem]
  refine ⟨decide_eq_true h, i, hi, (nd_get hi).symm, fun j hj => ?_⟩
  have := hb j hj
  rw [nd_get (by omega)] at this
  simp [this]
theorem odd_has {ys : List NdS} {j : Nat} (hj : j < ys.length) : ∃ i, i ≤ j ∧ fk (ck ys) ys.length (ck ys j) = some (.int .i64 i) ∧ ((nd (nds ys) j).c ≠ 0 → (Odd (nds ys) (nd (nds ys) j) ↔ ¬ ((nd (nds ys) j).m = (nd (nds ys) i).m ∧ (nd (nds ys) j).d = (nd (nds ys) i).d))) := by
  obtain ⟨i, h1, h2, h3, h4⟩ := fk_has (f := ck ys) hj
  have hc : (nd (nds ys) i).c = (nd (nds ys) j).c := by unfold ck at h3; injection h3
  have hb : ∀ k, k < i → (nd (nds ys) k).c ≠ (nd (nds ys) j).c := fun k hk e => h4 k hk (by unfold ck; rw [e])
  have hf := find_first (l := nds ys) (by rw [nds_len]; omega) hc hb
  refine ⟨i, h1, h2, fun h0 => ?_⟩
  unfold Odd
  constructor
  · rintro ⟨_, y, hy, h⟩ ⟨e1, e2⟩
    rw [hf] at hy
    cases hy
    exact h ⟨e1.symm, e2.symm⟩
  · intro h
    exact ⟨h0, _, hf, fun ⟨e1, e2⟩ => h ⟨e1.symm, e2.symm⟩⟩
/-- the error of one node among the others, by its three tests -/
theorem tog_by {l : List Nd} {i : Nat} {R : Int} (hR : R = togE l i) : (Dup l i → R = 14) ∧ (¬ Dup l i → ¬ Par l (nd l i) → R = 13) ∧ (¬ Dup l i → Par l (nd l i) → Odd l (nd l i) → R = 15) ∧ (¬ Dup l i → Par l (nd l i) → ¬ Odd l (nd l i) → R = 0) := by
  rw [hR]
  unfold togE
  refine ⟨fun h => if_pos h, fun h h' => ?_, fun h h' h2 => ?_, fun h h' h2 => ?_⟩
  · rw [if_neg h, if_pos h']
  · rw [if_neg h, if_neg (fun c => c h'), if_pos h2]
  · rw [if_neg h, if_neg (fun c => c h'), if_neg h2]
end Go.Proofs.YtinmkgpmoclcoaaDoor.Tre
/-
  Layer 8: the reference's Join; strings as numbers.
-/
namespace Go.Proofs.YtinmkgpmoclcoaaDoor.Pnm
open Go.RowKit

theorem wrapP {z : Int} (h1 : 0 ≤ z) (h2 : z ≤ 9223372036854775807) : IntKind.i64.wrap z = z := by
  have hb : IntKind.i64.bits = 64 := rfl
  have hs : IntKind.i64.signed = true := rfl
  unfold IntKind.wrap
  simp only [hb, hs, Bool.true_and]
  have e : (2 : Int) ^ 64 = 18446744073709551616 := by decide
  have e' : (2 : Int) ^ (64 - 1) = 9223372036854775808 := by decide
  rw [e, e', Int.emod_eq_of_lt h1 (by omega), if_neg (by simp; omega)]
theorem bytes_neq {s t : ByteArray} (h : ¬ s = t) : (s.toList == t.toList) = false := by
  rw [beq_eq_false_iff_ne]
  exact fun e => h (by
    apply ByteArray.ext
    apply Array.ext'
    rw [ByteArray.toList_eq, ByteArray.toList_eq] at e
    exact e)
theorem empty_no {s : ByteArray} (h : ¬ s = { data := #[] }) : s.toList.isEmpty = false := by
  have h1 := bytes_neq h
  have e : ({ data := #[] } : ByteArray).toList = [] := by rw [ByteArray.toList_eq]
  rw [e] at h1
  cases hl : s.toList with
  | nil => rw [hl] at h1; simp at h1
  | cons x xs => rfl
theorem nums_cat (s t : ByteArray) : numsOf (s ++ t) = numsOf s ++ numsOf t := by
  unfold numsOf
  rw [ByteArray.data_append, Array.toList_append, List.map_append]
theorem num_at (s : ByteArray) (j : Nat) (h : j < s.size) : (numsOf s).getD j 0 = (s[j].toNat : Int) := by
  have h1 : (numsOf s)[j]? = some (s[j].toNat : Int) := by
    unfold numsOf
    rw [List.getElem?_map, Array.getElem?_toList, Array.getElem?_eq_getElem (by exact h)]
    rfl
  rw [List.getD_eq_getElem?_getD, h1]; rfl

theorem nums_ext (s : ByteArray) (a b : Nat) : numsOf (s.extract a b) = ((numsOf s).drop a).take (b - a) := by
  unfold numsOf
  rw [ByteArray.data_extract, Array.toList_extract, List.extract_eq_take_drop, List.map_take, List.map_drop]
theorem ext_str (s : ByteArray) (a b : Nat) : s.extract a b = strOfNums (((numsOf s).drop a).take (b - a)) := by
  rw [← nums_ext, strOfNums_numsOf]

end Go.Proofs.YtinmkgpmoclcoaaDoor.Pnm
/-
  Layer 8: the reference.
-/
namespace Go.Proofs.YtinmkgpmoclcoaaDoor.Pnm
open Go.RowKit

set_option maxHeartbeats 1000000 in
theorem rlast_any (s : ByteArray) (w : World) (hs : s.size ≤ maxLen) : Calls Tryd.prog 57 #[.string s] w fun e w' => e = .returned (.int .i64 (lastZ (numsOf s))) ∧ w = w' := by
  unfold maxLen at hs
  obtain ⟨L, hL⟩ := named (lastZ (numsOf s))
  have HL : Hid (L = lastF (numsOf s) s.size) := by show _ = _; rw [hL.out]; unfold lastZ; rw [numsOf_length]
  have HA : Hid (∀ j (h : j < s.size), (numsOf s).getD j 0 = (s[j].toNat : Int)) := num_at s
  rw [← hL.out]
  clear hL
  go_enter Tryd.func57, Tryd.ntmps57
  go_wp2
  go_loop [3] (fun i => ∃ v : Int, i = .int .i64 v ∧ -1 ≤ v ∧ v < s.size ∧ lastF (numsOf s) (v + 1).toNat = L) (fun i => (intOf i + 1).toNat)
  case atStart => exact ⟨(s.size : Int) - 1, by go_num, by omega, by omega, by rw [HL.out]; congr 1; omega⟩
  case round =>
    obtain ⟨v, rfl, hv1, hv2, hv3⟩ := hrel
    by_cases h0 : 0 ≤ v
    · obtain ⟨k, rfl⟩ : ∃ k : Nat, v = k := ⟨v.toNat, by omega⟩
      have hk : k < s.size := by omega
      have e1 : ((k : Int) + 1).toNat = k + 1 := by omega
      rw [e1] at hv3
      have hx := HA.out k hk
      by_cases hb : (s[k].toNat : Int) = 47
      · have hb' : ((s[k].toNat : Int) == 47) = true := by rw [hb]; rfl
        have e2 : L = k := by rw [← hv3]; unfold lastF; rw [if_pos (by rw [hx]; exact hb)]
        clear hx
        go_wp2
        go_ret
        exact ⟨rfl, rfl⟩
      · have hb' : ((s[k].toNat : Int) == 47) = false := by simpa using hb
        have e2 : lastF (numsOf s) k = L := by rw [← hv3]; conv => rhs; unfold lastF; rw [if_neg (by rw [hx]; exact hb)]
        have E2 := Lib.hid e2
        clear hx hv3 e2
        go_wp2
        go_round
        case rel => exact ⟨(k : Int) - 1, by go_num, by omega, by omega, by rw [← E2.out]; congr 1; omega⟩
        case measure => simp [intOf]
    · obtain rfl : v = -1 := by omega
      have e2 : L = -1 := by rw [← hv3]; rfl
      clear hv3
      go_wp2
      go_ret
      exact ⟨rfl, rfl⟩

set_option maxHeartbeats 1000000 in
theorem rparent_any (s : ByteArray) (w : World) (hs : s.size ≤ maxLen) : Calls Tryd.prog 35 #[.string s] w fun e w' => e = .returned (.string (strOfNums (parZ (numsOf s)))) ∧ w = w' := by
  have hb := lastF_bd (numsOf s) (numsOf s).length
  rw [numsOf_length] at hb
  obtain ⟨L, hL⟩ := named (lastZ (numsOf s))
  have hb' : -1 ≤ L ∧ L < s.size := by rw [hL.out]; unfold lastZ; rw [numsOf_length]; exact hb
  obtain ⟨b1, b2⟩ := hb'
  unfold maxLen at hs
  have HS := Lib.hid hs
  clear hb
  by_cases h0 : L < 0
  · have e : parZ (numsOf s) = [] := by unfold parZ; rw [← hL.out, if_pos h0]
    rw [e]
    go_enter Tryd.func35, Tryd.ntmps35
    go_wp2_with fail
    refine (rlast_any s w HS.out).mono ?_; rintro e w1 ⟨rfl, rfl⟩
    rw [← hL.out]
    go_wp2_with fail
    go_ret
    exact ⟨rfl, rfl⟩
  · obtain ⟨k, rfl⟩ : ∃ k : Nat, L = k := ⟨L.toNat, by omega⟩
    have e : parZ (numsOf s) = (numsOf s).take k := by unfold parZ; rw [← hL.out, if_neg h0]; rfl
    rw [e]
    go_enter Tryd.func35, Tryd.ntmps35
    go_wp2_with fail
    refine (rlast_any s w HS.out).mono ?_; rintro e w1 ⟨rfl, rfl⟩
    rw [← hL.out]
    go_wp2_with fail
    go_ret
    exact ⟨by show Ending.returned (.string (s.extract 0 k)) = _; rw [ext_str]; rfl, rfl⟩

end Go.Proofs.YtinmkgpmoclcoaaDoor.Pnm
/-
  Layer 8: the reference's Split.
-/
namespace Go.Proofs.YtinmkgpmoclcoaaDoor.Pnm
open Go.RowKit

theorem drop_num (s : ByteArray) (j : Nat) (h : j < s.size) : (numsOf s).drop j = (s[j].toNat : Int) :: (numsOf s).drop (j + 1) := by
  have hl : j < (numsOf s).length := by rw [numsOf_length]; exact h
  rw [List.drop_eq_getElem_cons hl]
  have := num_at s j h
  rw [List.getD_eq_getElem?_getD, List.getElem?_eq_getElem hl] at this
  rw [← this]; rfl
theorem drop_all (s : ByteArray) : (numsOf s).drop s.size = [] := by rw [List.drop_eq_nil_iff, numsOf_length]; exact Nat.le_refl _

end Go.Proofs.YtinmkgpmoclcoaaDoor.Pnm
/-
  Layer 8: the reference's Compare, Split.
-/
namespace Go.Proofs.YtinmkgpmoclcoaaDoor.Pnm
open Go.RowKit

set_option maxRecDepth 100000 in
set_option maxHeartbeats 4000000 in
theorem rcmp_any (s t : ByteArray) (w : World) (hs : s.size ≤ maxLen) : Calls Tryd.prog 34 #[.string s, .string t] w fun e w' => e = .returned (.int .i64 (cmpZ (numsOf s) (numsOf t))) ∧ Below w.heap.size w w' := by
  unfold maxLen at hs
  obtain ⟨C, hC⟩ := named (cmpZ (numsOf s) (numsOf t))
  rw [← hC.out]
  have DS : Hid (∀ j (h : j < s.size), (numsOf s).drop j = (s[j].toNat : Int) :: (numsOf s).drop (j + 1)) := drop_num s
  have DT : Hid (∀ j (h : j < t.size), (numsOf t).drop j = (t[j].toNat : Int) :: (numsOf t).drop (j + 1)) := drop_num t
  go_enter Tryd.func34, Tryd.ntmps34
  go_wp2_with fail
  go_loopw [5] (fun i wr => ∃ j : Nat, j ≤ s.size ∧ j ≤ t.size ∧ i = .int .i64 j ∧ cmpZ ((numsOf s).drop j) ((numsOf t).drop j) = C ∧ Below w.heap.size w wr) (fun i _ => s.size + 1 - (intOf i).toNat)
  case atStart => exact ⟨0, Nat.zero_le _, Nat.zero_le _, rfl, hC.out.symm, Below.refl _ _⟩
  case round =>
    obtain ⟨j, hj1, hj2, rfl, hc, hb⟩ := hrel
    have HC := Lib.hid hc; have HB := Lib.hid hb
    clear hc hb
    by_cases l1 : j < s.size
    · by_cases l2 : j < t.size
      · have m1 : (j : Int) < s.size := by omega
        have m2 : (j : Int) < t.size := by omega
        have d1 := DS.out j l1
        have d2 := DT.out j l2
        obtain ⟨x, hx⟩ : ∃ x : Int, ((s[j].toNat : Nat) : Int) = x := ⟨_, rfl⟩
        obtain ⟨y, hy⟩ : ∃ y : Int, ((t[j].toNat : Nat) : Int) = y := ⟨_, rfl⟩
        rw [hx] at d1; rw [hy] at d2
        have hc := HC.out
        rw [d1, d2, cmpZ] at hc
        have HC2 := Lib.hid hc
        clear d1 d2 hc
        by_cases o1 : x < y
        · have e : Hid (C = -1) := by show _ = _; rw [← HC2.out, if_pos o1]
          go_wp2_with fail
          go_quiet (fail)
          go_wp2
          go_ret
          rw [e.out]
          exact ⟨rfl, HB.out.trans (drewN_below _ _ _)⟩
        · by_cases o2 : y < x
          · have e : Hid (C = 1) := by show _ = _; rw [← HC2.out, if_neg o1, if_pos o2]
            go_wp2_with fail
            go_quiet (fail)
            go_wp2
            go_quiet (fail)
            go_wp2
            go_ret
            rw [e.out]
            exact ⟨rfl, (HB.out.trans (drewN_below _ _ _)).trans (drewN_below _ _ _)⟩
          · have e : Hid (cmpZ ((numsOf s).drop (j + 1)) ((numsOf t).drop (j + 1)) = C) := by show _ = _; rw [← HC2.out, if_neg o1, if_neg o2]
            go_wp2_with fail
            go_quiet (fail)
            go_wp2
            go_quiet (fail)
            go_wp2
            go_roundw
            case rel => exact ⟨j + 1, by omega, by omega, by go_num, e.out, HB.out.trans (drewN_below _ _ _)⟩
            case measure => simp [intOf]; omega
      · obtain rfl : j = t.size := by omega
        have m1 : ((t.size : Nat) : Int) < s.size := by omega
        have m2 : ¬ ((s.size : Nat) : Int) < t.size := by omega
        have e : Hid (C = 1) := by
          show _ = _
          rw [← HC.out, drop_all, DS.out _ l1]; rfl
        go_wp2
        go_ret
        rw [e.out]
        exact ⟨rfl, HB.out⟩
    · obtain rfl : j = s.size := by omega
      by_cases l2 : s.size < t.size
      · have m1 : ((s.size : Nat) : Int) < t.size := by omega
        have e : Hid (C = -1) := by
          show _ = _
          rw [← HC.out, drop_all, DT.out _ l2]; rfl
        go_wp2
        go_ret
        rw [e.out]
        exact ⟨rfl, HB.out⟩
      · have m1 : ¬ ((s.size : Nat) : Int) < t.size := by omega
        have m2 : ¬ ((t.size : Nat) : Int) < s.size := by omega
        have e : Hid (C = 0) := by
          show _ = _
          rw [← HC.out, drop_all, show s.size = t.size by omega, drop_all]; rfl
        go_wp2
        go_ret
        rw [e.out]
        exact ⟨rfl, HB.out⟩
end Go.Proofs.YtinmkgpmoclcoaaDoor.Pnm
/-
  Layer 13: the program's firsts (by path).
-/
namespace Go.Proofs.YtinmkgpmoclcoaaDoor.Tre
open Go.RowKit Go.MapKept Go.Proofs.YtinmkgpmoclcoaaDoor.Fit

set_option maxRecDepth 100000 in
set_option maxHeartbeats 4000000 in
theorem firstsP_any (a : Option Addr) (n cap : Nat) (ys : List NdS) (w : World) (ha : ArgNds w a n cap ys) :
    Calls Tryd.prog 58 #[.slice a n cap, .func (.func 59) #[] #[]] w fun e w' => ∃ g N, e = .returned (.map (some g)) ∧ MapF w' g .string N (fk (pk ys) n) ∧ w.heap.size ≤ g ∧ Below w.heap.size w w' := by
  have HA := Lib.hid ha
  have NZ := Lib.hid zNd
  have NO := Lib.hid ndT
  have ZI : Hid ((Tryd.prog.info? 3).map (·.zero) = some (some (.int .i64 0))) := by show _ = _; kernel_rfl
  have UM := Lib.hid Tryd.underlying58
  have UK := Lib.hid Tryd.underlying9
  have hn : n ≤ maxLen := Nat.le_trans ha.c ha.m
  unfold maxLen at hn
  clear ha
  go_enter Tryd.func58, Tryd.ntmps58
  go_wp2_with (first | (refine wpList_make_mapF rfl _ rfl .string ?_; intro w1 m1 b1; have M1 := Lib.hid m1; have B1 := Lib.hid b1; have S1 := Lib.hid m1.lt; clear m1 b1))
  go_loopw [13] (fun i wr => ∃ j N : Nat, i = .int .i64 j ∧ j ≤ n ∧ MapF wr w.heap.size .string N (fk (pk ys) j) ∧ Below w.heap.size w wr) (fun i _ => n - (intOf i).toNat)
  case atStart => exact ⟨0, 0, rfl, Nat.zero_le _, by rw [fk_zero]; exact M1.out, B1.out⟩
  case round =>
    obtain ⟨j, N, rfl, hj, hM, hB⟩ := hrel
    have HM := Lib.hid hM; have HB := Lib.hid hB
    have W0 : Hid (w.heap.size < wr.heap.size) := hM.lt
    clear hM hB
    by_cases hjn : j < n
    · obtain ⟨b, off, y, rfl, hb, hy, hf, hat⟩ := HA.out.get j hjn
      have hat' := hat.below HB.out hb
      obtain ⟨c0, c1, c2, c3, c4, c5⟩ := hat'.c hy
      have e1 : pk ys j = .string y.n.p := by unfold pk; rw [nd_y hy]
      have E1 : Hid (pk ys j = .string y.n.p) := e1
      clear hat hat' e1 hf hy
      obtain ⟨⟨k, p, m, t, d, c⟩, x, xc⟩ := y
      obtain ⟨L, hL⟩ := named d.length
      have c4' : wr.cell? ⟨b, off + j * 6 + 4, none⟩ = some (.slice x L xc) := by rw [hL.out]; exact c4
      clear c4 hL
      have EJ : Hid (pk ys j = .string p) := E1.out
      clear E1
      have j1 : (j : Int) < n := by omega
      have NB : Hid (b < w.heap.size) := hb
      clear hb hjn
      go_wp2_with (first | (refine wpList_alloc_obj rfl 55 rfl (ndL 0 emp 0 emp none 0 0 0) NZ.out ?_; intro w2 g2 b2; have G2 := Lib.hid g2; have M2 := Lib.hid (HM.out.below b2 HM.out.lt); have B2 := Lib.hid (HB.out.trans (b2.mono (Nat.le_of_lt W0.out))); have W2 := Lib.hid b2.size; clear g2 b2 c0 c1 c2 c3 c4' c5) | (refine wpList_store_obj rfl 55 _ _ rfl wr.heap.size rfl (ndL k p m t x L xc c) (ndL 0 emp 0 emp none 0 0 0) rfl 55 G2.out NO.out.2 rfl (nd_one _ _ _ _ _ _ _ _) ?_; intro w3 g3 t3; have G3 := Lib.hid g3; have M3 := Lib.hid (M2.out.block (t3.other (Nat.ne_of_lt W0.out))); have B3 := Lib.hid (B2.out.trans (t3.below (Nat.le_of_lt W0.out))); have W3 := Lib.hid (Nat.le_trans W2.out (Nat.le_of_eq t3.size.symm)); have c0 := g3.get 0 rfl; have c1 := g3.get 1 rfl; have c2 := g3.get 2 rfl; have c3 := g3.get 3 rfl; have c4 := g3.get 4 rfl; have c5 := g3.get 5 rfl; clear g3 t3))
      refine (pathOf_any k p m t x L xc c w3).mono ?_; rintro e w4 ⟨rfl, b4⟩
      have G4 := Lib.hid (G3.out.below b4 G3.out.lt)
      have M4 := Lib.hid (M3.out.below b4 M3.out.lt)
      have B4 := Lib.hid (belT B3.out b4)
      clear b4 c0 c1 c2 c3 c4 c5
      obtain ⟨q1, q2⟩ := run_lookF (P := Tryd.prog) (w := w4) 58 9 3 UM.out .string UK.out (.int .i64 0) ZI.out w.heap.size N (.string p) (show IsKey .string (.string p) from trivial) (fk (pk ys) j) M4.out
      clear q2
      cases hF : fk (pk ys) j (.string p) with
      | some z =>
        have FJ : Hid (fk (pk ys) (j + 1) = fk (pk ys) j) := fk_old (by rw [EJ.out, hF]; rfl)
        rw [hF] at q1
        simp only [Option.getD_some, Option.isSome_some] at q1
        clear hF
        go_wp2_with fail
        go_round
        case rel => exact ⟨j + 1, N, by go_num, by omega, by rw [FJ.out]; exact M4.out, B4.out⟩
        case measure => simp [intOf]; omega
      | none =>
        have FJ : Hid (fk (pk ys) (j + 1) = upd (fk (pk ys) j) (.string p) (.int .i64 j)) := by show _ = _; rw [fk_new (by rw [EJ.out, hF]), EJ.out]
        have HF := Lib.hid hF
        rw [hF] at q1
        simp only [Option.getD_none, Option.isSome_none] at q1
        clear hF
        have c0 := G4.out.get 0 rfl
        have c1 := G4.out.get 1 rfl
        have c2 := G4.out.get 2 rfl
        have c3 := G4.out.get 3 rfl
        have c4 := G4.out.get 4 rfl
        have c5 := G4.out.get 5 rfl
        go_wp2_with fail
        refine (pathOf_any k p m t x L xc c w4).mono ?_; rintro e w5 ⟨rfl, b5⟩
        have M5 := Lib.hid (M4.out.below b5 M4.out.lt)
        have B5 := Lib.hid (belT B4.out b5)
        clear b5 c0 c1 c2 c3 c4 c5 q1
        go_wp2_with (first | (refine wpList_update_map rfl 58 _ _ _ rfl 9 3 UM.out .string UK.out w.heap.size rfl (.string p) rfl (show IsKey .string (.string p) from trivial) (.int .i64 j) rfl N _ M5.out ?_; intro w6 m6 t6; have M6 := Lib.hid m6; have B6 := Lib.hid (B5.out.trans (t6.below (Nat.le_refl _))); clear m6 t6))
        go_round
        case rel => exact ⟨j + 1, _, by go_num, by omega, by rw [FJ.out]; exact M6.out, B6.out⟩
        case measure => simp [intOf]; omega
    · obtain rfl : j = n := by omega
      go_wp2
      go_ret
      exact ⟨_, N, rfl, HM.out, Nat.le_refl _, HB.out⟩

end Go.Proofs.YtinmkgpmoclcoaaDoor.Tre
/-
  Layer 13: the program's firsts (by class).
-/
namespace Go.Proofs.YtinmkgpmoclcoaaDoor.Tre
open Go.RowKit Go.MapKept Go.Proofs.YtinmkgpmoclcoaaDoor.Fit

set_option maxRecDepth 100000 in
set_option maxHeartbeats 4000000 in
theorem firstsC_any (a : Option Addr) (n cap : Nat) (ys : List NdS) (w : World) (ha : ArgNds w a n cap ys) :
    Calls Tryd.prog 60 #[.slice a n cap, .func (.func 54) #[] #[]] w fun e w' => ∃ g N, e = .returned (.map (some g)) ∧ MapF w' g (.int .i64) N (fk (ck ys) n) ∧ w.heap.size ≤ g ∧ Below w.heap.size w w' := by
  have HA := Lib.hid ha
  have NZ := Lib.hid zNd
  have NO := Lib.hid ndT
  have ZI : Hid ((Tryd.prog.info? 3).map (·.zero) = some (some (.int .i64 0))) := by show _ = _; kernel_rfl
  have UM := Lib.hid Tryd.underlying86
  have UK := Lib.hid Tryd.underlying3
  have hn : n ≤ maxLen := Nat.le_trans ha.c ha.m
  unfold maxLen at hn
  clear ha
  go_enter Tryd.func60, Tryd.ntmps60
  go_wp2_with (first | (refine wpList_make_mapF rfl _ rfl (.int .i64) ?_; intro w1 m1 b1; have M1 := Lib.hid m1; have B1 := Lib.hid b1; have S1 := Lib.hid m1.lt; clear m1 b1))
  go_loopw [13] (fun i wr => ∃ j N : Nat, i = .int .i64 j ∧ j ≤ n ∧ MapF wr w.heap.size (.int .i64) N (fk (ck ys) j) ∧ Below w.heap.size w wr) (fun i _ => n - (intOf i).toNat)
  case atStart => exact ⟨0, 0, rfl, Nat.zero_le _, by rw [fk_zero]; exact M1.out, B1.out⟩
  case round =>
    obtain ⟨j, N, rfl, hj, hM, hB⟩ := hrel
    have HM := Lib.hid hM; have HB := Lib.hid hB
    have W0 : Hid (w.heap.size < wr.heap.size) := hM.lt
    clear hM hB
    by_cases hjn : j < n
    · obtain ⟨b, off, y, rfl, hb, hy, hf, hat⟩ := HA.out.get j hjn
      have hat' := hat.below HB.out hb
      obtain ⟨c0, c1, c2, c3, c4, c5⟩ := hat'.c hy
      have e1 : ck ys j = .int .i64 y.n.c := by unfold ck; rw [nd_y hy]
      have E1 : Hid (ck ys j = .int .i64 y.n.c) := e1
      clear hat hat' e1 hf hy
      obtain ⟨⟨k, p, m, t, d, c⟩, x, xc⟩ := y
      obtain ⟨L, hL⟩ := named d.length
      have c4' : wr.cell? ⟨b, off + j * 6 + 4, none⟩ = some (.slice x L xc) := by rw [hL.out]; exact c4
      clear c4 hL
      have EJ : Hid (ck ys j = .int .i64 c) := E1.out
      clear E1
      have j1 : (j : Int) < n := by omega
      have NB : Hid (b < w.heap.size) := hb
      clear hb hjn
      go_wp2_with (first | (refine wpList_alloc_obj rfl 55 rfl (ndL 0 emp 0 emp none 0 0 0) NZ.out ?_; intro w2 g2 b2; have G2 := Lib.hid g2; have M2 := Lib.hid (HM.out.below b2 HM.out.lt); have B2 := Lib.hid (HB.out.trans (b2.mono (Nat.le_of_lt W0.out))); have W2 := Lib.hid b2.size; clear g2 b2 c0 c1 c2 c3 c4' c5) | (refine wpList_store_obj rfl 55 _ _ rfl wr.heap.size rfl (ndL k p m t x L xc c) (ndL 0 emp 0 emp none 0 0 0) rfl 55 G2.out NO.out.2 rfl (nd_one _ _ _ _ _ _ _ _) ?_; intro w3 g3 t3; have G3 := Lib.hid g3; have M3 := Lib.hid (M2.out.block (t3.other (Nat.ne_of_lt W0.out))); have B3 := Lib.hid (B2.out.trans (t3.below (Nat.le_of_lt W0.out))); have W3 := Lib.hid (Nat.le_trans W2.out (Nat.le_of_eq t3.size.symm)); have c0 := g3.get 0 rfl; have c1 := g3.get 1 rfl; have c2 := g3.get 2 rfl; have c3 := g3.get 3 rfl; have c4 := g3.get 4 rfl; have c5 := g3.get 5 rfl; clear g3 t3))
      refine (classOf_any k p m t x L xc c w3).mono ?_; rintro e w4 ⟨rfl, b4⟩
      have G4 := Lib.hid (G3.out.below b4 G3.out.lt)
      have M4 := Lib.hid (M3.out.below b4 M3.out.lt)
      have B4 := Lib.hid (belT B3.out b4)
      clear b4 c0 c1 c2 c3 c4 c5
      obtain ⟨q1, q2⟩ := run_lookF (P := Tryd.prog) (w := w4) 86 3 3 UM.out (.int .i64) UK.out (.int .i64 0) ZI.out w.heap.size N (.int .i64 c) (show IsKey (.int .i64) (.int .i64 c) from rfl) (fk (ck ys) j) M4.out
      clear q2
      cases hF : fk (ck ys) j (.int .i64 c) with
      | some z =>
        have FJ : Hid (fk (ck ys) (j + 1) = fk (ck ys) j) := fk_old (by rw [EJ.out, hF]; rfl)
        rw [hF] at q1
        simp only [Option.getD_some, Option.isSome_some] at q1
        clear hF
        go_wp2_with fail
        go_round
        case rel => exact ⟨j + 1, N, by go_num, by omega, by rw [FJ.out]; exact M4.out, B4.out⟩
        case measure => simp [intOf]; omega
      | none =>
        have FJ : Hid (fk (ck ys) (j + 1) = upd (fk (ck ys) j) (.int .i64 c) (.int .i64 j)) := by show _ = _; rw [fk_new (by rw [EJ.out, hF]), EJ.out]
        have HF := Lib.hid hF
        rw [hF] at q1
        simp only [Option.getD_none, Option.isSome_none] at q1
        clear hF
        have c0 := G4.out.get 0 rfl
        have c1 := G4.out.get 1 rfl
        have c2 := G4.out.get 2 rfl
        have c3 := G4.out.get 3 rfl
        have c4 := G4.out.get 4 rfl
        have c5 := G4.out.get 5 rfl
        go_wp2_with fail
        refine (classOf_any k p m t x L xc c w4).mono ?_; rintro e w5 ⟨rfl, b5⟩
        have M5 := Lib.hid (M4.out.below b5 M4.out.lt)
        have B5 := Lib.hid (belT B4.out b5)
        clear b5 c0 c1 c2 c3 c4 c5 q1
        go_wp2_with (first | (refine wpList_update_map rfl 86 _ _ _ rfl 3 3 UM.out (.int .i64) UK.out w.heap.size rfl (.int .i64 c) rfl (show IsKey (.int .i64) (.int .i64 c) from rfl) (.int .i64 j) rfl N _ M5.out ?_; intro w6 m6 t6; have M6 := Lib.hid m6; have B6 := Lib.hid (B5.out.trans (t6.below (Nat.le_refl _))); clear m6 t6))
        go_round
        case rel => exact ⟨j + 1, _, by go_num, by omega, by rw [FJ.out]; exact M6.out, B6.out⟩
        case measure => simp [intOf]; omega
    · obtain rfl : j = n := by omega
      go_wp2
      go_ret
      exact ⟨_, N, rfl, HM.out, Nat.le_refl _, HB.out⟩

end Go.Proofs.YtinmkgpmoclcoaaDoor.Tre
/-
  Layer 13: the program's directoryPaths.
-/
namespace Go.Proofs.YtinmkgpmoclcoaaDoor.Tre
open Go.RowKit Go.MapKept Go.Proofs.YtinmkgpmoclcoaaDoor.Fit

set_option maxRecDepth 100000 in
set_option maxHeartbeats 4000000 in
theorem dirs_any (a : Option Addr) (n cap : Nat) (ys : List NdS) (w : World) (ha : ArgNds w a n cap ys) :
    Calls Tryd.prog 61 #[.slice a n cap] w fun e w' => ∃ g N, e = .returned (.map (some g)) ∧ MapF w' g .string N (dk (kk ys) (pk ys) n) ∧ w.heap.size ≤ g ∧ Below w.heap.size w w' := by
  have HA := Lib.hid ha
  have NZ := Lib.hid zNd
  have NO := Lib.hid ndT
  have UM := Lib.hid Tryd.underlying57
  have UK := Lib.hid Tryd.underlying9
  have hn : n ≤ maxLen := Nat.le_trans ha.c ha.m
  unfold maxLen at hn
  clear ha
  go_enter Tryd.func61, Tryd.ntmps61
  go_wp2_with (first | (refine wpList_make_mapF rfl _ rfl .string ?_; intro w1 m1 b1; have M1 := Lib.hid m1; have B1 := Lib.hid b1; have S1 := Lib.hid m1.lt; clear m1 b1))
  go_loopw [9] (fun i wr => ∃ j N : Nat, i = .int .i64 j ∧ j ≤ n ∧ MapF wr w.heap.size .string N (dk (kk ys) (pk ys) j) ∧ Below w.heap.size w wr) (fun i _ => n - (intOf i).toNat)
  case atStart => exact ⟨0, 0, rfl, Nat.zero_le _, by rw [dk_zero]; exact M1.out, B1.out⟩
  case round =>
    obtain ⟨j, N, rfl, hj, hM, hB⟩ := hrel
    have HM := Lib.hid hM; have HB := Lib.hid hB
    have W0 : Hid (w.heap.size < wr.heap.size) := hM.lt
    clear hM hB
    by_cases hjn : j < n
    · obtain ⟨b, off, y, rfl, hb, hy, hf, hat⟩ := HA.out.get j hjn
      have hat' := hat.below HB.out hb
      obtain ⟨c0, c1, c2, c3, c4, c5⟩ := hat'.c hy
      have E1 : Hid (pk ys j = .string y.n.p ∧ kk ys j = y.n.k) := ⟨by unfold pk; rw [nd_y hy], by unfold kk; rw [nd_y hy]⟩
      clear hat hat' hf hy
      obtain ⟨⟨k, p, m, t, d, c⟩, x, xc⟩ := y
      obtain ⟨L, hL⟩ := named d.length
      have c4' : wr.cell? ⟨b, off + j * 6 + 4, none⟩ = some (.slice x L xc) := by rw [hL.out]; exact c4
      clear c4 hL
      have EP : Hid (pk ys j = .string p) := E1.out.1
      have EK : Hid (kk ys j = k) := E1.out.2
      clear E1
      have j1 : (j : Int) < n := by omega
      have NB : Hid (b < w.heap.size) := hb
      clear hb hjn
      by_cases hk : k = 0
      · subst hk
        have FJ : Hid (dk (kk ys) (pk ys) (j + 1) = upd (dk (kk ys) (pk ys) j) (.string p) (.bool true)) := by show _ = _; rw [dk_on EK.out, EP.out]
        go_wp2_with (first | (refine wpList_alloc_obj rfl 55 rfl (ndL 0 emp 0 emp none 0 0 0) NZ.out ?_; intro w2 g2 b2; have G2 := Lib.hid g2; have M2 := Lib.hid (HM.out.below b2 HM.out.lt); have B2 := Lib.hid (HB.out.trans (b2.mono (Nat.le_of_lt W0.out))); clear g2 b2 c0 c1 c2 c3 c4' c5) | (refine wpList_store_obj rfl 55 _ _ rfl wr.heap.size rfl (ndL 0 p m t x L xc c) (ndL 0 emp 0 emp none 0 0 0) rfl 55 G2.out NO.out.2 rfl (nd_one _ _ _ _ _ _ _ _) ?_; intro w3 g3 t3; have M3 := Lib.hid (M2.out.block (t3.other (Nat.ne_of_lt W0.out))); have B3 := Lib.hid (B2.out.trans (t3.below (Nat.le_of_lt W0.out))); have c0 := g3.get 0 rfl; have c1 := g3.get 1 rfl; clear g3 t3) | (refine wpList_update_map rfl 57 _ _ _ rfl 9 4 UM.out .string UK.out w.heap.size rfl (.string p) rfl (show IsKey .string (.string p) from trivial) (.bool true) rfl N _ M3.out ?_; intro w6 m6 t6; have M6 := Lib.hid m6; have B6 := Lib.hid (B3.out.trans (t6.below (Nat.le_refl _))); clear m6 t6))
        go_round
        case rel => exact ⟨j + 1, _, by go_num, by omega, by rw [FJ.out]; exact M6.out, B6.out⟩
        case measure => simp [intOf]; omega
      · have nk : (k == 0) = false := by simpa using hk
        have FJ : Hid (dk (kk ys) (pk ys) (j + 1) = dk (kk ys) (pk ys) j) := dk_off (by rw [EK.out]; exact hk)
        clear hk
        go_wp2_with (first | (refine wpList_alloc_obj rfl 55 rfl (ndL 0 emp 0 emp none 0 0 0) NZ.out ?_; intro w2 g2 b2; have G2 := Lib.hid g2; have M2 := Lib.hid (HM.out.below b2 HM.out.lt); have B2 := Lib.hid (HB.out.trans (b2.mono (Nat.le_of_lt W0.out))); clear g2 b2 c0 c1 c2 c3 c4' c5) | (refine wpList_store_obj rfl 55 _ _ rfl wr.heap.size rfl (ndL k p m t x L xc c) (ndL 0 emp 0 emp none 0 0 0) rfl 55 G2.out NO.out.2 rfl (nd_one _ _ _ _ _ _ _ _) ?_; intro w3 g3 t3; have M3 := Lib.hid (M2.out.block (t3.other (Nat.ne_of_lt W0.out))); have B3 := Lib.hid (B2.out.trans (t3.below (Nat.le_of_lt W0.out))); have c0 := g3.get 0 rfl; have c1 := g3.get 1 rfl; clear g3 t3))
        go_round
        case rel => exact ⟨j + 1, N, by go_num, by omega, by rw [FJ.out]; exact M3.out, B3.out⟩
        case measure => simp [intOf]; omega
    · obtain rfl : j = n := by omega
      go_wp2
      go_ret
      exact ⟨_, N, rfl, HM.out, Nat.le_refl _, HB.out⟩
end Go.Proofs.YtinmkgpmoclcoaaDoor.Tre
/-
  Layer 8: the program's Join, Split.
-/
namespace Go.Proofs.YtinmkgpmoclcoaaDoor.Pnm
open Go.RowKit

end Go.Proofs.YtinmkgpmoclcoaaDoor.Pnm
