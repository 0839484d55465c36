/-
  Layer 13: plain mathematics: trees: Check, Canon. No memory.
-/
import Derived.Test.YtinmkgpmoclcoaaDoorPz03
import Derived.Test.YtinmkgpmoclcoaaDoorPz04
import Derived.Test.YtinmkgpmoclcoaaDoorPz02
import Derived.Test.YtinmkgpmoclcoaaDoorArr
import Derived.Deep.RegionHeld3
import Derived.Test.YtinmkgpmoclcoaaDoorRows
import Derived.MapKept
namespace Go.Proofs.YtinmkgpmoclcoaaDoor.Tre
open Go.RowKit Pnm Go.Proofs.YtinmkgpmoclcoaaDoor.Fit

/-! Check -/
/-- the entry of a node -/
def entN (x : Nd) : Ent := { k := x.k, p := x.p, m := x.m, t := x.t, s := if x.k = 1 then (x.d.length : Int) else 0 }
def oneE (x : Nd) : Int :=
  if x.k < 0 ∨ 2 < x.k then 8 else if ckE (entN x) ≠ 0 then ckE (entN x) else if x.k ≠ 1 ∧ x.d ≠ [] then 2 else if x.c < 0 ∨ (x.k ≠ 1 ∧ x.c ≠ 0) then 15 else 0
def nd0 : Nd := { k := 0, p := emp, m := 0, t := emp, d := [], c := 0 }
def nd (l : List Nd) (i : Nat) : Nd := (l[i]?).getD nd0
theorem nd_get {l : List Nd} {i : Nat} (h : i < l.length) : nd l i = l[i] := by unfold nd; rw [List.getElem?_eq_getElem h]; rfl
theorem nd_mem {l : List Nd} {i : Nat} (h : i < l.length) : nd l i ∈ l := by rw [nd_get h]; exact List.getElem_mem h
theorem nd_of {l : List Nd} {x : Nd} (h : x ∈ l) : ∃ i, i < l.length ∧ nd l i = x := by
  obtain ⟨i, hi, rfl⟩ := List.getElem_of_mem h
  exact ⟨i, hi, nd_get hi⟩
/-- an earlier node has the path -/
def Dup (l : List Nd) (i : Nat) : Prop := ∃ j, j < i ∧ (nd l j).p = (nd l i).p
/-- the parent is a directory of the list, or there is none -/
def Par (l : List Nd) (x : Nd) : Prop := parZ (key x) = [] ∨ ∃ y ∈ l, y.k = 0 ∧ key y = parZ (key x)
/-- the first node of the class is another file -/
def Odd (l : List Nd) (x : Nd) : Prop := x.c ≠ 0 ∧ ∃ y, l.find? (fun y => decide (y.c = x.c)) = some y ∧ ¬ (y.m = x.m ∧ y.d = x.d)
open Classical in
noncomputable def togE (l : List Nd) (i : Nat) : Int := if Dup l i then 14 else if ¬ Par l (nd l i) then 13 else if Odd l (nd l i) then 15 else 0
open Classical in
/-- the first place that has an error -/
noncomputable def fstE (f : Nat → Int) : Nat → Option Nat
  | 0 => none
  | n + 1 => match fstE f n with
    | some i => some i
    | none => if f n = 0 then none else some n
theorem fst_none {f : Nat → Int} : ∀ {n : Nat}, fstE f n = none ↔ ∀ i, i < n → f i = 0
  | 0 => ⟨fun _ i h => absurd h (Nat.not_lt_zero i), fun _ => rfl⟩
  | n + 1 => by
    have ih := fst_none (f := f) (n := n)
    rw [fstE]
    constructor
    · intro h i hi
      cases e : fstE f n with
      | some j => rw [e] at h; cases h
      | none =>
        rw [e] at h
        by_cases c : f n = 0
        · by_cases hin : i < n
          · exact ih.mp e i hin
          · obtain rfl : i = n := by omega
            exact c
        · simp [c] at h
    · intro h
      rw [ih.mpr fun i hi => h i (by omega)]
      simp [h n (by omega)]
theorem fst_some {f : Nat → Int} {i : Nat} (h : ∀ j, j < i → f j = 0) (hi : f i ≠ 0) : ∀ {n : Nat}, i < n → fstE f n = some i
  | 0, hn => absurd hn (Nat.not_lt_zero i)
  | n + 1, hn => by
    rw [fstE]
    by_cases e : i = n
    · subst e
      rw [fst_none.mpr h]
      simp [hi]
    · rw [fst_some h hi (n := n) (by omega)]
theorem fst_get {f : Nat → Int} {n i : Nat} (h : fstE f n = some i) : i < n ∧ f i ≠ 0 ∧ ∀ j, j < i → f j = 0 := by
  induction n with
  | zero => cases h
  | succ n ih =>
    rw [fstE] at h
    cases e : fstE f n with
    | some j => rw [e] at h; injection h with h; subst h; have := ih e; exact ⟨by omega, this.2⟩
    | none =>
      rw [e] at h
      by_cases c : f n = 0
      · simp [c] at h
      · simp [c] at h
        subst h
        exact ⟨by omega, c, fst_none.mp e⟩
noncomputable def chk (l : List Nd) : Int × Int := match fstE (fun i => oneE (nd l i)) l.length with
  | some i => ((i : Int), oneE (nd l i))
  | none => match fstE (togE l) l.length with
    | some i => ((i : Int), togE l i)
    | none => ((l.length : Int), 0)
theorem chk_one {l : List Nd} {i : Nat} (hi : i < l.length) (h : ∀ j, j < i → oneE (nd l j) = 0) (he : oneE (nd l i) ≠ 0) : chk l = ((i : Int), oneE (nd l i)) := by
  unfold chk
  rw [fst_some (f := fun i => oneE (nd l i)) h he hi]
theorem chk_tog {l : List Nd} {i : Nat} (ho : ∀ j, j < l.length → oneE (nd l j) = 0) (hi : i < l.length) (h : ∀ j, j < i → togE l j = 0) (he : togE l i ≠ 0) : chk l = ((i : Int), togE l i) := by
  unfold chk
  rw [fst_none.mpr ho, fst_some h he hi]
theorem chk_fine {l : List Nd} (ho : ∀ j, j < l.length → oneE (nd l j) = 0) (h : ∀ j, j < l.length → togE l j = 0) : chk l = ((l.length : Int), 0) := by
  unfold chk
  rw [fst_none.mpr ho, fst_none.mpr h]
/-- a valid tree, whatever the order -/
structure Val (l : List Nd) : Prop where
  one : ∀ x ∈ l, oneE x = 0
  apt : Apt l
  par : ∀ x ∈ l, Par l x
  cls : ∀ x ∈ l, ∀ y ∈ l, x.c ≠ 0 → x.c = y.c → x.m = y.m ∧ x.d = y.d
theorem tog_zero {l : List Nd} {i : Nat} : togE l i = 0 ↔ ¬ Dup l i ∧ Par l (nd l i) ∧ ¬ Odd l (nd l i) := by
  unfold togE
  by_cases h1 : Dup l i
  · simp [h1]
  · by_cases h2 : Par l (nd l i)
    · by_cases h3 : Odd l (nd l i) <;> simp [h1, h2, h3]
    · simp [h1, h2]
theorem apt_dup {l : List Nd} : Apt l ↔ ∀ i, i < l.length → ¬ Dup l i := by
  unfold Apt
  rw [List.pairwise_iff_getElem]
  constructor
  · rintro h i hi ⟨j, hj, e⟩
    rw [nd_get (by omega), nd_get hi] at e
    exact h j i (by omega) hi hj e
  · intro h i j hi hj hij e
    exact h j hj ⟨i, hij, by rw [nd_get hi, nd_get hj]; exact e⟩
theorem Val.notOdd {l : List Nd} (h : ∀ x ∈ l, ∀ y ∈ l, x.c ≠ 0 → x.c = y.c → x.m = y.m ∧ x.d = y.d) {x : Nd} (hx : x ∈ l) : ¬ Odd l x := by
  rintro ⟨h0, y, hy, hn⟩
  have e : y.c = x.c := by have := List.find?_some hy; exact of_decide_eq_true this
  exact hn (h y (List.mem_of_find?_eq_some hy) x hx (by rw [e]; exact h0) e)
theorem find_class {l : List Nd} {x : Nd} (hx : x ∈ l) : ∃ y, l.find? (fun y => decide (y.c = x.c)) = some y := by
  cases e : l.find? (fun y => decide (y.c = x.c)) with
  | some y => exact ⟨y, rfl⟩
  | none =>
    rw [List.find?_eq_none] at e
    exact absurd (decide_eq_true rfl) (e x hx)
theorem chk_ok {l : List Nd} : (chk l).2 = 0 ↔ Val l := by
  constructor
  · intro h
    unfold chk at h
    cases e1 : fstE (fun i => oneE (nd l i)) l.length with
    | some i => rw [e1] at h; exact absurd h (fst_get e1).2.1
    | none =>
      rw [e1] at h
      cases e2 : fstE (togE l) l.length with
      | some i => simp only [e2] at h; exact absurd h (fst_get e2).2.1
      | none =>
        have h1 := fst_none.mp e1
        have h2 := fst_none.mp e2
        refine ⟨fun x hx => ?_, apt_dup.mpr fun i hi => (tog_zero.mp (h2 i hi)).1, fun x hx => ?_, fun x hx y hy h0 e => ?_⟩
        · obtain ⟨i, hi, rfl⟩ := nd_of hx
          exact h1 i hi
        · obtain ⟨i, hi, rfl⟩ := nd_of hx
          exact (tog_zero.mp (h2 i hi)).2.1
        · obtain ⟨z, hz⟩ := find_class hx
          have hz' : l.find? (fun z => decide (z.c = y.c)) = some z := by rw [← e]; exact hz
          obtain ⟨i, hi, ei⟩ := nd_of hx
          obtain ⟨j, hj, ej⟩ := nd_of hy
          have o1 := (tog_zero.mp (h2 i hi)).2.2
          have o2 := (tog_zero.mp (h2 j hj)).2.2
          rw [ei] at o1
          rw [ej] at o2
          have f1 : z.m = x.m ∧ z.d = x.d := Classical.byContradiction fun hn => o1 ⟨h0, z, hz, hn⟩
          have f2 : z.m = y.m ∧ z.d = y.d := Classical.byContradiction fun hn => o2 ⟨by rw [← e]; exact h0, z, hz', hn⟩
          exact ⟨f1.1.symm.trans f2.1, f1.2.symm.trans f2.2⟩
  · intro h
    rw [chk_fine (fun _ hj => h.one _ (nd_mem hj)) fun j hj => tog_zero.mpr ⟨apt_dup.mp h.apt j hj, h.par _ (nd_mem hj), Val.notOdd h.cls (nd_mem hj)⟩]
theorem chk_val {l : List Nd} (h : Val l) : chk l = ((l.length : Int), 0) :=
  chk_fine (fun _ hj => h.one _ (nd_mem hj)) fun j hj => tog_zero.mpr ⟨apt_dup.mp h.apt j hj, h.par _ (nd_mem hj), Val.notOdd h.cls (nd_mem hj)⟩

/-! Canon -/
def cs (l : List Nd) : List Int := l.map Nd.c
def ren (l : List Nd) (x : Nd) : Nd := { x with c := num (cs l) x.c }
def canon (l : List Nd) : List Nd := (srt l).map (ren (srt l))
theorem canon_len (l : List Nd) : (canon l).length = l.length := by unfold canon; rw [List.length_map, srt_len]
theorem cs_map {l : List Nd} {f : Nd → Nd} {g : Int → Int} (h : ∀ x ∈ l, (f x).c = g x.c) : cs (l.map f) = (cs l).map g := by
  unfold cs
  rw [List.map_map, List.map_map]
  exact List.map_congr_left h
theorem srt_canon (l : List Nd) : Srt (canon l) := by
  have h := srt_srt l
  unfold canon Srt at *
  rw [List.pairwise_map]
  exact h.imp fun {x y} h => h
theorem canon_canon (l : List Nd) : canon (canon l) = canon l := by
  have e : srt (canon l) = canon l := srt_id (srt_canon l)
  show (srt (canon l)).map (ren (srt (canon l))) = canon l
  rw [e]
  show ((srt l).map (ren (srt l))).map (ren (canon l)) = (srt l).map (ren (srt l))
  rw [List.map_map]
  refine List.map_congr_left fun x hx => ?_
  show ren (canon l) (ren (srt l) x) = ren (srt l) x
  unfold ren
  have ec : cs (canon l) = (cs (srt l)).map (num (cs (srt l))) := cs_map fun x _ => rfl
  rw [ec]
  show ({ x with c := num _ (num (cs (srt l)) x.c) } : Nd) = _
  rw [num_num (show x.c ∈ cs (srt l) from List.mem_map_of_mem (f := Nd.c) hx)]
/-- other class numbers, another order -/
theorem canon_ren {l m : List Nd} {g : Int → Int} (ha : Apt l) (hp : m.Perm (l.map fun x => { x with c := g x.c })) (h0 : ∀ x ∈ l, (0 < g x.c ↔ 0 < x.c))
    (hi : ∀ x ∈ l, ∀ y ∈ l, 0 < x.c → 0 < y.c → g x.c = g y.c → x.c = y.c) : canon m = canon l := by
  have e : srt m = (srt l).map fun x => { x with c := g x.c } := by
    rw [← srt_map (f := fun x => { x with c := g x.c }) (fun _ => rfl)]
    refine (srt_swap ?_ hp.symm).symm
    unfold Apt at *
    rw [List.pairwise_map]
    exact ha.imp fun {x y} h => h
  unfold canon
  rw [e, List.map_map]
  refine List.map_congr_left fun x hx => ?_
  show ren _ { x with c := g x.c } = ren (srt l) x
  unfold ren
  have ec : cs ((srt l).map fun x => ({ x with c := g x.c } : Nd)) = (cs (srt l)).map g := cs_map fun x _ => rfl
  rw [ec]
  show ({ x with c := num _ (g x.c) } : Nd) = _
  rw [num_ren (f := g) (fun a ha => ?_) (fun a ha b hb h1 h2 e => ?_) (show x.c ∈ cs (srt l) from List.mem_map_of_mem (f := Nd.c) hx)]
  · obtain ⟨y, hy, rfl⟩ := List.mem_map.mp ha
    exact h0 y ((srt_mem l y).mp hy)
  · obtain ⟨y, hy, rfl⟩ := List.mem_map.mp ha
    obtain ⟨z, hz, rfl⟩ := List.mem_map.mp hb
    exact hi y ((srt_mem l y).mp hy) z ((srt_mem l z).mp hz) h1 h2 e
theorem one_ren {x : Nd} {c : Int} (h : oneE x = 0) (hc : 0 ≤ c) (hz : x.c = 0 → c = 0) : oneE { x with c := c } = 0 := by
  unfold oneE at *
  have e : entN { x with c := c } = entN x := rfl
  rw [e]
  by_cases h1 : x.k < 0 ∨ 2 < x.k
  · rw [if_pos h1] at h; cases h
  · rw [if_neg h1] at h
    by_cases h2 : ckE (entN x) ≠ 0
    · rw [if_pos h2] at h; exact absurd h h2
    · rw [if_neg h2] at h
      by_cases h3 : x.k ≠ 1 ∧ x.d ≠ []
      · rw [if_pos h3] at h; cases h
      · rw [if_neg h3] at h
        by_cases h4 : x.c < 0 ∨ (x.k ≠ 1 ∧ x.c ≠ 0)
        · rw [if_pos h4] at h; cases h
        · show (if x.k < 0 ∨ 2 < x.k then (8 : Int) else if ckE (entN x) ≠ 0 then ckE (entN x) else if x.k ≠ 1 ∧ x.d ≠ [] then 2 else if c < 0 ∨ (x.k ≠ 1 ∧ c ≠ 0) then 15 else 0) = 0
          rw [if_neg h1, if_neg h2, if_neg h3, if_neg]
          rintro (h5 | ⟨h5, h6⟩)
          · omega
          · exact h4 (.inr ⟨h5, fun e => h6 (hz e)⟩)
theorem one_c {x : Nd} (h : oneE x = 0) : 0 ≤ x.c ∧ (x.k ≠ 1 → x.c = 0) ∧ (x.k ≠ 1 → x.d = []) ∧ 0 ≤ x.k ∧ x.k ≤ 2 ∧ chE (key x) = 0 := by
  unfold oneE at h
  by_cases h1 : x.k < 0 ∨ 2 < x.k
  · rw [if_pos h1] at h; cases h
  · rw [if_neg h1] at h
    by_cases h2 : ckE (entN x) ≠ 0
    · rw [if_pos h2] at h; exact absurd h h2
    · rw [if_neg h2] at h
      by_cases h3 : x.k ≠ 1 ∧ x.d ≠ []
      · rw [if_pos h3] at h; cases h
      · rw [if_neg h3] at h
        by_cases h4 : x.c < 0 ∨ (x.k ≠ 1 ∧ x.c ≠ 0)
        · rw [if_pos h4] at h; cases h
        · exact ⟨by omega, fun e => Classical.byContradiction fun h => h4 (.inr ⟨e, h⟩), fun e => Classical.byContradiction fun h => h3 ⟨e, h⟩, by omega, by omega, (ck_ok.mp (Classical.not_not.mp h2)).path⟩
theorem canon_val {l : List Nd} (h : Val l) : Val (canon l) := by
  have mem : ∀ {x}, x ∈ canon l → ∃ y ∈ l, x = ren (srt l) y := fun {x} hx => by
    obtain ⟨y, hy, rfl⟩ := List.mem_map.mp hx
    exact ⟨y, (srt_mem l y).mp hy, rfl⟩
  have mem' : ∀ {y}, y ∈ l → ren (srt l) y ∈ canon l := fun {y} hy => List.mem_map_of_mem (f := ren (srt l)) ((srt_mem l y).mpr hy)
  refine ⟨fun x hx => ?_, ?_, fun x hx => ?_, fun x hx y hy h0 e => ?_⟩
  · obtain ⟨y, hy, rfl⟩ := mem hx
    refine one_ren (h.one y hy) (num_nonneg _ _) fun e => ?_
    unfold num
    rw [e, if_neg fun hm => absurd hm.1 (by decide)]
  · have h' := h.apt.perm (srt_perm l).symm
    unfold canon Apt at *
    rw [List.pairwise_map]
    exact h'.imp fun {x y} h => h
  · obtain ⟨y, hy, rfl⟩ := mem hx
    rcases h.par y hy with e | ⟨z, hz, hk, e⟩
    · exact .inl e
    · exact .inr ⟨ren (srt l) z, mem' hz, hk, e⟩
  · obtain ⟨a, ha, rfl⟩ := mem hx
    obtain ⟨b, hb, rfl⟩ := mem hy
    have e' : num (cs (srt l)) a.c = num (cs (srt l)) b.c := e
    have p1 : 0 < num (cs (srt l)) a.c := by have := num_nonneg (cs (srt l)) a.c; have h1 : num (cs (srt l)) a.c ≠ 0 := h0; omega
    have m1 := num_pos.mp p1
    have m2 := num_pos.mp (e' ▸ p1)
    exact h.cls a ha b hb (by have := m1.1; omega) (num_inj m1 m2 e')
end Go.Proofs.YtinmkgpmoclcoaaDoor.Tre
/-
  Structs as values: loaded whole, as a result beside a slot. Nothing of the program.
-/
namespace Go.Proofs.YtinmkgpmoclcoaaDoor
open Go.RowKit

/-- what a walk asks of a struct's type: of n cells -/
def ObjT (P : Program) (T : TypeId) (n : Nat) : Prop := (∃ fs, P.underlying T = some (.struct fs)) ∧ (P.info? T).map (·.size) = some n
section
variable {P : Program} {w : World} {ops : Array Oper} {rest : List Oper} {o : Oper} {a : Act} {Q : Exit → Act → World → Prop}

theorem wpList_load_obj (hgd : o.guard = none) (T : TypeId) (n : Nat) (hT : ObjT P T n) (x : Operand) (ho : o.op = .load T x) (g : Nat) (hx : a.eval x = .pointer (some ⟨g, 0, none⟩))
    (T' : TypeId) (vs : List Value) (hg : ObjAt w g T' vs) (hl : vs.length = n) (K : wpList P ops Q rest (a.put o.dst (.agg vs.toArray)) w) : wpList P ops Q (o :: rest) a w := by
  obtain ⟨⟨fs, h1⟩, h2⟩ := hT
  exact wpList_load_row hgd T x ho g hx T' vs.toArray (0, 0) (.struct fs) hg h1 rfl (by rw [h2]; simp [hl]) K
theorem run_load_obj {T : TypeId} {n : Nat} (hT : ObjT P T n) (g : Nat) (T' : TypeId) (vs : List Value) (hg : ObjAt w g T' vs) (hl : vs.length = n) : (loadVar T ⟨g, 0, none⟩).run P w = .ok (.agg vs.toArray) w := by
  obtain ⟨⟨fs, h1⟩, h2⟩ := hT
  exact run_loadVar_row w g T' T vs.toArray (0, 0) (.struct fs) hg h1 rfl (by rw [h2]; simp [hl])
/-- the results are a struct's variable and a slot -/
theorem results_obj_tmp {fn : Func} {p q : Tmp} {T : TypeId} {n : Nat} (h : fn.results = #[.cell p T, .tmp q]) (hT : ObjT P T n) (tmps : Array Value) (g : Nat) (hp : tmps.getD p undef = .pointer (some ⟨g, 0, none⟩))
    (T' : TypeId) (vs : List Value) (hg : ObjAt w g T' vs) (hl : vs.length = n) : (results fn tmps).run P w = .ok (.tuple #[.agg vs.toArray, tmps.getD q undef]) w := by
  have hp' : tmps[p]?.getD undef = .pointer (some ⟨g, 0, none⟩) := by simpa using hp
  simp [results, h, hp', asAddr, run_load_obj hT g T' vs hg hl]
theorem results_obj {fn : Func} {p : Tmp} {T : TypeId} {n : Nat} (h : fn.results = #[.cell p T]) (hT : ObjT P T n) (tmps : Array Value) (g : Nat) (hp : tmps.getD p undef = .pointer (some ⟨g, 0, none⟩))
    (T' : TypeId) (vs : List Value) (hg : ObjAt w g T' vs) (hl : vs.length = n) : (results fn tmps).run P w = .ok (.agg vs.toArray) w := by
  have hp' : tmps[p]?.getD undef = .pointer (some ⟨g, 0, none⟩) := by simpa using hp
  simp [results, h, hp', asAddr, run_load_obj hT g T' vs hg hl]
end
end Go.Proofs.YtinmkgpmoclcoaaDoor
/-
  A store into one field of a struct's variable. Nothing of the program.
-/
namespace Go.Proofs.YtinmkgpmoclcoaaDoor
open Go.RowKit

/-- block g alone has turned -/
structure TurnB (w w' : World) (g : Nat) : Prop where
  below : ∀ {B : Nat}, B ≤ g → Below B w w'
  other : ∀ {k : Nat}, k ≠ g → w'.heap[k]? = w.heap[k]?
  size : w'.heap.size = w.heap.size
theorem ObjAt.turnB {w w' : World} {g k : Nat} {T : TypeId} {vs : List Value} (h : ObjAt w k T vs) (t : TurnB w w' g) (hk : k ≠ g) : ObjAt w' k T vs := (t.other hk).trans h
theorem own_turnB {w w' : World} {base n size g : Nat} {e : TypeId} {v : Value} {xs : List Value} (h : w.ownsRow base e size v n xs) (t : TurnB w w' g) (hb : g < base) : w'.ownsRow base e size v n xs := by
  obtain ⟨h1, h2⟩ := h
  refine ⟨h1, ?_⟩
  rcases h2 with h2 | ⟨g', cap', cur, hv, hb', hh, r⟩
  · exact Or.inl h2
  · exact Or.inr ⟨g', cap', cur, hv, hb', by rw [t.other (by omega)]; exact hh, r⟩
section
variable {P : Program} {w : World} {ops : Array Oper} {rest : List Oper} {o : Oper} {a : Act} {Q : Exit → Act → World → Prop}
theorem wpList_store_cell (hgd : o.guard = none) (T : TypeId) (x y : Operand) (ho : o.op = .store T x y) (g i : Nat) (hx : a.eval x = .pointer (some ⟨g, i, none⟩))
    (v : Value) (hy : a.eval y = v) (h1 : v.oneCell' = true) (hs : (P.info? T).map (·.size) = some 1) (T' : TypeId) (vs : List Value) (hg : ObjAt w g T' vs) (hi : i < vs.length)
    (K : ∀ w', ObjAt w' g T' (vs.set i v) → TurnB w w' g → wpList P ops Q rest (a.put o.dst undef) w') : wpList P ops Q (o :: rest) a w := by
  refine wpList_plain hgd fun K' hK => ?_
  have hc : w.cell? ⟨g, i, none⟩ = some vs[i] := hg.get i (List.getElem?_eq_getElem hi)
  have hf := hg.frozen i
  have hv : v.cells = #[v] := by cases v <;> first | rfl | (simp [Value.oneCell'] at h1)
  cases hq : P.info? T with
  | none => simp [hq] at hs
  | some j =>
    have hj : j.size = 1 := by simpa [hq] using hs
    have ha : (⟨g, i, none⟩ : Addr).add 0 = ⟨g, i, none⟩ := add_plain' g i 0
    have hrun : (storeVar T ⟨g, i, none⟩ v).run P w = .ok () (w.setCell ⟨g, i, none⟩ v) := by
      simp [storeVar, sizeOf, typeInfo, hq, hj, hv, storeCells, run_store P w _ v _ h1, ha, hc, hf]
    unfold Oper.wp execOp
    simp only [ho, hx, hy, Instr.storeAt, Instr.sureAddr, Sem.run_bind, Sem.run_pure, Result.andThen_ok, hrun]
    exact hK _ _ (K _ (hg.set i v) ⟨fun hB => (Below.refl _ _).setCell hB v, fun hk => Below.heap_setCell _ _ _ _ hk, by simp [World.setCell]⟩)
end
end Go.Proofs.YtinmkgpmoclcoaaDoor
/-
  A drawn region walked by hand: another condition on the world from some point on. Nothing of the program.
-/
namespace Go.Proofs.YtinmkgpmoclcoaaDoor
open Go


theorem wpAnyH_switch {P : Program} {md : Region.Mode} {ops : Array Oper} {Q : Exit → Act → World → Prop} {S S2 : World → Prop} (hs : ∀ w, S2 w → S w) :
    ∀ {fuel : Nat} {listed : Array Bool} {a : Act} {w : World}, wpAnyH P md ops Q S2 fuel listed a w → wpAnyH P md ops Q S fuel listed a w
  | 0, _, _, _, h => h
  | _ + 1, _, _, _, h => ⟨h.1, fun i hi => wpOp_mono (fun _ _ h' => ⟨hs _ h'.1, wpAnyH_switch hs h'.2⟩) (h.2 i hi)⟩
end Go.Proofs.YtinmkgpmoclcoaaDoor
/-
  Layer 10: an entry as a value.
-/
namespace Go.Proofs.YtinmkgpmoclcoaaDoor.Fit
open Go.RowKit Pxr Pnm

/-- an entry as a value -/
abbrev enV (k : Int) (p : ByteArray) (m : Int) (t : ByteArray) (s : Int) : List Value := [.int .i64 k, .string p, .int .i64 m, .string t, .int .i64 s]
theorem enT : ObjT Tryd.prog 27 5 := ⟨⟨_, Tryd.underlying27⟩, by kernel_rfl⟩
theorem en_one (k : Int) (p : ByteArray) (m : Int) (t : ByteArray) (s : Int) : ∀ v ∈ enV k p m t s, v.oneCell' = true := by simp [Value.oneCell']
theorem zEn : (Tryd.prog.info? 27).map (·.zero) = some (some (.agg (enV 0 emp 0 emp 0).toArray)) := by kernel_rfl
theorem sStr : (Tryd.prog.info? 9).map (·.size) = some 1 := by kernel_rfl
theorem sI64 : (Tryd.prog.info? 2).map (·.size) = some 1 := by kernel_rfl
theorem sInt : (Tryd.prog.info? 3).map (·.size) = some 1 := by kernel_rfl
end Go.Proofs.YtinmkgpmoclcoaaDoor.Fit
/-
  Layer 13: the program's pathOf, classOf, sameFile, sameNode; the reference's Entry.
-/
namespace Go.Proofs.YtinmkgpmoclcoaaDoor.Tre
open Go.RowKit Go.Proofs.YtinmkgpmoclcoaaDoor.Fit

theorem ndT : ObjT Tryd.prog 55 6 := ⟨⟨_, Tryd.underlying55⟩, by kernel_rfl⟩
theorem nd_one (k : Int) (p : ByteArray) (m : Int) (t : ByteArray) (a : Option Addr) (n cap : Nat) (c : Int) : ∀ v ∈ ndL k p m t a n cap c, v.oneCell' = true := by simp [Value.oneCell']
theorem zNd : (Tryd.prog.info? 55).map (·.zero) = some (some (.agg (ndL 0 emp 0 emp none 0 0 0).toArray)) := by kernel_rfl

set_option maxHeartbeats 1000000 in
theorem pathOf_any (k : Int) (p : ByteArray) (m : Int) (t : ByteArray) (a : Option Addr) (n cap : Nat) (c : Int) (w : World) :
    Calls Tryd.prog 59 #[.agg (ndL k p m t a n cap c).toArray] w fun e w' => e = .returned (.string p) ∧ Below w.heap.size w w' := by
  go_enter Tryd.func59, Tryd.ntmps59
  go_wp2_with (first | (refine wpList_box_obj rfl 55 _ rfl (ndL k p m t a n cap c) rfl ?_; intro w1 g1 b1; have B1 := Lib.hid b1; have c1 := g1.get 1 rfl; clear g1 b1))
  go_ret
  exact ⟨rfl, B1.out⟩
set_option maxHeartbeats 1000000 in
theorem classOf_any (k : Int) (p : ByteArray) (m : Int) (t : ByteArray) (a : Option Addr) (n cap : Nat) (c : Int) (w : World) :
    Calls Tryd.prog 54 #[.agg (ndL k p m t a n cap c).toArray] w fun e w' => e = .returned (.int .i64 c) ∧ Below w.heap.size w w' := by
  go_enter Tryd.func54, Tryd.ntmps54
  go_wp2_with (first | (refine wpList_box_obj rfl 55 _ rfl (ndL k p m t a n cap c) rfl ?_; intro w1 g1 b1; have B1 := Lib.hid b1; have c1 := g1.get 5 rfl; clear g1 b1))
  go_ret
  exact ⟨rfl, B1.out⟩
set_option maxHeartbeats 2000000 in
theorem sameFile_any (x y : NdS) (w : World) (hx : NdF w x) (hy : NdF w y) :
    Calls Tryd.prog 62 #[.agg (ndV x).toArray, .agg (ndV y).toArray] w fun e w' => e = .returned (.bool (decide (x.n.m = y.n.m ∧ x.n.d = y.n.d))) ∧ Below w.heap.size w w' := by
  have HX := Lib.hid hx.d.bytes; have HY := Lib.hid hy.d.bytes
  obtain ⟨⟨k, p, m, t, d, c⟩, a, cap⟩ := x
  obtain ⟨⟨k', p', m', t', d', c'⟩, a', cap'⟩ := y
  obtain ⟨R, hR⟩ := named (decide (m = m' ∧ d = d'))
  have HE := Lib.hid fun (w' : World) (h : Below w.heap.size w w') => eq_any a d.length cap d a' d'.length cap' d' w' (HX.out.below h) rfl (HY.out.below h) rfl
  obtain ⟨N, hN⟩ := named d.length
  obtain ⟨N', hN'⟩ := named d'.length
  obtain ⟨T, hT⟩ := named (decide (d = d'))
  show Calls _ _ #[.agg (ndL k p m t a d.length cap c).toArray, .agg (ndL k' p' m' t' a' d'.length cap' c').toArray] _ _
  rw [← hN.out, ← hN'.out] at HE ⊢
  rw [← hT.out] at HE
  show Calls _ _ _ _ fun e w' => e = .returned (.bool (decide (m = m' ∧ d = d'))) ∧ _
  rw [← hR.out]
  have HR : Hid (R = (decide (m = m') && T)) := by show _ = _; rw [hR.out, hT.out, Bool.decide_and]
  clear hx hy HX HY hR hN hN' hT
  by_cases h : m = m'
  · subst h
    have e : R = T := by rw [HR.out, decide_eq_true rfl, Bool.true_and]
    subst e
    clear HR
    go_enter Tryd.func62, Tryd.ntmps62
    go_wp2_with (first | (refine wpList_box_obj rfl 55 _ rfl (ndL k p m t a N cap c) rfl ?_; intro w1 g1 b1; have G1 := Lib.hid g1; have B1 := Lib.hid b1; clear g1 b1) | (refine wpList_box_obj rfl 55 _ rfl (ndL k' p' m t' a' N' cap' c') rfl ?_; intro w2 g2 b2; have c2 := (G1.out.below b2 G1.out.lt).get 2 rfl; have c4 := (G1.out.below b2 G1.out.lt).get 4 rfl; have d2 := g2.get 2 rfl; have d4 := g2.get 4 rfl; have B2 := Lib.hid (belT B1.out b2); clear g2 b2))
    refine (HE.out w2 B2.out).mono ?_; rintro e w3 ⟨rfl, rfl⟩
    go_wp2
    go_ret
    exact ⟨rfl, B2.out⟩
  · have e : R = false := by rw [HR.out, decide_eq_false h, Bool.false_and]
    have n1 : (m == m') = false := by simpa using h
    subst e
    clear HR HE h
    go_enter Tryd.func62, Tryd.ntmps62
    go_wp2_with (first | (refine wpList_box_obj rfl 55 _ rfl (ndL k p m t a N cap c) rfl ?_; intro w1 g1 b1; have G1 := Lib.hid g1; have B1 := Lib.hid b1; clear g1 b1) | (refine wpList_box_obj rfl 55 _ rfl (ndL k' p' m' t' a' N' cap' c') rfl ?_; intro w2 g2 b2; have c2 := (G1.out.below b2 G1.out.lt).get 2 rfl; have c4 := (G1.out.below b2 G1.out.lt).get 4 rfl; have d2 := g2.get 2 rfl; have d4 := g2.get 4 rfl; have B2 := Lib.hid (belT B1.out b2); clear g2 b2))
    go_ret
    exact ⟨rfl, B2.out⟩

set_option maxHeartbeats 2000000 in
theorem rentry_any (k : Int) (p : ByteArray) (m : Int) (t : ByteArray) (a : Option Addr) (n cap : Nat) (c : Int) (w : World) :
    Calls Tryd.prog 42 #[.agg (ndL k p m t a n cap c).toArray] w fun e w' => e = .returned (.agg (enV k p m t (if k = 1 then (n : Int) else 0)).toArray) ∧ Below w.heap.size w w' := by
  have EZ := Lib.hid zEn
  have EO := Lib.hid enT
  have S8 := Lib.hid sI64
  obtain ⟨R, hR⟩ := named (if k = 1 then (n : Int) else 0)
  rw [← hR.out]
  by_cases h : k = 1
  · subst h
    have e : R = (n : Int) := by rw [hR.out, if_pos rfl]
    subst e
    clear hR
    go_enter Tryd.func42, Tryd.ntmps42
    go_wp2_with (first | (refine wpList_box_obj rfl 55 _ rfl (ndL 1 p m t a n cap c) rfl ?_; intro w1 g1 b1; have G1 := Lib.hid g1; have B1 := Lib.hid b1; clear g1 b1) | (have q2 := G2.out; clear q2; refine wpList_alloc_obj rfl 27 rfl (enV 0 emp 0 emp 0) EZ.out ?_; intro w3 g3 b3; have G3 := Lib.hid g3; have J2 := Lib.hid (G2.out.below b3 G2.out.lt); have L1 := Lib.hid (K1.out.below b3 K1.out.lt); have N3 := Lib.hid G2.out.lt; have B3 := Lib.hid (belT B2.out b3); clear g3 b3 c0 c1 c2 c3) | (have q1 := G1.out; clear q1; refine wpList_alloc_obj rfl 27 rfl (enV 0 emp 0 emp 0) EZ.out ?_; intro w2 g2 b2; have G2 := Lib.hid g2; have K1 := Lib.hid (G1.out.below b2 G1.out.lt); have N2 := Lib.hid G1.out.lt; have B2 := Lib.hid (belT B1.out b2); have c0 := K1.out.get 0 rfl; have c1 := K1.out.get 1 rfl; have c2 := K1.out.get 2 rfl; have c3 := K1.out.get 3 rfl; clear g2 b2) | (refine wpList_store_obj rfl 27 _ _ rfl w2.heap.size rfl (enV 1 p m t 0) (enV 0 emp 0 emp 0) rfl 27 G3.out EO.out.2 rfl (en_one _ _ _ _ _) ?_; intro w4 g4 t4; have G4 := Lib.hid g4; have J4 := Lib.hid (J2.out.turned t4 (Nat.ne_of_lt N3.out)); have L4 := Lib.hid (L1.out.turned t4 (Nat.ne_of_lt (Nat.lt_trans N2.out N3.out))); have B4 := Lib.hid (B3.out.trans (t4.below B2.out.size)); have c0 := L4.out.get 0 rfl; have c4 := L4.out.get 4 rfl; clear g4 t4) | (refine wpList_store_cell rfl 2 _ _ rfl w2.heap.size 4 rfl (.int .i64 n) rfl rfl S8.out 27 _ G4.out (by simp) ?_; intro w5 g5 t5; have G5 := Lib.hid (show ObjAt w5 w2.heap.size 27 (enV 1 p m t n) from g5); have J5 := Lib.hid (J4.out.turnB t5 (Nat.ne_of_lt N3.out)); have B5 := Lib.hid (B4.out.trans (t5.below B2.out.size)); have d0 := g5.get 0 rfl; have d1 := g5.get 1 rfl; have d2 := g5.get 2 rfl; have d3 := g5.get 3 rfl; have d4 := g5.get 4 rfl; clear g5 t5) | (refine wpList_store_obj rfl 27 _ _ rfl w1.heap.size rfl (enV 1 p m t n) (enV 0 emp 0 emp 0) rfl 27 J5.out EO.out.2 rfl (en_one _ _ _ _ _) ?_; intro w6 g6 t6; have G6 := Lib.hid g6; have B6 := Lib.hid (B5.out.trans (t6.below B1.out.size)); clear g6 t6))
    exact bodyPost_ret (results_obj Tryd.results42 EO.out _ w1.heap.size rfl _ _ G6.out rfl) rfl ⟨rfl, B6.out⟩
  · have e : R = 0 := by rw [hR.out, if_neg h]
    subst e
    have nk : (k == 1) = false := by simpa using h
    clear hR h S8
    go_enter Tryd.func42, Tryd.ntmps42
    go_wp2_with (first | (refine wpList_box_obj rfl 55 _ rfl (ndL k p m t a n cap c) rfl ?_; intro w1 g1 b1; have G1 := Lib.hid g1; have B1 := Lib.hid b1; clear g1 b1) | (have q2 := G2.out; clear q2; refine wpList_alloc_obj rfl 27 rfl (enV 0 emp 0 emp 0) EZ.out ?_; intro w3 g3 b3; have G3 := Lib.hid g3; have J2 := Lib.hid (G2.out.below b3 G2.out.lt); have L1 := Lib.hid (K1.out.below b3 K1.out.lt); have N3 := Lib.hid G2.out.lt; have B3 := Lib.hid (belT B2.out b3); clear g3 b3 c0 c1 c2 c3) | (have q1 := G1.out; clear q1; refine wpList_alloc_obj rfl 27 rfl (enV 0 emp 0 emp 0) EZ.out ?_; intro w2 g2 b2; have G2 := Lib.hid g2; have K1 := Lib.hid (G1.out.below b2 G1.out.lt); have N2 := Lib.hid G1.out.lt; have B2 := Lib.hid (belT B1.out b2); have c0 := K1.out.get 0 rfl; have c1 := K1.out.get 1 rfl; have c2 := K1.out.get 2 rfl; have c3 := K1.out.get 3 rfl; clear g2 b2) | (refine wpList_store_obj rfl 27 _ _ rfl w2.heap.size rfl (enV k p m t 0) (enV 0 emp 0 emp 0) rfl 27 G3.out EO.out.2 rfl (en_one _ _ _ _ _) ?_; intro w4 g4 t4; have G4 := Lib.hid g4; have J4 := Lib.hid (J2.out.turned t4 (Nat.ne_of_lt N3.out)); have L4 := Lib.hid (L1.out.turned t4 (Nat.ne_of_lt (Nat.lt_trans N2.out N3.out))); have B4 := Lib.hid (B3.out.trans (t4.below B2.out.size)); have c0 := L4.out.get 0 rfl; have c4 := L4.out.get 4 rfl; have d0 := g4.get 0 rfl; have d1 := g4.get 1 rfl; have d2 := g4.get 2 rfl; have d3 := g4.get 3 rfl; have d4 := g4.get 4 rfl; clear g4 t4) | (refine wpList_store_obj rfl 27 _ _ rfl w1.heap.size rfl (enV k p m t 0) (enV 0 emp 0 emp 0) rfl 27 J4.out EO.out.2 rfl (en_one _ _ _ _ _) ?_; intro w6 g6 t6; have G6 := Lib.hid g6; have B6 := Lib.hid (B4.out.trans (t6.below B1.out.size)); clear g6 t6))
    exact bodyPost_ret (results_obj Tryd.results42 EO.out _ w1.heap.size rfl _ _ G6.out rfl) rfl ⟨rfl, B6.out⟩
end Go.Proofs.YtinmkgpmoclcoaaDoor.Tre
/-
  A map, known as a function of its keys: made, written, asked, counted. Nothing of the program.
-/
namespace Go.Proofs.YtinmkgpmoclcoaaDoor
open Go.RowKit Go.MapKept

open Classical in
/-- the entry at a key -/
noncomputable def lk : List MapEntry → Value → Option Value
  | [], _ => none
  | e :: es, k => if e.key = k then some e.val else lk es k
theorem find_lk {d : TypeDesc} {k : Value} (hk : IsKey d k) : ∀ (l : List MapEntry) (i : Nat), (∀ x ∈ l, IsKey d x.key) →
    (Instr.findNow d k l i = some none ∧ lk l k = none) ∨ ∃ l1 e l2, l = l1 ++ e :: l2 ∧ e.key = k ∧ (∀ x ∈ l1, x.key ≠ k) ∧ Instr.findNow d k l i = some (some (i + l1.length, e.val)) ∧ lk l k = some e.val
  | [], i, _ => .inl ⟨rfl, rfl⟩
  | x :: l, i, h => by
    obtain ⟨r, hr, hiff⟩ := sameNow_of_keys hk (h x (.head _))
    cases r with
    | true =>
      have e := hiff.1 rfl
      exact .inr ⟨[], x, l, rfl, e.symm, (fun _ h => by cases h), by simp [Instr.findNow, hr], by unfold lk; rw [if_pos e.symm]⟩
    | false =>
      have ne : x.key ≠ k := fun e => by have := hiff.2 e.symm; cases this
      rcases find_lk hk l (i + 1) (fun y hy => h y (.tail _ hy)) with ⟨h1, h2⟩ | ⟨l1, e, l2, rfl, h2, h3, h4, h5⟩
      · exact .inl ⟨by simp [Instr.findNow, hr, h1], by unfold lk; rw [if_neg ne]; exact h2⟩
      · exact .inr ⟨x :: l1, e, l2, rfl, h2, (fun y hy => by
          rcases List.mem_cons.1 hy with rfl | hy
          · exact ne
          · exact h3 y hy), by simp [Instr.findNow, hr, h4]; omega, by unfold lk; rw [if_neg ne]; exact h5⟩
theorem lk_append {k : Value} : ∀ (l1 l2 : List MapEntry), (∀ x ∈ l1, x.key ≠ k) → lk (l1 ++ l2) k = lk l2 k
  | [], _, _ => rfl
  | x :: l1, l2, h => by
    rw [List.cons_append, lk, if_neg (h x (.head _))]
    exact lk_append l1 l2 fun y hy => h y (.tail _ hy)
theorem lk_none {k : Value} : ∀ {l : List MapEntry}, lk l k = none → ∀ x ∈ l, x.key ≠ k
  | [], _, _, h => by cases h
  | y :: l, h, x, hx => by
    unfold lk at h
    by_cases c : y.key = k
    · rw [if_pos c] at h; cases h
    · rw [if_neg c] at h
      rcases List.mem_cons.1 hx with rfl | hx
      · exact c
      · exact lk_none h x hx
theorem lk_other {k k' : Value} {e e' : MapEntry} (he : e.key = k) (he' : e'.key = k) (h : k' ≠ k) : ∀ (l1 l2 : List MapEntry), lk (l1 ++ e' :: l2) k' = lk (l1 ++ e :: l2) k'
  | [], l2 => by
    rw [List.nil_append, List.nil_append, lk, lk, if_neg (by rw [he']; exact fun c => h c.symm), if_neg (by rw [he]; exact fun c => h c.symm)]
  | x :: l1, l2 => by
    rw [List.cons_append, List.cons_append, lk, lk, lk_other he he' h l1 l2]
theorem lk_more {k : Value} {e : MapEntry} (he : e.key ≠ k) : ∀ l : List MapEntry, lk (l ++ [e]) k = lk l k
  | [] => by rw [List.nil_append]; unfold lk; rw [if_neg he]; rfl
  | x :: l => by rw [List.cons_append, lk, lk, lk_more he l]
open Classical in
/-- a function, written at one key -/
noncomputable def upd (F : Value → Option Value) (k v : Value) : Value → Option Value := fun k' => if k' = k then some v else F k'
theorem upd_same (F : Value → Option Value) (k v : Value) : upd F k v k = some v := by unfold upd; rw [if_pos rfl]
theorem upd_ne {F : Value → Option Value} {k v k' : Value} (h : k' ≠ k) : upd F k v k' = F k' := by unfold upd; rw [if_neg h]

/-- block g is a map of n entries that reads as F -/
def MapF (w : World) (g : Nat) (d : TypeDesc) (n : Nat) (F : Value → Option Value) : Prop :=
  ∃ (xs : Array MapEntry) (clk : Nat), w.heap[g]? = some (.map xs clk) ∧ (∀ x ∈ xs.toList, IsKey d x.key) ∧ xs.size = n ∧ ∀ k, lk xs.toList k = F k
theorem MapF.lt {w : World} {g n : Nat} {d : TypeDesc} {F : Value → Option Value} (h : MapF w g d n F) : g < w.heap.size := by
  obtain ⟨xs, clk, h, _⟩ := h
  exact (Array.getElem?_eq_some_iff.1 h).1
theorem MapF.block {w w' : World} {g n : Nat} {d : TypeDesc} {F : Value → Option Value} (h : MapF w g d n F) (e : w'.heap[g]? = w.heap[g]?) : MapF w' g d n F := by
  obtain ⟨xs, clk, h, h2⟩ := h
  exact ⟨xs, clk, e.trans h, h2⟩
theorem MapF.below {w w' : World} {B g n : Nat} {d : TypeDesc} {F : Value → Option Value} (h : MapF w g d n F) (hb : Below B w w') (hg : g < B) : MapF w' g d n F := h.block (hb.block g hg)

section
variable {P : Program} {w : World} {ops : Array Oper} {rest : List Oper} {o : Oper} {a : Act} {Q : Exit → Act → World → Prop}

theorem wpList_make_mapF (hgd : o.guard = none) (T : TypeId) (ho : o.op = .makeMap T none) (d : TypeDesc)
    (K : ∀ w', MapF w' w.heap.size d 0 (fun _ => none) → Below w.heap.size w w' → wpList P ops Q rest (a.put o.dst (.map (some w.heap.size))) w') : wpList P ops Q (o :: rest) a w := by
  refine wpList_plain hgd fun K' hK => ?_
  unfold Oper.wp
  simp [execOp, ho, run_makeMap, Result.andThen]
  exact hK _ _ (K _ ⟨#[], 0, heap_alloc_new w _, (fun x h => by simp at h), rfl, fun k => rfl⟩ ((Below.refl _ _).alloc (Nat.le_refl _) _))

theorem wpList_update_map (hgd : o.guard = none) (T : TypeId) (m k x : Operand) (ho : o.op = .mapUpdate T m k x) (kt et : TypeId) (hT : P.underlying T = some (.map kt et)) (d : TypeDesc) (hk : P.underlying kt = some d)
    (g : Nat) (hm : a.eval m = .map (some g)) (kv : Value) (hkv : a.eval k = kv) (hkey : IsKey d kv) (v : Value) (hv : a.eval x = v) (n : Nat) (F : Value → Option Value) (hg : MapF w g d n F)
    (K : ∀ w', MapF w' g d (if F kv = none then n + 1 else n) (upd F kv v) → TurnB w w' g → wpList P ops Q rest (a.put o.dst undef) w') : wpList P ops Q (o :: rest) a w := by
  refine wpList_plain hgd fun K' hK => ?_
  obtain ⟨xs, clk, h1, h2, h3, h4⟩ := hg
  have hlt : g < w.heap.size := (Array.getElem?_eq_some_iff.1 h1).1
  have turn : ∀ (xs' : Array MapEntry) (c' : Nat), TurnB w { w with heap := w.heap.setIfInBounds g (.map xs' c') } g := fun xs' c' => ⟨fun hB => ⟨rfl, rfl, rfl, by simp, fun i hi => by
      show (w.heap.setIfInBounds g _)[i]? = w.heap[i]?
      rw [Array.getElem?_setIfInBounds_ne (by omega)]⟩, fun {k} hkg => by
      show (w.heap.setIfInBounds g _)[k]? = w.heap[k]?
      rw [Array.getElem?_setIfInBounds_ne (by omega)], by simp⟩
  rcases find_lk hkey xs.toList 0 h2 with ⟨f1, f2⟩ | ⟨l1, e, l2, f1, f2, f3, f4, f5⟩
  · have hF : F kv = none := by rw [← h4]; exact f2
    have hrun : (Instr.mapUpdate T (.map (some g)) kv v).run P w = .ok () { w with heap := w.heap.setIfInBounds g (.map (xs.push { key := kv, val := v, born := clk }) (clk + 1)) } := by
      simp [Instr.mapUpdate, run_underlying hT, Go.MapKept.run_getObj_map h1, run_checkKey (w := w) hk hkey, run_findKey (w := w) hk f1, Go.MapKept.run_setObj_map _ h1, Result.andThen]
    unfold Oper.wp
    simp [execOp, ho, hm, hkv, hv, hrun, Result.andThen]
    refine hK _ _ (K _ ⟨xs.push { key := kv, val := v, born := clk }, clk + 1, by simp [hlt], ?_, ?_, ?_⟩ (turn _ _))
    · intro x hx
      simp only [Array.toList_push, List.mem_append, List.mem_singleton] at hx
      rcases hx with hx | rfl
      · exact h2 x hx
      · exact hkey
    · rw [if_pos hF, Array.size_push, h3]
    · intro k'
      rw [Array.toList_push]
      by_cases c : k' = kv
      · subst c
        rw [upd_same, lk_append _ _ (lk_none f2), lk, if_pos rfl]
      · rw [upd_ne c, lk_more (fun h => c h.symm), h4]
  · have hF : F kv ≠ none := by rw [← h4, f5]; exact fun h => by cases h
    have hlen : l1.length < xs.toList.length := by rw [f1]; simp
    have hj : xs[l1.length]? = some e := by
      rw [← Array.getElem?_toList, f1, List.getElem?_append_right (Nat.le_refl _), Nat.sub_self]; rfl
    rw [Nat.zero_add] at f4
    have hrun : (Instr.mapUpdate T (.map (some g)) kv v).run P w = .ok () { w with heap := w.heap.setIfInBounds g (.map (xs.modify l1.length fun e => { e with key := kv, val := v }) clk) } := by
      simp [Instr.mapUpdate, run_underlying hT, Go.MapKept.run_getObj_map h1, run_checkKey (w := w) hk hkey, run_findKey (w := w) hk f4, hj, f2, run_keyThatStays hkey, Go.MapKept.run_setObj_map _ h1, Result.andThen]
    have hl : (xs.modify l1.length fun e => { e with key := kv, val := v }).toList = l1 ++ { e with key := kv, val := v } :: l2 := by
      rw [Array.toList_modify, f1, List.modify_eq_take_cons_drop (by simp)]
      simp
    unfold Oper.wp
    simp [execOp, ho, hm, hkv, hv, hrun, Result.andThen]
    refine hK _ _ (K _ ⟨xs.modify l1.length fun e => { e with key := kv, val := v }, clk, by simp [hlt], ?_, ?_, ?_⟩ (turn _ _))
    · rw [hl]
      intro x hx
      rcases List.mem_append.1 hx with hx | hx
      · exact h2 x (by rw [f1]; exact List.mem_append_left _ hx)
      · rcases List.mem_cons.1 hx with rfl | hx
        · exact hkey
        · exact h2 x (by rw [f1]; exact List.mem_append_right _ (List.mem_cons_of_mem _ hx))
    · rw [if_neg hF, Array.size_modify, h3]
    · intro k'
      rw [hl]
      by_cases c : k' = kv
      · subst c
        rw [upd_same, lk_append _ _ f3, lk, if_pos rfl]
      · rw [upd_ne c, lk_other (k := kv) f2 rfl c, ← f1, h4]

theorem run_lookF (T kt et : TypeId) (hT : P.underlying T = some (.map kt et)) (d : TypeDesc) (hk : P.underlying kt = some d) (z : Value) (hz : (P.info? et).map (·.zero) = some (some z))
    (g n : Nat) (kv : Value) (hkey : IsKey d kv) (F : Value → Option Value) (hg : MapF w g d n F) :
    (Instr.lookup T (.map (some g)) kv true).run P w = .ok (.tuple #[(F kv).getD z, .bool (F kv).isSome]) w ∧ (Instr.lookup T (.map (some g)) kv false).run P w = .ok ((F kv).getD z) w := by
  obtain ⟨xs, clk, h1, h2, h3, h4⟩ := hg
  cases hq : P.info? et with
  | none => simp [hq] at hz
  | some j =>
    have hj : j.zero = some z := by simpa [hq] using hz
    rcases find_lk hkey xs.toList 0 h2 with ⟨f1, f2⟩ | ⟨l1, e, l2, f1, f2, f3, f4, f5⟩
    · rw [← h4, f2]
      constructor <;> simp [Instr.lookup, run_underlying hT, Go.MapKept.run_getObj_map h1, run_checkKey (w := w) hk hkey, run_findKey (w := w) hk f1, zeroValue, typeInfo, hq, hj, Result.andThen]
    · rw [← h4, f5]
      constructor <;> simp [Instr.lookup, run_underlying hT, Go.MapKept.run_getObj_map h1, run_checkKey (w := w) hk hkey, run_findKey (w := w) hk f4, Result.andThen]
theorem run_lenF (T kt et ty : TypeId) (hT : P.underlying T = some (.map kt et)) (d : TypeDesc) (g n : Nat) (F : Value → Option Value) (hg : MapF w g d n F) :
    (Builtin.len_ #[T] ty #[.map (some g)]).run P w = .ok (goInt n) w := by
  obtain ⟨xs, clk, h1, h2, h3, h4⟩ := hg
  simp [Builtin.len_, run_underlying hT, Go.MapKept.run_getObj_map h1, h3, Result.andThen]
end
end Go.Proofs.YtinmkgpmoclcoaaDoor
/-
  Layer 13: the program's firsts (by path, by class), directoryPaths: maps as functions.
-/
namespace Go.Proofs.YtinmkgpmoclcoaaDoor.Tre
open Go.RowKit Go.MapKept Go.Proofs.YtinmkgpmoclcoaaDoor.Fit

/-- the first of n places that has the key -/
noncomputable def fk (f : Nat → Value) : Nat → Value → Option Value
  | 0, _ => none
  | n + 1, v => match fk f n v with
    | some x => some x
    | none => upd (fun _ => none) (f n) (.int .i64 n) v
theorem fk_zero (f : Nat → Value) : fk f 0 = fun _ => none := by funext v; rw [fk]
theorem fk_old {f : Nat → Value} {n : Nat} (h : (fk f n (f n)).isSome = true) : fk f (n + 1) = fk f n := by
  funext v
  rw [fk]
  cases e : fk f n v with
  | some x => rfl
  | none =>
    rw [upd_ne]
    intro c
    subst c
    rw [e] at h
    cases h
theorem fk_new {f : Nat → Value} {n : Nat} (h : fk f n (f n) = none) : fk f (n + 1) = upd (fk f n) (f n) (.int .i64 n) := by
  funext v
  rw [fk]
  by_cases c : v = f n
  · subst c
    rw [h, upd_same]
    exact (upd_same (fk f n) (f n) _).symm
  · rw [upd_ne (F := fk f n) c]
    cases e : fk f n v with
    | some x => rfl
    | none => exact upd_ne c
theorem fk_none {f : Nat → Value} : ∀ {n : Nat} {v : Value}, fk f n v = none ↔ ∀ i, i < n → f i ≠ v
  | 0, v => ⟨fun _ i h => absurd h (Nat.not_lt_zero i), fun _ => by rw [fk_zero]⟩
  | n + 1, v => by
    rw [fk]
    have ih := fk_none (f := f) (n := n) (v := v)
    cases e : fk f n v with
    | some x =>
      refine ⟨fun h => absurd h (by simp), fun h => ?_⟩
      have := ih.mpr fun i hi => h i (by omega)
      rw [e] at this; cases this
    | none =>
      have hn := ih.mp e
      by_cases c : v = f n
      · subst c
        refine ⟨fun h => ?_, fun h => absurd rfl (h n (by omega))⟩
        rw [show upd (fun _ => none) (f n) (.int .i64 n) (f n) = _ from upd_same _ _ _] at h; cases h
      · refine ⟨fun _ i hi => ?_, fun _ => upd_ne c⟩
        by_cases hin : i < n
        · exact hn i hin
        · obtain rfl : i = n := by omega
          exact fun h => c h.symm
theorem fk_some {f : Nat → Value} {i : Nat} {v : Value} (h : ∀ j, j < i → f j ≠ v) (hi : f i = v) : ∀ {n : Nat}, i < n → fk f n v = some (.int .i64 i)
  | 0, hn => absurd hn (Nat.not_lt_zero i)
  | n + 1, hn => by
    rw [fk]
    by_cases c : i < n
    · rw [fk_some h hi c]
    · obtain rfl : i = n := by omega
      rw [fk_none.mpr h]
      show upd _ _ _ _ = _
      rw [← hi, upd_same]
/-- the directories' paths among the first n -/
noncomputable def dk (k : Nat → Int) (f : Nat → Value) : Nat → Value → Option Value
  | 0, _ => none
  | n + 1, v => if k n = 0 then upd (dk k f n) (f n) (.bool true) v else dk k f n v
theorem dk_zero (k : Nat → Int) (f : Nat → Value) : dk k f 0 = fun _ => none := by funext v; rw [dk]
theorem dk_on {k : Nat → Int} {f : Nat → Value} {n : Nat} (h : k n = 0) : dk k f (n + 1) = upd (dk k f n) (f n) (.bool true) := by funext v; rw [dk, if_pos h]
theorem dk_off {k : Nat → Int} {f : Nat → Value} {n : Nat} (h : k n ≠ 0) : dk k f (n + 1) = dk k f n := by funext v; rw [dk, if_neg h]
open Classical in
theorem dk_eq {k : Nat → Int} {f : Nat → Value} : ∀ (n : Nat) (v : Value), dk k f n v = if ∃ i, i < n ∧ k i = 0 ∧ f i = v then some (.bool true) else none
  | 0, v => by rw [if_neg (by rintro ⟨i, h, _⟩; omega), dk]
  | n + 1, v => by
    rw [dk]
    have ih := dk_eq (k := k) (f := f) n v
    by_cases c : k n = 0
    · rw [if_pos c]
      by_cases d : v = f n
      · subst d
        rw [upd_same, if_pos ⟨n, by omega, c, rfl⟩]
      · rw [upd_ne d, ih]
        congr 1
        apply propext
        constructor
        · rintro ⟨i, h1, h2⟩; exact ⟨i, by omega, h2⟩
        · rintro ⟨i, h1, h2, h3⟩
          refine ⟨i, ?_, h2, h3⟩
          by_cases e : i = n
          · subst e; exact absurd h3.symm d
          · omega
    · rw [if_neg c, ih]
      congr 1
      apply propext
      constructor
      · rintro ⟨i, h1, h2⟩; exact ⟨i, by omega, h2⟩
      · rintro ⟨i, h1, h2, h3⟩
        refine ⟨i, ?_, h2, h3⟩
        by_cases e : i = n
        · subst e; exact absurd h2 c
        · omega

def pk (ys : List NdS) (i : Nat) : Value := .string (nd (nds ys) i).p
def ck (ys : List NdS) (i : Nat) : Value := .int .i64 (nd (nds ys) i).c
def kk (ys : List NdS) (i : Nat) : Int := (nd (nds ys) i).k
theorem nd_y {ys : List NdS} {i : Nat} {y : NdS} (h : ys[i]? = some y) : nd (nds ys) i = y.n := by unfold nd; rw [nds_at h]; rfl

end Go.Proofs.YtinmkgpmoclcoaaDoor.Tre
/-
  A new variable of a struct, and a store into it, as steps of a drawn region walked by hand. Nothing of the program.
-/
namespace Go.Proofs.YtinmkgpmoclcoaaDoor
open Go.RowKit
section
variable {P : Program} {w : World} {ops : Array Oper} {o : Oper} {a : Act} {Q : Exit → Act → World → Prop} {K : Act → World → Prop} {E : Prop}

theorem step_alloc_obj (hgd : o.guard = none) (T : TypeId) (ho : o.op = .alloc T) (vs : List Value) (hz : (P.info? T).map (·.zero) = some (some (.agg vs.toArray)))
    (k : ∀ w', ObjAt w' w.heap.size T vs → Below w.heap.size w w' → K (a.put o.dst (.pointer (some ⟨w.heap.size, 0, none⟩))) w') :
    if Region.wanted o (yielded ops a.tmps) = true then Oper.wp P o a w K Q else E := by
  have hw : Region.wanted o (yielded ops a.tmps) = true := by simp [Region.wanted, hgd]
  rw [if_pos hw]
  cases hq : P.info? T with
  | none => simp [hq] at hz
  | some i =>
    simp [hq] at hz
    unfold Oper.wp
    simp [execOp, ho, Instr.alloc, zeroValue, typeInfo, hq, hz, newVar, newRow, Result.andThen, Value.cells]
    exact k _ (heap_alloc_new w _) ((Below.refl _ _).alloc (Nat.le_refl _) _)

theorem step_store_obj (hgd : o.guard = none) (T : TypeId) (x y : Operand) (ho : o.op = .store T x y) (g : Nat) (hx : a.eval x = .pointer (some ⟨g, 0, none⟩))
    (vs old : List Value) (hy : a.eval y = .agg vs.toArray) (T' : TypeId) (hg : ObjAt w g T' old) (hs : (P.info? T).map (·.size) = some vs.length) (hl : old.length = vs.length) (h1 : ∀ v ∈ vs, v.oneCell' = true)
    (k : ∀ w', ObjAt w' g T' vs → Turned w w' g → K (a.put o.dst undef) w') :
    if Region.wanted o (yielded ops a.tmps) = true then Oper.wp P o a w K Q else E := by
  have hw : Region.wanted o (yielded ops a.tmps) = true := by simp [Region.wanted, hgd]
  rw [if_pos hw]
  refine wp_store_row T x y ho g vs.toArray hx hy T' old.toArray hg (by simpa using hs) (by simpa using hl) ?_ ?_
  · rw [Array.all_eq_true_iff_forall_mem]
    intro u hu
    exact h1 u (by simpa using hu)
  · exact k _ (setRow_heap w g _ _ T' _ hg) ⟨_, rfl⟩
end
end Go.Proofs.YtinmkgpmoclcoaaDoor
