/-
  Layer 19, plain mathematics: a file system as the program keeps it: inodes, paths, the number of listings. No memory.
-/
import Derived.Test.YthcbiohmghaobaaDoorPnmMath
import Derived.Test.YthcbiohmghaobaaDoorPz01
import Derived.Test.YthcbiohmghaobaaDoorPz02
import Derived.MapKept
import Derived.Maps.AppendAt
import Derived.Test.YthcbiohmghaobaaDoorPz03
import Derived.Deep.Strs
import Derived.Test.YthcbiohmghaobaaDoorSnkMath
namespace Go.Proofs.YthcbiohmghaobaaDoor.Vfs
open Go.RowKit Go.Proofs.YthcbiohmghaobaaDoor.Pnm

/-- a file: kind, mode, number, links, data, target, owner, time, names -/
structure Ino where
  k : Int
  m : Int
  num : Int
  l : Int
  d : List Int
  t : ByteArray
  u : Int
  mt : Int
  ns : List ByteArray
abbrev ino0 : Ino := ⟨0, 0, 0, 0, [], ⟨#[]⟩, 0, 0, []⟩
structure St where
  is : List Ino
  ps : List (ByteArray × Nat)
  ls : Nat
def St.at (s : St) (i : Nat) : Ino := s.is.getD i ino0
def parB (p : ByteArray) : ByteArray := strOfNums (parZ (numsOf p))
def basB (p : ByteArray) : ByteArray := strOfNums (basZ (numsOf p))
open Classical in
/-- the place of a path's file -/
noncomputable def fnd : List (ByteArray × Nat) → ByteArray → Option Nat
  | [], _ => none
  | q :: ps, p => if q.1 = p then some q.2 else fnd ps p
theorem fnd_snoc (ps : List (ByteArray × Nat)) (p : ByteArray) (i : Nat) (q : ByteArray) : fnd (ps ++ [(p, i)]) q = match fnd ps q with
    | some j => some j
    | none => open Classical in if p = q then some i else none := by
  induction ps with
  | nil => rfl
  | cons x ps ih =>
    rw [List.cons_append]
    unfold fnd
    by_cases h : x.1 = q
    · rw [if_pos h, if_pos h]
    · rw [if_neg h, if_neg h, ih]
theorem fnd_mem {ps : List (ByteArray × Nat)} {p : ByteArray} {i : Nat} : fnd ps p = some i → (p, i) ∈ ps := by
  induction ps with
  | nil => intro h; cases h
  | cons x ps ih =>
    intro h
    unfold fnd at h
    by_cases hx : x.1 = p
    · rw [if_pos hx] at h
      obtain rfl := Option.some.inj h
      rw [← hx]; exact List.mem_cons_self
    · rw [if_neg hx] at h
      exact List.mem_cons_of_mem _ (ih h)
/-- is there a place for the path: 13 no parent, 14 it is there -/
noncomputable def plcE (s : St) (p : ByteArray) : Int := match fnd s.ps (parB p) with
  | none => 13
  | some i => if (s.at i).k ≠ 0 then 13 else match fnd s.ps p with
    | some _ => 14
    | none => 0
/-- a new file by itself -/
noncomputable def filE (k : Int) (p : ByteArray) (m : Int) (t : ByteArray) : Int :=
  if chE (numsOf p) ≠ 0 then chE (numsOf p) else if m < 0 ∨ 4095 < m then 16 else if k = 2 then Pxr.chk (Pxr.kLink, t) else 0
noncomputable def mkE (s : St) (k : Int) (p : ByteArray) (m : Int) (t : ByteArray) : Int := if filE k p m t ≠ 0 then filE k p m t else plcE s p
/-- file i replaced -/
def setI (s : St) (i : Nat) (x : Ino) : St := { s with is := s.is.set i x }
def addP (s : St) (p : ByteArray) (i : Nat) : St := { s with ps := s.ps ++ [(p, i)] }
def lnkI (s : St) (i : Nat) : St := setI s i { s.at i with l := (s.at i).l + 1 }
def namI (s : St) (i : Nat) (b : ByteArray) : St := setI s i { s.at i with ns := (s.at i).ns ++ [b] }
/-- a path for file i -/
noncomputable def putS (s : St) (p : ByteArray) (i : Nat) : St := namI (addP (lnkI s i) p i) ((fnd s.ps (parB p)).getD 0) (basB p)
def addI (F S : Int) (s : St) (k m : Int) (d : List Int) (t : ByteArray) : St := { s with is := s.is ++ [⟨k, m, F + S * (s.is.length : Int), 0, d, t, 0, 0, []⟩] }
noncomputable def newS (F S : Int) (s : St) (k : Int) (p : ByteArray) (m : Int) (d : List Int) (t : ByteArray) : St := putS (addI F S s k m d t) p s.is.length
noncomputable def mkS (F S : Int) (s : St) (k : Int) (p : ByteArray) (m : Int) (d : List Int) (t : ByteArray) : St := if mkE s k p m t ≠ 0 then s else newS F S s k p m d t
noncomputable def lnkE (s : St) (p t : ByteArray) : Int := if chE (numsOf p) ≠ 0 then chE (numsOf p) else if plcE s p ≠ 0 then plcE s p else match fnd s.ps t with
  | none => 19
  | some i => if (s.at i).k ≠ 1 then 15 else 0
noncomputable def lnkS (s : St) (p t : ByteArray) : St := if lnkE s p t ≠ 0 then s else putS s p ((fnd s.ps t).getD 0)
noncomputable def chE' (s : St) (p : ByteArray) : Int := match fnd s.ps p with
  | none => 19
  | some _ => 0
noncomputable def chS (s : St) (p : ByteArray) (u mt : Int) : St := match fnd s.ps p with
  | none => s
  | some i => setI s i { s.at i with u := u, mt := mt }
/-- at the start: the root -/
def st0 (F : Int) : St := ⟨[⟨0, 493, F, 1, [], ⟨#[]⟩, 0, 0, []⟩], [(⟨#[]⟩, 0)], 0⟩

/-- what stays true: each path's file is there; at most N files, paths -/
structure Wf (N : Nat) (s : St) : Prop where
  i : ∀ q ∈ s.ps, q.2 < s.is.length
  r : fnd s.ps ⟨#[]⟩ = some 0
  n : s.is.length ≤ N
  p : s.ps.length ≤ N
  ns : ∀ x ∈ s.is, x.ns.length ≤ s.ps.length
  l : ∀ x ∈ s.is, 0 ≤ x.l ∧ x.l ≤ N + 1
  z : ∀ x ∈ s.is, x.d.length ≤ 140737488355328 ∧ x.t.size ≤ 140737488355328
  b : ∀ q ∈ s.ps, q.1.size ≤ 65536
theorem Wf.lt {N : Nat} {s : St} (h : Wf N s) {p : ByteArray} {i : Nat} (hf : fnd s.ps p = some i) : i < s.is.length := h.i _ (fnd_mem hf)
theorem at_some {s : St} {i : Nat} (h : i < s.is.length) : s.is[i]? = some (s.at i) := by unfold St.at; rw [List.getD_eq_getElem?_getD, List.getElem?_eq_getElem h]; rfl
theorem at_mem {s : St} {i : Nat} (h : i < s.is.length) : s.at i ∈ s.is := List.mem_of_getElem? (at_some h)
theorem at_set {s : St} {i : Nat} {x : Ino} (h : i < s.is.length) : (setI s i x).at i = x := by
  show (s.is.set i x).getD i ino0 = x
  rw [List.getD_eq_getElem?_getD, List.getElem?_set_self h]; rfl
theorem at_ne {s : St} {i j : Nat} {x : Ino} (h : i ≠ j) : (setI s i x).at j = s.at j := by
  show (s.is.set i x).getD j ino0 = s.is.getD j ino0
  rw [List.getD_eq_getElem?_getD, List.getD_eq_getElem?_getD, List.getElem?_set_ne h]
theorem setI_len (s : St) (i : Nat) (x : Ino) : (setI s i x).is.length = s.is.length := List.length_set
/-- a file replaced by one that is as small -/
theorem Wf.set {N : Nat} {s : St} (h : Wf N s) {i : Nat} {x : Ino} (h1 : x.ns.length ≤ s.ps.length) (h2 : 0 ≤ x.l ∧ x.l ≤ N + 1) (h3 : x.d.length ≤ 140737488355328 ∧ x.t.size ≤ 140737488355328) : Wf N (setI s i x) := by
  have mem : ∀ y ∈ s.is.set i x, y ∈ s.is ∨ y = x := fun y hy => List.mem_or_eq_of_mem_set hy
  refine ⟨fun q hq => by rw [setI_len]; exact h.i q hq, h.r, by rw [setI_len]; exact h.n, h.p, fun y hy => ?_, fun y hy => ?_, fun y hy => ?_, h.b⟩
  · rcases mem y hy with e | rfl
    · exact h.ns y e
    · exact h1
  · rcases mem y hy with e | rfl
    · exact h.l y e
    · exact h2
  · rcases mem y hy with e | rfl
    · exact h.z y e
    · exact h3
/-- one path more -/
theorem Wf.add {N : Nat} {s : St} (h : Wf N s) {p : ByteArray} {i : Nat} (hi : i < s.is.length) (hN : s.ps.length < N) (hp : p.size ≤ 65536) : Wf N (addP s p i) := by
  have hl : (addP s p i).ps.length = s.ps.length + 1 := by show (s.ps ++ [(p, i)]).length = _; rw [List.length_append]; rfl
  refine ⟨fun q hq => ?_, ?_, h.n, by rw [hl]; exact hN, fun x hx => by rw [hl]; exact Nat.le_succ_of_le (h.ns x hx), h.l, h.z, fun q hq => ?_⟩
  · rcases List.mem_append.1 hq with e | e
    · exact h.i q e
    · obtain rfl : q = (p, i) := by simpa using e
      exact hi
  · show fnd (s.ps ++ [(p, i)]) _ = _
    rw [fnd_snoc, h.r]
  · rcases List.mem_append.1 hq with e | e
    · exact h.b q e
    · obtain rfl : q = (p, i) := by simpa using e
      exact hp
/-- one file more -/
theorem Wf.new {N : Nat} {s : St} (h : Wf N s) {F S k m : Int} {d : List Int} {t : ByteArray} (hN : s.is.length < N) (hd : d.length ≤ 140737488355328) (ht : t.size ≤ 140737488355328) : Wf N (addI F S s k m d t) := by
  have hl : (addI F S s k m d t).is.length = s.is.length + 1 := by show (s.is ++ [_]).length = _; rw [List.length_append]; rfl
  have mem : ∀ y ∈ (addI F S s k m d t).is, y ∈ s.is ∨ y = ⟨k, m, F + S * (s.is.length : Int), 0, d, t, 0, 0, []⟩ := fun y hy => by
    rcases List.mem_append.1 hy with e | e
    · exact .inl e
    · exact .inr (by simpa using e)
  refine ⟨fun q hq => by rw [hl]; exact Nat.lt_succ_of_lt (h.i q hq), h.r, by rw [hl]; exact hN, h.p, fun y hy => ?_, fun y hy => ?_, fun y hy => ?_, h.b⟩
  · rcases mem y hy with e | rfl
    · exact h.ns y e
    · exact Nat.zero_le _
  · rcases mem y hy with e | rfl
    · exact h.l y e
    · exact ⟨Int.le_refl _, by show (0 : Int) ≤ _; omega⟩
  · rcases mem y hy with e | rfl
    · exact h.z y e
    · exact ⟨hd, ht⟩
end Go.Proofs.YthcbiohmghaobaaDoor.Vfs
/-
  Structs as values: loaded whole, as a result beside a slot. Nothing of the program.
-/
namespace Go.Proofs.YthcbiohmghaobaaDoor
open Go.RowKit

/-- what a walk asks of a struct's type: of n cells -/
def ObjT (P : Program) (T : TypeId) (n : Nat) : Prop := (∃ fs, P.underlying T = some (.struct fs)) ∧ (P.info? T).map (·.size) = some n
section
variable {P : Program} {w : World} {ops : Array Oper} {rest : List Oper} {o : Oper} {a : Act} {Q : Exit → Act → World → Prop}

theorem wpList_load_obj (hgd : o.guard = none) (T : TypeId) (n : Nat) (hT : ObjT P T n) (x : Operand) (ho : o.op = .load T x) (g : Nat) (hx : a.eval x = .pointer (some ⟨g, 0, none⟩))
    (T' : TypeId) (vs : List Value) (hg : ObjAt w g T' vs) (hl : vs.length = n) (K : wpList P ops Q rest (a.put o.dst (.agg vs.toArray)) w) : wpList P ops Q (o :: rest) a w := by
  obtain ⟨⟨fs, h1⟩, h2⟩ := hT
  exact wpList_load_row hgd T x ho g hx T' vs.toArray (0, 0) (.struct fs) hg h1 rfl (by rw [h2]; simp [hl]) K
theorem run_load_obj {T : TypeId} {n : Nat} (hT : ObjT P T n) (g : Nat) (T' : TypeId) (vs : List Value) (hg : ObjAt w g T' vs) (hl : vs.length = n) : (loadVar T ⟨g, 0, none⟩).run P w = .ok (.agg vs.toArray) w := by
  obtain ⟨⟨fs, h1⟩, h2⟩ := hT
  exact run_loadVar_row w g T' T vs.toArray (0, 0) (.struct fs) hg h1 rfl (by rw [h2]; simp [hl])
/-- the results are a struct's variable and a slot -/
theorem results_obj_tmp {fn : Func} {p q : Tmp} {T : TypeId} {n : Nat} (h : fn.results = #[.cell p T, .tmp q]) (hT : ObjT P T n) (tmps : Array Value) (g : Nat) (hp : tmps.getD p undef = .pointer (some ⟨g, 0, none⟩))
    (T' : TypeId) (vs : List Value) (hg : ObjAt w g T' vs) (hl : vs.length = n) : (results fn tmps).run P w = .ok (.tuple #[.agg vs.toArray, tmps.getD q undef]) w := by
  have hp' : tmps[p]?.getD undef = .pointer (some ⟨g, 0, none⟩) := by simpa using hp
  simp [results, h, hp', asAddr, run_load_obj hT g T' vs hg hl]
theorem results_obj {fn : Func} {p : Tmp} {T : TypeId} {n : Nat} (h : fn.results = #[.cell p T]) (hT : ObjT P T n) (tmps : Array Value) (g : Nat) (hp : tmps.getD p undef = .pointer (some ⟨g, 0, none⟩))
    (T' : TypeId) (vs : List Value) (hg : ObjAt w g T' vs) (hl : vs.length = n) : (results fn tmps).run P w = .ok (.agg vs.toArray) w := by
  have hp' : tmps[p]?.getD undef = .pointer (some ⟨g, 0, none⟩) := by simpa using hp
  simp [results, h, hp', asAddr, run_load_obj hT g T' vs hg hl]
end
end Go.Proofs.YthcbiohmghaobaaDoor
/-
  A store into one field of a struct's variable. Nothing of the program.
-/
namespace Go.Proofs.YthcbiohmghaobaaDoor
open Go.RowKit

/-- block g alone has turned -/
structure TurnB (w w' : World) (g : Nat) : Prop where
  below : ∀ {B : Nat}, B ≤ g → Below B w w'
  other : ∀ {k : Nat}, k ≠ g → w'.heap[k]? = w.heap[k]?
  size : w'.heap.size = w.heap.size
theorem ObjAt.turnB {w w' : World} {g k : Nat} {T : TypeId} {vs : List Value} (h : ObjAt w k T vs) (t : TurnB w w' g) (hk : k ≠ g) : ObjAt w' k T vs := (t.other hk).trans h
theorem own_turnB {w w' : World} {base n size g : Nat} {e : TypeId} {v : Value} {xs : List Value} (h : w.ownsRow base e size v n xs) (t : TurnB w w' g) (hb : g < base) : w'.ownsRow base e size v n xs := by
  obtain ⟨h1, h2⟩ := h
  refine ⟨h1, ?_⟩
  rcases h2 with h2 | ⟨g', cap', cur, hv, hb', hh, r⟩
  · exact Or.inl h2
  · exact Or.inr ⟨g', cap', cur, hv, hb', by rw [t.other (by omega)]; exact hh, r⟩
section
variable {P : Program} {w : World} {ops : Array Oper} {rest : List Oper} {o : Oper} {a : Act} {Q : Exit → Act → World → Prop}
theorem wpList_store_cell (hgd : o.guard = none) (T : TypeId) (x y : Operand) (ho : o.op = .store T x y) (g i : Nat) (hx : a.eval x = .pointer (some ⟨g, i, none⟩))
    (v : Value) (hy : a.eval y = v) (h1 : v.oneCell' = true) (hs : (P.info? T).map (·.size) = some 1) (T' : TypeId) (vs : List Value) (hg : ObjAt w g T' vs) (hi : i < vs.length)
    (K : ∀ w', ObjAt w' g T' (vs.set i v) → TurnB w w' g → wpList P ops Q rest (a.put o.dst undef) w') : wpList P ops Q (o :: rest) a w := by
  refine wpList_plain hgd fun K' hK => ?_
  have hc : w.cell? ⟨g, i, none⟩ = some vs[i] := hg.get i (List.getElem?_eq_getElem hi)
  have hf := hg.frozen i
  have hv : v.cells = #[v] := by cases v <;> first | rfl | (simp [Value.oneCell'] at h1)
  cases hq : P.info? T with
  | none => simp [hq] at hs
  | some j =>
    have hj : j.size = 1 := by simpa [hq] using hs
    have ha : (⟨g, i, none⟩ : Addr).add 0 = ⟨g, i, none⟩ := add_plain' g i 0
    have hrun : (storeVar T ⟨g, i, none⟩ v).run P w = .ok () (w.setCell ⟨g, i, none⟩ v) := by
      simp [storeVar, sizeOf, typeInfo, hq, hj, hv, storeCells, run_store P w _ v _ h1, ha, hc, hf]
    unfold Oper.wp execOp
    simp only [ho, hx, hy, Instr.storeAt, Instr.sureAddr, Sem.run_bind, Sem.run_pure, Result.andThen_ok, hrun]
    exact hK _ _ (K _ (hg.set i v) ⟨fun hB => (Below.refl _ _).setCell hB v, fun hk => Below.heap_setCell _ _ _ _ hk, by simp [World.setCell]⟩)
end
end Go.Proofs.YthcbiohmghaobaaDoor
/-
  A map, known as a function of its keys: made, written, asked, counted. Nothing of the program.
-/
namespace Go.Proofs.YthcbiohmghaobaaDoor
open Go.RowKit Go.MapKept

open Classical in
/-- the entry at a key -/
noncomputable def lk : List MapEntry → Value → Option Value
  | [], _ => none
  | e :: es, k => if e.key = k then some e.val else lk es k
theorem find_lk {d : TypeDesc} {k : Value} (hk : IsKey d k) : ∀ (l : List MapEntry) (i : Nat), (∀ x ∈ l, IsKey d x.key) →
    (Instr.findNow d k l i = some none ∧ lk l k = none) ∨ ∃ l1 e l2, l = l1 ++ e :: l2 ∧ e.key = k ∧ (∀ x ∈ l1, x.key ≠ k) ∧ Instr.findNow d k l i = some (some (i + l1.length, e.val)) ∧ lk l k = some e.val
  | [], i, _ => .inl ⟨rfl, rfl⟩
  | x :: l, i, h => by
    obtain ⟨r, hr, hiff⟩ := sameNow_of_keys hk (h x (.head _))
    cases r with
    | true =>
      have e := hiff.1 rfl
      exact .inr ⟨[], x, l, rfl, e.symm, (fun _ h => by cases h), by simp [Instr.findNow, hr], by unfold lk; rw [if_pos e.symm]⟩
    | false =>
      have ne : x.key ≠ k := fun e => by have := hiff.2 e.symm; cases this
      rcases find_lk hk l (i + 1) (fun y hy => h y (.tail _ hy)) with ⟨h1, h2⟩ | ⟨l1, e, l2, rfl, h2, h3, h4, h5⟩
      · exact .inl ⟨by simp [Instr.findNow, hr, h1], by unfold lk; rw [if_neg ne]; exact h2⟩
      · exact .inr ⟨x :: l1, e, l2, rfl, h2, (fun y hy => by
          rcases List.mem_cons.1 hy with rfl | hy
          · exact ne
          · exact h3 y hy), by simp [Instr.findNow, hr, h4]; omega, by unfold lk; rw [if_neg ne]; exact h5⟩
theorem lk_append {k : Value} : ∀ (l1 l2 : List MapEntry), (∀ x ∈ l1, x.key ≠ k) → lk (l1 ++ l2) k = lk l2 k
  | [], _, _ => rfl
  | x :: l1, l2, h => by
    rw [List.cons_append, lk, if_neg (h x (.head _))]
    exact lk_append l1 l2 fun y hy => h y (.tail _ hy)
theorem lk_none {k : Value} : ∀ {l : List MapEntry}, lk l k = none → ∀ x ∈ l, x.key ≠ k
  | [], _, _, h => by cases h
  | y :: l, h, x, hx => by
    unfold lk at h
    by_cases c : y.key = k
    · rw [if_pos c] at h; cases h
    · rw [if_neg c] at h
      rcases List.mem_cons.1 hx with rfl | hx
      · exact c
      · exact lk_none h x hx
theorem lk_other {k k' : Value} {e e' : MapEntry} (he : e.key = k) (he' : e'.key = k) (h : k' ≠ k) : ∀ (l1 l2 : List MapEntry), lk (l1 ++ e' :: l2) k' = lk (l1 ++ e :: l2) k'
  | [], l2 => by
    rw [List.nil_append, List.nil_append, lk, lk, if_neg (by rw [he']; exact fun c => h c.symm), if_neg (by rw [he]; exact fun c => h c.symm)]
  | x :: l1, l2 => by
    rw [List.cons_append, List.cons_append, lk, lk, lk_other he he' h l1 l2]
theorem lk_more {k : Value} {e : MapEntry} (he : e.key ≠ k) : ∀ l : List MapEntry, lk (l ++ [e]) k = lk l k
  | [] => by rw [List.nil_append]; unfold lk; rw [if_neg he]; rfl
  | x :: l => by rw [List.cons_append, lk, lk, lk_more he l]
open Classical in
/-- a function, written at one key -/
noncomputable def upd (F : Value → Option Value) (k v : Value) : Value → Option Value := fun k' => if k' = k then some v else F k'
theorem upd_same (F : Value → Option Value) (k v : Value) : upd F k v k = some v := by unfold upd; rw [if_pos rfl]
theorem upd_ne {F : Value → Option Value} {k v k' : Value} (h : k' ≠ k) : upd F k v k' = F k' := by unfold upd; rw [if_neg h]

/-- block g is a map of n entries that reads as F -/
def MapF (w : World) (g : Nat) (d : TypeDesc) (n : Nat) (F : Value → Option Value) : Prop :=
  ∃ (xs : Array MapEntry) (clk : Nat), w.heap[g]? = some (.map xs clk) ∧ (∀ x ∈ xs.toList, IsKey d x.key) ∧ xs.size = n ∧ ∀ k, lk xs.toList k = F k
theorem MapF.lt {w : World} {g n : Nat} {d : TypeDesc} {F : Value → Option Value} (h : MapF w g d n F) : g < w.heap.size := by
  obtain ⟨xs, clk, h, _⟩ := h
  exact (Array.getElem?_eq_some_iff.1 h).1
theorem MapF.block {w w' : World} {g n : Nat} {d : TypeDesc} {F : Value → Option Value} (h : MapF w g d n F) (e : w'.heap[g]? = w.heap[g]?) : MapF w' g d n F := by
  obtain ⟨xs, clk, h, h2⟩ := h
  exact ⟨xs, clk, e.trans h, h2⟩
theorem MapF.below {w w' : World} {B g n : Nat} {d : TypeDesc} {F : Value → Option Value} (h : MapF w g d n F) (hb : Below B w w') (hg : g < B) : MapF w' g d n F := h.block (hb.block g hg)

section
variable {P : Program} {w : World} {ops : Array Oper} {rest : List Oper} {o : Oper} {a : Act} {Q : Exit → Act → World → Prop}

theorem wpList_make_mapF (hgd : o.guard = none) (T : TypeId) (ho : o.op = .makeMap T none) (d : TypeDesc)
    (K : ∀ w', MapF w' w.heap.size d 0 (fun _ => none) → Below w.heap.size w w' → wpList P ops Q rest (a.put o.dst (.map (some w.heap.size))) w') : wpList P ops Q (o :: rest) a w := by
  refine wpList_plain hgd fun K' hK => ?_
  unfold Oper.wp
  simp [execOp, ho, run_makeMap, Result.andThen]
  exact hK _ _ (K _ ⟨#[], 0, heap_alloc_new w _, (fun x h => by simp at h), rfl, fun k => rfl⟩ ((Below.refl _ _).alloc (Nat.le_refl _) _))

theorem wpList_update_map (hgd : o.guard = none) (T : TypeId) (m k x : Operand) (ho : o.op = .mapUpdate T m k x) (kt et : TypeId) (hT : P.underlying T = some (.map kt et)) (d : TypeDesc) (hk : P.underlying kt = some d)
    (g : Nat) (hm : a.eval m = .map (some g)) (kv : Value) (hkv : a.eval k = kv) (hkey : IsKey d kv) (v : Value) (hv : a.eval x = v) (n : Nat) (F : Value → Option Value) (hg : MapF w g d n F)
    (K : ∀ w', MapF w' g d (if F kv = none then n + 1 else n) (upd F kv v) → TurnB w w' g → wpList P ops Q rest (a.put o.dst undef) w') : wpList P ops Q (o :: rest) a w := by
  refine wpList_plain hgd fun K' hK => ?_
  obtain ⟨xs, clk, h1, h2, h3, h4⟩ := hg
  have hlt : g < w.heap.size := (Array.getElem?_eq_some_iff.1 h1).1
  have turn : ∀ (xs' : Array MapEntry) (c' : Nat), TurnB w { w with heap := w.heap.setIfInBounds g (.map xs' c') } g := fun xs' c' => ⟨fun hB => ⟨rfl, rfl, rfl, by simp, fun i hi => by
      show (w.heap.setIfInBounds g _)[i]? = w.heap[i]?
      rw [Array.getElem?_setIfInBounds_ne (by omega)]⟩, fun {k} hkg => by
      show (w.heap.setIfInBounds g _)[k]? = w.heap[k]?
      rw [Array.getElem?_setIfInBounds_ne (by omega)], by simp⟩
  rcases find_lk hkey xs.toList 0 h2 with ⟨f1, f2⟩ | ⟨l1, e, l2, f1, f2, f3, f4, f5⟩
  · have hF : F kv = none := by rw [← h4]; exact f2
    have hrun : (Instr.mapUpdate T (.map (some g)) kv v).run P w = .ok () { w with heap := w.heap.setIfInBounds g (.map (xs.push { key := kv, val := v, born := clk }) (clk + 1)) } := by
      simp [Instr.mapUpdate, run_underlying hT, Go.MapKept.run_getObj_map h1, run_checkKey (w := w) hk hkey, run_findKey (w := w) hk f1, Go.MapKept.run_setObj_map _ h1, Result.andThen]
    unfold Oper.wp
    simp [execOp, ho, hm, hkv, hv, hrun, Result.andThen]
    refine hK _ _ (K _ ⟨xs.push { key := kv, val := v, born := clk }, clk + 1, by simp [hlt], ?_, ?_, ?_⟩ (turn _ _))
    · intro x hx
      simp only [Array.toList_push, List.mem_append, List.mem_singleton] at hx
      rcases hx with hx | rfl
      · exact h2 x hx
      · exact hkey
    · rw [if_pos hF, Array.size_push, h3]
    · intro k'
      rw [Array.toList_push]
      by_cases c : k' = kv
      · subst c
        rw [upd_same, lk_append _ _ (lk_none f2), lk, if_pos rfl]
      · rw [upd_ne c, lk_more (fun h => c h.symm), h4]
  · have hF : F kv ≠ none := by rw [← h4, f5]; exact fun h => by cases h
    have hlen : l1.length < xs.toList.length := by rw [f1]; simp
    have hj : xs[l1.length]? = some e := by
      rw [← Array.getElem?_toList, f1, List.getElem?_append_right (Nat.le_refl _), Nat.sub_self]; rfl
    rw [Nat.zero_add] at f4
    have hrun : (Instr.mapUpdate T (.map (some g)) kv v).run P w = .ok () { w with heap := w.heap.setIfInBounds g (.map (xs.modify l1.length fun e => { e with key := kv, val := v }) clk) } := by
      simp [Instr.mapUpdate, run_underlying hT, Go.MapKept.run_getObj_map h1, run_checkKey (w := w) hk hkey, run_findKey (w := w) hk f4, hj, f2, run_keyThatStays hkey, Go.MapKept.run_setObj_map _ h1, Result.andThen]
    have hl : (xs.modify l1.length fun e => { e with key := kv, val := v }).toList = l1 ++ { e with key := kv, val := v } :: l2 := by
      rw [Array.toList_modify, f1, List.modify_eq_take_cons_drop (by simp)]
      simp
    unfold Oper.wp
    simp [execOp, ho, hm, hkv, hv, hrun, Result.andThen]
    refine hK _ _ (K _ ⟨xs.modify l1.length fun e => { e with key := kv, val := v }, clk, by simp [hlt], ?_, ?_, ?_⟩ (turn _ _))
    · rw [hl]
      intro x hx
      rcases List.mem_append.1 hx with hx | hx
      · exact h2 x (by rw [f1]; exact List.mem_append_left _ hx)
      · rcases List.mem_cons.1 hx with rfl | hx
        · exact hkey
        · exact h2 x (by rw [f1]; exact List.mem_append_right _ (List.mem_cons_of_mem _ hx))
    · rw [if_neg hF, Array.size_modify, h3]
    · intro k'
      rw [hl]
      by_cases c : k' = kv
      · subst c
        rw [upd_same, lk_append _ _ f3, lk, if_pos rfl]
      · rw [upd_ne c, lk_other (k := kv) f2 rfl c, ← f1, h4]

theorem run_lookF (T kt et : TypeId) (hT : P.underlying T = some (.map kt et)) (d : TypeDesc) (hk : P.underlying kt = some d) (z : Value) (hz : (P.info? et).map (·.zero) = some (some z))
    (g n : Nat) (kv : Value) (hkey : IsKey d kv) (F : Value → Option Value) (hg : MapF w g d n F) :
    (Instr.lookup T (.map (some g)) kv true).run P w = .ok (.tuple #[(F kv).getD z, .bool (F kv).isSome]) w ∧ (Instr.lookup T (.map (some g)) kv false).run P w = .ok ((F kv).getD z) w := by
  obtain ⟨xs, clk, h1, h2, h3, h4⟩ := hg
  cases hq : P.info? et with
  | none => simp [hq] at hz
  | some j =>
    have hj : j.zero = some z := by simpa [hq] using hz
    rcases find_lk hkey xs.toList 0 h2 with ⟨f1, f2⟩ | ⟨l1, e, l2, f1, f2, f3, f4, f5⟩
    · rw [← h4, f2]
      constructor <;> simp [Instr.lookup, run_underlying hT, Go.MapKept.run_getObj_map h1, run_checkKey (w := w) hk hkey, run_findKey (w := w) hk f1, zeroValue, typeInfo, hq, hj, Result.andThen]
    · rw [← h4, f5]
      constructor <;> simp [Instr.lookup, run_underlying hT, Go.MapKept.run_getObj_map h1, run_checkKey (w := w) hk hkey, run_findKey (w := w) hk f4, Result.andThen]
theorem run_lenF (T kt et ty : TypeId) (hT : P.underlying T = some (.map kt et)) (d : TypeDesc) (g n : Nat) (F : Value → Option Value) (hg : MapF w g d n F) :
    (Builtin.len_ #[T] ty #[.map (some g)]).run P w = .ok (goInt n) w := by
  obtain ⟨xs, clk, h1, h2, h3, h4⟩ := hg
  simp [Builtin.len_, run_underlying hT, Go.MapKept.run_getObj_map h1, h3, Result.andThen]
end
end Go.Proofs.YthcbiohmghaobaaDoor
/-
  What a call may turn besides new memory, as a set of blocks; what stays under it. Nothing of the program.
-/
namespace Go.Proofs.YthcbiohmghaobaaDoor
open Go.RowKit

/-- of what was there only the blocks of S may have turned -/
structure Only (S : Nat → Prop) (w w' : World) : Prop where
  os : w'.os = w.os
  tape : w'.tape = w.tape
  output : w'.output = w.output
  size : w.heap.size ≤ w'.heap.size
  block : ∀ k, k < w.heap.size → ¬ S k → w'.heap[k]? = w.heap[k]?
theorem Only.refl (S : Nat → Prop) (w : World) : Only S w w := ⟨rfl, rfl, rfl, Nat.le_refl _, fun _ _ _ => rfl⟩
theorem Only.trans {S : Nat → Prop} {a b c : World} (h : Only S a b) (k : Only S b c) : Only S a c :=
  ⟨k.os.trans h.os, k.tape.trans h.tape, k.output.trans h.output, Nat.le_trans h.size k.size, fun i hi hj => (k.block i (Nat.lt_of_lt_of_le hi h.size) hj).trans (h.block i hi hj)⟩
theorem Only.mono {S T : Nat → Prop} {w w' : World} (h : Only S w w') (hST : ∀ k, k < w.heap.size → S k → T k) : Only T w w' := ⟨h.os, h.tape, h.output, h.size, fun k hk hj => h.block k hk fun hs => hj (hST k hk hs)⟩
theorem Only.of_below {S : Nat → Prop} {B : Nat} {w w' : World} (h : Below B w w') (hB : w.heap.size ≤ B) : Only S w w' := ⟨h.os, h.tape, h.output, h.size, fun k hk _ => h.block k (Nat.lt_of_lt_of_le hk hB)⟩
theorem Only.below {S : Nat → Prop} {B : Nat} {w w' : World} (h : Only S w w') (hS : ∀ k, S k → B ≤ k) (hw : B ≤ w.heap.size) : Below B w w' := ⟨h.os, h.tape, h.output, h.size, fun k hk => h.block k (Nat.lt_of_lt_of_le hk hw) fun hs => by have := hS k hs; omega⟩
theorem Only.setCell {S : Nat → Prop} {a w : World} (h : Only S a w) {p : Addr} (hp : S p.block ∨ a.heap.size ≤ p.block) (v : Value) : Only S a (w.setCell p v) :=
  ⟨h.os, h.tape, h.output, by simpa [World.setCell] using h.size, fun k hk hj => (Below.heap_setCell w p v k (by rintro rfl; rcases hp with hp | hp; exact hj hp; omega)).trans (h.block k hk hj)⟩
theorem Only.drewN (S : Nat → Prop) (w : World) (n : Nat) : Only S w (w.drewN n) := ⟨rfl, rfl, rfl, Nat.le_refl _, fun _ _ _ => rfl⟩
theorem ObjAt.only {S : Nat → Prop} {w w' : World} {g : Nat} {T : TypeId} {vs : List Value} (h : ObjAt w g T vs) (ho : Only S w w') (hg : ¬ S g) : ObjAt w' g T vs := (ho.block g h.lt hg).trans h
theorem InK.only {S : Nat → Prop} {k : IntKind} {w w' : World} {a : Option Addr} {zs : List Int} (h : InK k w a zs) (ho : Only S w w') (e : ∀ x, a = some x → ¬ S x.block) : InK k w' a zs := h.block ho.size fun x hx hl => ho.block _ hl (e x hx)
theorem BytesIn.only {S : Nat → Prop} {w w' : World} {a : Option Addr} {zs : List Int} (h : BytesIn w a zs) (ho : Only S w w') (e : ∀ x, a = some x → ¬ S x.block) : BytesIn w' a zs := h.block ho.size fun x hx hl => ho.block _ hl (e x hx)
theorem own_only {S : Nat → Prop} {w w' : World} {base n : Nat} {e : TypeId} {v : Value} {xs : List Value} (h : w.ownsRow base e 1 v n xs) (ho : Only S w w') (hb : ∀ k, base ≤ k → k < w.heap.size → ¬ S k) : w'.ownsRow base e 1 v n xs := by
  obtain ⟨h1, h2⟩ := h
  refine ⟨h1, h2.imp id ?_⟩
  rintro ⟨g, cap, cur, hv, hbg, hg, r⟩
  have hlt : g < w.heap.size := by
    rcases Nat.lt_or_ge g w.heap.size with hl | hl
    · exact hl
    · rw [Array.getElem?_eq_none hl] at hg; cases hg
  exact ⟨g, cap, cur, hv, hbg, (ho.block g hlt (hb g hbg hlt)).trans hg, r⟩
/-- the blocks of S, and those that were laid between two worlds -/
def Grow (S : Nat → Prop) (w w' : World) : Nat → Prop := fun k => S k ∨ (w.heap.size ≤ k ∧ k < w'.heap.size)

/-- what a slice of the call's own reaches may turn: it, and new memory -/
theorem own_only_append {w w' : World} {base : Nat} (hb : Below base w w') : Only (fun k => base ≤ k) w w' := ⟨hb.os, hb.tape, hb.output, hb.size, fun k _ hj => hb.block k (by omega)⟩
end Go.Proofs.YthcbiohmghaobaaDoor
/-
  Several rows of the call's own beside one another: an append onto one of them leaves the others; literals of one element. Nothing of the program.
-/
namespace Go.Proofs.YthcbiohmghaobaaDoor
open Go.RowKit

/-- two values that own no block together -/
def Apart (u v : Value) : Prop := ∀ k, u.ownBlock = some k → v.ownBlock ≠ some k
theorem Apart.symm {u v : Value} (h : Apart u v) : Apart v u := fun k hv hu => h k hu hv
theorem Apart.none_l (v : Value) (n c : Nat) : Apart (.slice none n c) v := fun k h => by cases h
theorem own_under {w : World} {base n size : Nat} {e : TypeId} {v : Value} {xs : List Value} (h : w.ownsRow base e size v n xs) : ∀ k, v.ownBlock = some k → base ≤ k ∧ k < w.heap.size := by
  intro k hk
  rcases h.2 with ⟨h', _⟩ | ⟨g', cap', cur, hv, hb', hh, _⟩
  · rw [h'] at hk; cases hk
  · rw [hv] at hk
    obtain rfl : g' = k := by simpa [Value.ownBlock] using hk
    exact ⟨hb', (Array.getElem?_eq_some_iff.1 hh).1⟩
theorem own_grown {w w' : World} {base n size : Nat} {e : TypeId} {v : Value} {xs : List Value} {r : Option Nat} (h : w.ownsRow base e size v n xs) (hg : w.grownBy w' r) (hd : ∀ k, v.ownBlock = some k → r ≠ some k) : w'.ownsRow base e size v n xs := by
  obtain ⟨h1, h2⟩ := h
  refine ⟨h1, h2.imp id ?_⟩
  rintro ⟨g, cap, cur, hv, hb, hh, r'⟩
  have hlt : g < w.heap.size := (Array.getElem?_eq_some_iff.1 hh).1
  have ho : v.ownBlock = some g := by rw [hv]; rfl
  exact ⟨g, cap, cur, hv, hb, (hg.block g hlt (fun e => hd g ho e.symm)).trans hh, r'⟩
theorem own_stay' {w w' : World} {base B n size : Nat} {e : TypeId} {v : Value} {xs : List Value} (h : w.ownsRow base e size v n xs) (hb : Below B w w') (hB : w.heap.size ≤ B) : w'.ownsRow base e size v n xs := by
  obtain ⟨h1, h2⟩ := h
  refine ⟨h1, ?_⟩
  rcases h2 with h2 | ⟨g', cap', cur, hv, hb', hh, r⟩
  · exact Or.inl h2
  · have hlt : g' < w.heap.size := (Array.getElem?_eq_some_iff.1 hh).1
    exact Or.inr ⟨g', cap', cur, hv, hb', by rw [hb.block g' (by omega)]; exact hh, r⟩
theorem Apart.next {w : World} {base n size : Nat} {e : TypeId} {u v v' : Value} {xs : List Value} (h : Apart u v) (hu : w.ownsRow base e size u n xs) (hv : v'.ownBlock = v.ownBlock ∨ v'.ownBlock = some w.heap.size) : Apart u v' := fun k hk hk' => by
  rcases hv with hv | hv
  · rw [hv] at hk'; exact h k hk hk'
  · rw [hv] at hk'
    have := (own_under hu k hk).2
    simp only [Option.some.injEq] at hk'
    omega
theorem own_slice {w : World} {base n size : Nat} {e : TypeId} {v : Value} {xs : List Value} (h : w.ownsRow base e size v n xs) : ∃ a c, v = .slice a n c ∧ n ≤ c ∧ c ≤ maxLen := by
  rcases h.2 with ⟨rfl, rfl⟩ | ⟨g, cap, cur, rfl, _, _, hc, hm, _⟩
  · exact ⟨none, 0, rfl, Nat.le_refl _, Nat.zero_le _⟩
  · exact ⟨_, cap, rfl, hc, hm⟩
theorem info_of {P : Program} {e : TypeId} {z : Value} {s b : Nat} (h : (P.info? e).map (fun i => (i.zero, i.size, i.bytes)) = some (some z, s, b)) :
    ∃ i0, Hid (P.info? e = some i0 ∧ i0.zero = some z ∧ i0.size = s ∧ i0.bytes = b) := by
  cases hq : P.info? e with
  | none => simp [hq] at h
  | some i => simp [hq] at h; exact ⟨i, rfl, h.1, h.2.1, h.2.2⟩

section
variable {P : Program} {w : World} {ops : Array Oper} {rest : List Oper} {o : Oper} {a : Act} {Q : Exit → Act → World → Prop}

theorem wpList_append_apart (hgd : o.guard = none) (s x : Operand) (t : TypeId) (ho : o.op = .call { callee := .builtin .append, args := #[s, x], argTypes := #[t, t] })
    (base : Nat) (e : TypeId) (i0 : TypeInfo) (z : Value) (size bytes : Nat) (hT : P.underlying t = some (.slice e)) (hI : Hid (P.info? e = some i0 ∧ i0.zero = some z ∧ i0.size = size ∧ i0.bytes = bytes)) (hz : z.cells.size = size) (h0 : 0 < size)
    (v : Value) (n : Nat) (xs : List Value) (hs : a.eval s = v) (hown : w.ownsRow base e size v n xs)
    (ad : Addr) (m c : Nat) (news : List Value) (hx : a.eval x = .slice (some ad) m c) (hl : news.length = m * size) (hnews : ∀ j u, news[j]? = some u → w.cell? (ad.add j) = some u) (h1 : ∀ u ∈ news, u.oneCell' = true)
    (h63 : n + m ≤ maxLen) (h47 : (n + m) * bytes ≤ 140737488355328) (hbase : base ≤ w.heap.size)
    (K : ∀ v' w', w'.ownsRow base e size v' (n + m) (xs ++ news) → w.grownBy w' v.ownBlock → (v'.ownBlock = v.ownBlock ∨ v'.ownBlock = some w.heap.size) → Below base w w' → wpList P ops Q rest (a.put o.dst v') w') : wpList P ops Q (o :: rest) a w := by
  obtain ⟨v', w', hr, k1, k2, _, k3⟩ := run_append_own_at (P := P) w base t o.type e i0 z size bytes hT hI.out.1 hI.out.2.1 hI.out.2.2.1 hI.out.2.2.2 hz h0 v n xs hown ad m c news hl hnews h1 h63 h47 hbase
  refine wpList_plain hgd fun K' hK => ?_
  unfold Oper.wp
  simp [execOp, ho, resolve, invoke, builtin, hs, hx, hr, Result.andThen]
  exact hK _ _ (K _ _ k1 k2 k3 ((Below.refl _ _).grown k2 hbase (fun k hk => (own_under hown k hk).1)))

/-- .. of a row known whole -/
theorem wpList_append_obj (hgd : o.guard = none) (s x : Operand) (t : TypeId) (ho : o.op = .call { callee := .builtin .append, args := #[s, x], argTypes := #[t, t] })
    (base : Nat) (e : TypeId) (i0 : TypeInfo) (z : Value) (size bytes : Nat) (hT : P.underlying t = some (.slice e)) (hI : Hid (P.info? e = some i0 ∧ i0.zero = some z ∧ i0.size = size ∧ i0.bytes = bytes)) (hz : z.cells.size = size) (h0 : 0 < size)
    (v : Value) (n : Nat) (xs : List Value) (hs : a.eval s = v) (hown : w.ownsRow base e size v n xs)
    (b c : Nat) (T : TypeId) (news : List Value) (hx : a.eval x = .slice (some ⟨b, 0, none⟩) 1 c) (hl : news.length = size) (hob : ObjAt w b T news) (h1 : ∀ u ∈ news, u.oneCell' = true)
    (h63 : n + 1 ≤ maxLen) (h47 : (n + 1) * bytes ≤ 140737488355328) (hbase : base ≤ w.heap.size)
    (K : ∀ v' w', w'.ownsRow base e size v' (n + 1) (xs ++ news) → w.grownBy w' v.ownBlock → (v'.ownBlock = v.ownBlock ∨ v'.ownBlock = some w.heap.size) → Below base w w' → wpList P ops Q rest (a.put o.dst v') w') : wpList P ops Q (o :: rest) a w :=
  wpList_append_apart hgd s x t ho base e i0 z size bytes hT hI hz h0 v n xs hs hown ⟨b, 0, none⟩ 1 c news hx (by omega) (fun j u hj => by rw [add_plain', Nat.zero_add, hob.cell, hj]) h1 h63 h47 hbase K

/-- a literal of one struct of five cells -/
theorem wpList_lit_five (hgd : o.guard = none) (t e : TypeId) (x : Operand) (ho : o.op = .buildSlice t 1 #[(0, x)]) (ht : P.underlying t = some (.slice e)) (z : Value) (hI : (P.info? e).map (fun i => (i.zero, i.size)) = some (some z, 5))
    (u0 u1 u2 u3 u4 : Value) (hx : a.eval x = .agg #[u0, u1, u2, u3, u4])
    (K : ∀ w', ObjAt w' w.heap.size e [u0, u1, u2, u3, u4] → Below w.heap.size w w' → wpList P ops Q rest (a.put o.dst (.slice (some ⟨w.heap.size, 0, none⟩) 1 1)) w') : wpList P ops Q (o :: rest) a w := by
  refine wpList_plain hgd fun K' hK => ?_
  cases hq : P.info? e with
  | none => simp [hq] at hI
  | some i =>
    simp [hq] at hI
    have hrun : (Instr.buildSlice t 1 #[(0, .agg #[u0, u1, u2, u3, u4])]).run P w = .ok (.slice (some ⟨w.heap.size, 0, none⟩) 1 1) (w.alloc (.cells #[u0, u1, u2, u3, u4] e)) := by
      simp [Instr.buildSlice, run_underlying ht, sizeOf, typeInfo, zeroValue, hq, hI.1, hI.2, Instr.fill, newRow, Value.cells]
      rw [show Array.range 5 = #[0, 1, 2, 3, 4] by decide]; simp
    unfold Oper.wp
    simp [execOp, ho, hx, hrun, Result.andThen]
    exact hK _ _ (K _ (heap_alloc_new w _) ((Below.refl _ _).alloc (Nat.le_refl _) _))

/-- a literal of one 64-bit integer -/
theorem wpList_lit_i64 (hgd : o.guard = none) (t e : TypeId) (x : Operand) (ho : o.op = .buildSlice t 1 #[(0, x)]) (ht : P.underlying t = some (.slice e)) (hI : (P.info? e).map (fun i => (i.zero, i.size)) = some (some (.int .i64 0), 1))
    (c : Int) (hx : a.eval x = .int .i64 c)
    (K : ∀ w', ObjAt w' w.heap.size e [.int .i64 c] → Below w.heap.size w w' → wpList P ops Q rest (a.put o.dst (.slice (some ⟨w.heap.size, 0, none⟩) 1 1)) w') : wpList P ops Q (o :: rest) a w := by
  refine wpList_plain hgd fun K' hK => ?_
  cases hq : P.info? e with
  | none => simp [hq] at hI
  | some i =>
    simp [hq] at hI
    have hrun : (Instr.buildSlice t 1 #[(0, .int .i64 c)]).run P w = .ok (.slice (some ⟨w.heap.size, 0, none⟩) 1 1) (w.alloc (.cells #[.int .i64 c] e)) := by
      simp [Instr.buildSlice, run_underlying ht, sizeOf, typeInfo, zeroValue, hq, hI.1, hI.2, Instr.fill, newRow, Value.cells]
      rw [show Array.range 1 = #[0] by decide]; simp
    unfold Oper.wp
    simp [execOp, ho, hx, hrun, Result.andThen]
    exact hK _ _ (K _ (heap_alloc_new w _) ((Below.refl _ _).alloc (Nat.le_refl _) _))
end
end Go.Proofs.YthcbiohmghaobaaDoor
/-
  A slice of strings: that came in, or of the call's own; appends, literals. Nothing of the program.
-/
namespace Go.Proofs.YthcbiohmghaobaaDoor
open Go.RowKit Go.ChangeShapes Go.Deep

abbrev ssC (ys : List ByteArray) : List Value := ys.map Value.string
/-- strings lie at block b from off on -/
def SsAt (w : World) (b off : Nat) (ys : List ByteArray) : Prop := ∀ i y, ys[i]? = some y → w.cell? ⟨b, off + i, none⟩ = some (.string y)
theorem SsAt.block {w w' : World} {b off : Nat} {ys : List ByteArray} (h : SsAt w b off ys) (e : w'.heap[b]? = w.heap[b]?) : SsAt w' b off ys := fun i y hi => by
  have := h i y hi
  unfold World.cell? at this ⊢
  rw [e]; exact this
theorem SsAt.below {w w' : World} {b off B : Nat} {ys : List ByteArray} (h : SsAt w b off ys) (hb : Below B w w') (hB : b < B) : SsAt w' b off ys := h.block (hb.block b hB)
/-- strings in a slice -/
def SsIn (w : World) (a : Option Addr) (ys : List ByteArray) : Prop := ys = [] ∨ ∃ b off, a = some ⟨b, off, none⟩ ∧ b < w.heap.size ∧ SsAt w b off ys
theorem SsIn.below {w w' : World} {a : Option Addr} {ys : List ByteArray} (h : SsIn w a ys) (hb : Below w.heap.size w w') : SsIn w' a ys := by
  rcases h with h | ⟨b, off, h1, h2, h3⟩
  · exact .inl h
  · exact .inr ⟨b, off, h1, Nat.lt_of_lt_of_le h2 hb.size, h3.below hb h2⟩
/-- WHAT A WALK IS TOLD OF A SLICE OF STRINGS -/
structure ArgSs (w : World) (a : Option Addr) (len cap : Nat) (ys : List ByteArray) : Prop where
  n : ys.length = len
  c : len ≤ cap
  m : cap ≤ maxLen
  r : SsIn w a ys
  s : ∀ y ∈ ys, y.size ≤ 140737488355328
theorem ArgSs.below {w w' : World} {a : Option Addr} {len cap : Nat} {ys : List ByteArray} (h : ArgSs w a len cap ys) (hb : Below w.heap.size w w') : ArgSs w' a len cap ys := ⟨h.n, h.c, h.m, h.r.below hb, h.s⟩
theorem ArgSs.get {w : World} {a : Option Addr} {len cap : Nat} {ys : List ByteArray} (h : ArgSs w a len cap ys) (i : Nat) (hi : i < len) :
    ∃ b off y, a = some ⟨b, off, none⟩ ∧ b < w.heap.size ∧ ys[i]? = some y ∧ y.size ≤ 140737488355328 ∧ SsAt w b off ys ∧ w.cell? ⟨b, off + i, none⟩ = some (.string y) := by
  have hlt : i < ys.length := by rw [h.n]; exact hi
  have hg : ys[i]? = some ys[i] := List.getElem?_eq_getElem hlt
  rcases h.r with h0 | ⟨b, off, h1, h2, h3⟩
  · simp [h0] at hlt
  · exact ⟨b, off, _, h1, h2, hg, h.s _ (List.getElem_mem _), h3, h3 i _ hg⟩

section
variable {H : Type} {enc : TypeId × Value → H} {P : Program} {w : World} {base : Nat} {held : Bool}
theorem open_ss {t e : TypeId} {a : Option Addr} {len cap : Nat} {d : DataW H} {p : List MemPlace}
    (ht : P.underlying t = some (.slice e)) (he : P.underlying e = some .string) (hs : P.cellsOf e = 1)
    (h : DataW.Trod enc P w base (fun _ => true) held t (.slice a len cap) d p) (hw : ∀ n ∈ d.weights P t, n ≤ reachBytes) : ∃ ys, ArgSs w a len cap ys := by
  obtain ⟨fuel, hf⟩ := h
  rcases open_slice ht hf with ⟨hcs, _⟩ | ⟨x, len', cap', m, n, D, Pl, hcs, _, hl, hm, hmm, hd, hx⟩
  · simp [Value.cells] at hcs
    obtain ⟨rfl, rfl, rfl⟩ := hcs
    exact ⟨[], rfl, Nat.le_refl _, Nat.zero_le _, .inl rfl, fun _ h => by cases h⟩
  · simp [Value.cells] at hcs
    obtain ⟨rfl, rfl, rfl⟩ := hcs
    simp only [if_true] at hmm
    simp only [Prod.mk.injEq] at hd
    obtain ⟨rfl, _⟩ := hd
    have hreach := reachBytes_lt
    have each : ∀ i, i < m → ∃ y : ByteArray, w.cell? (x.add i) = some (.string y) ∧ (i < len → y.size ≤ 140737488355328) := by
      intro i hi
      obtain ⟨cs', g1, g2⟩ := hx i hi
      rw [hs] at g1
      obtain ⟨_, hlen, hcell⟩ := World.cells?_some g1
      match cs', hlen with
      | [v], _ =>
      obtain ⟨y, e0, x0, _⟩ := DataW.trod_string he g2
      simp only [List.cons.injEq, and_true] at e0
      subst e0
      have hc := hcell 0 (by simp)
      rw [Nat.mul_one, add_add, Nat.add_zero] at hc
      refine ⟨y, by simpa using hc, fun hil => ?_⟩
      have hmem : ∀ z, z ∈ (D i).weights P e → z ≤ reachBytes := fun z hz => hw z (by
        simp only [DataW.weights, ht, List.mem_cons, List.mem_append]
        exact .inr (.inl (weightsAll_mem (x := D i) hz _ (List.mem_map.2 ⟨i, by simpa using hil, rfl⟩))))
      have hD : D i = .lit (.string y.data.toList) := (Prod.mk.inj x0).1
      have b1 := hmem y.data.toList.length (by rw [hD]; simp [DataW.weights])
      rw [← Lib.size_eq] at b1
      omega
    obtain ⟨A, hA⟩ := choose_lt each
    refine ⟨(List.range len).map A, by simp, hl, hm, ?_, fun y hy => ?_⟩
    · rcases Nat.eq_zero_or_pos len with h0' | h0'
      · subst h0'; exact .inl rfl
      · have hc0 := (hA 0 (by omega)).1
        obtain ⟨b, off, spot⟩ := x
        have hspot : spot = none := by simpa [Addr.add] using World.cell?_spot hc0
        subst hspot
        refine .inr ⟨b, off, rfl, ?_, fun i y hy => ?_⟩
        · exact World.block_lt_of_cell? w (⟨b, off, none⟩ : Addr) (by simpa [Go.WideShapes.add_plain] using hc0)
        · rw [List.getElem?_map] at hy
          have hi : i < len := by
            rcases Nat.lt_or_ge i len with h | h
            · exact h
            · rw [List.getElem?_eq_none (by simpa using h)] at hy; cases hy
          rw [List.getElem?_range hi] at hy
          obtain rfl := Option.some.inj hy
          have := (hA i (by omega)).1
          rwa [Go.WideShapes.add_plain] at this
    · obtain ⟨r, hr', rfl⟩ := List.mem_map.1 hy
      have hlt : r < len := by simpa using hr'
      exact (hA r (by omega)).2 hlt
end

/-- strings of the call's own, in plain words -/
theorem SsIn.of_own {w : World} {base n : Nat} {e : TypeId} {v : Value} {ys : List ByteArray} (h : w.ownsRow base e 1 v n (ssC ys)) :
    ∃ a c, v = .slice a n c ∧ n = ys.length ∧ n ≤ c ∧ c ≤ maxLen ∧ SsIn w a ys ∧ (∀ x, a = some x → base ≤ x.block ∧ x.off = 0 ∧ x.block < w.heap.size ∧ ∀ k, w.frozen? ⟨x.block, k, none⟩ = false) := by
  have hl := h.1
  rw [List.length_map, Nat.mul_one] at hl
  rcases h.2 with ⟨hv, h0⟩ | ⟨g, cap, cur, hv, hb, hh, hc, hm, hs, ht⟩
  · subst h0
    exact ⟨none, 0, hv, hl.symm, Nat.le_refl _, Nat.zero_le _, .inl (List.length_eq_zero_iff.mp hl), fun x hx => by cases hx⟩
  · have hlt : g < w.heap.size := (Array.getElem?_eq_some_iff.1 hh).1
    refine ⟨some ⟨g, 0, none⟩, cap, hv, hl.symm, hc, hm, ?_, fun x hx => by cases hx; exact ⟨hb, rfl, hlt, fun k => by unfold World.frozen?; rw [hh]; simp⟩⟩
    refine .inr ⟨g, 0, rfl, hlt, fun i y hi => ?_⟩
    have hin : i < n := by rw [← hl]; exact (List.getElem?_eq_some_iff.mp hi).1
    have := congrArg (fun l => l[i]?) ht
    simp only [List.getElem?_take] at this
    rw [if_pos (by omega), List.getElem?_map, hi] at this
    unfold World.cell?
    rw [hh]
    simpa using this
theorem ArgSs.of_own {w : World} {base n : Nat} {e : TypeId} {v : Value} {ys : List ByteArray} (h : w.ownsRow base e 1 v n (ssC ys)) (hf : ∀ y ∈ ys, y.size ≤ 140737488355328) :
    ∃ a c, v = .slice a n c ∧ ArgSs w a n c ys := by
  obtain ⟨a, c, rfl, hn, hc, hm, hi, _⟩ := SsIn.of_own h
  exact ⟨a, c, rfl, hn.symm, hc, hm, hi, hf⟩
theorem ss_one (ys : List ByteArray) : ∀ v ∈ ssC ys, v.oneCell' = true := by simp [Value.oneCell']
theorem SsAt.news {w : World} {b off : Nat} {ys : List ByteArray} (h : SsAt w b off ys) : ∀ j u, (ssC ys)[j]? = some u → w.cell? ((⟨b, off, none⟩ : Addr).add j) = some u := fun j u hj => by
  rw [List.getElem?_map] at hj
  cases hy : ys[j]? with
  | none => rw [hy] at hj; cases hj
  | some y =>
    rw [hy] at hj
    obtain rfl := Option.some.inj hj
    rw [add_plain']; exact h j y hy
theorem ObjAt.ss {w : World} {g : Nat} {T : TypeId} {ys : List ByteArray} (h : ObjAt w g T (ssC ys)) : SsIn w (some ⟨g, 0, none⟩) ys :=
  .inr ⟨g, 0, rfl, h.lt, fun i y hi => by rw [Nat.zero_add, h.cell, List.getElem?_map, hi]; rfl⟩
/-- what an append asks of the elements' type -/
def ElemS (P : Program) (e : TypeId) : Prop := ∃ i0, P.info? e = some i0 ∧ i0.zero = some (.string ⟨#[]⟩) ∧ i0.size = 1 ∧ i0.bytes = 16
theorem elemS {P : Program} {e : TypeId} (h : (P.info? e).map (fun i => (i.zero, i.size, i.bytes)) = some (some (.string ⟨#[]⟩), 1, 16)) : ElemS P e := by
  cases hq : P.info? e with
  | none => simp [hq] at h
  | some i => simp [hq] at h; exact ⟨i, hq, h.1, h.2.1, h.2.2⟩
section
variable {P : Program} {w : World} {ops : Array Oper} {rest : List Oper} {o : Oper} {a : Act} {Q : Exit → Act → World → Prop}
theorem run_append_ss (t ty e : TypeId) (base : Nat) (hT : P.underlying t = some (.slice e)) (hI : ElemS P e)
    (v : Value) (n : Nat) (ys : List ByteArray) (hown : w.ownsRow base e 1 v n (ssC ys))
    (b : Option Addr) (m c : Nat) (xs : List ByteArray) (hy : SsIn w b xs) (hl : xs.length = m) (h47 : n + m ≤ 8796093022208) (hbase : base ≤ w.heap.size) :
    ∃ v' w', (Builtin.append_ #[t, t] ty #[v, .slice b m c]).run P w = .ok v' w' ∧ w'.ownsRow base e 1 v' (n + m) (ssC (ys ++ xs)) ∧ Below base w w' ∧ (∀ k, k < w.heap.size → some k ≠ v.ownBlock → w'.heap[k]? = w.heap[k]?) ∧ (v'.ownBlock = v.ownBlock ∨ v'.ownBlock = some w.heap.size) := by
  obtain ⟨i0, h1, h2, h3, h4⟩ := hI
  rcases hy with hy | ⟨b', off, rfl, _, hy⟩
  · subst hy
    obtain rfl : m = 0 := hl.symm
    exact ⟨v, w, run_append_empty (P := P) w base t ty e i0 1 hT h1 v n _ hown b c, by simpa using hown, Below.refl _ _, fun _ _ _ => rfl, .inl rfl⟩
  · obtain ⟨v', w', hr, k1, k2, _, k3⟩ := run_append_own_at (P := P) w base t ty e i0 _ 1 16 hT h1 h2 h3 h4 rfl (by decide) v n _ hown ⟨b', off, none⟩ m c (ssC xs) (by rw [List.length_map, hl, Nat.mul_one]) hy.news (ss_one xs) (by unfold maxLen; omega) (by omega) hbase
    exact ⟨v', w', hr, by rw [ssC, List.map_append]; exact k1, (Below.refl _ _).grown k2 hbase (fun k hk => (own_under hown k hk).1), fun k hk hr => k2.block k hk hr, k3⟩
theorem wpList_append_ss (hgd : o.guard = none) (s x : Operand) (t : TypeId) (ho : o.op = .call { callee := .builtin .append, args := #[s, x], argTypes := #[t, t] })
    (e : TypeId) (base : Nat) (hT : P.underlying t = some (.slice e)) (hI : ElemS P e)
    (v : Value) (n : Nat) (ys : List ByteArray) (hs : a.eval s = v) (hown : w.ownsRow base e 1 v n (ssC ys))
    (b : Option Addr) (m c : Nat) (xs : List ByteArray) (hx : a.eval x = .slice b m c) (hy : SsIn w b xs) (hl : xs.length = m) (h47 : n + m ≤ 8796093022208) (hbase : base ≤ w.heap.size)
    (K : ∀ v' w', w'.ownsRow base e 1 v' (n + m) (ssC (ys ++ xs)) → Below base w w' → (∀ k, k < w.heap.size → some k ≠ v.ownBlock → w'.heap[k]? = w.heap[k]?) → (v'.ownBlock = v.ownBlock ∨ v'.ownBlock = some w.heap.size) → wpList P ops Q rest (a.put o.dst v') w') : wpList P ops Q (o :: rest) a w := by
  obtain ⟨v', w', hr, k1, k2, k3, k4⟩ := run_append_ss (P := P) (w := w) t o.type e base hT hI v n ys hown b m c xs hy hl h47 hbase
  refine wpList_plain hgd fun K' hK => ?_
  unfold Oper.wp
  simp [execOp, ho, resolve, invoke, builtin, hs, hx, hr, Result.andThen]
  exact hK _ _ (K _ _ k1 k2 k3 k4)
theorem step_append_ss {K : Act → World → Prop} {E : Prop} (hgd : o.guard = none) (s x : Operand) (t : TypeId) (ho : o.op = .call { callee := .builtin .append, args := #[s, x], argTypes := #[t, t] })
    (e : TypeId) (base : Nat) (hT : P.underlying t = some (.slice e)) (hI : ElemS P e)
    (v : Value) (n : Nat) (ys : List ByteArray) (hs : a.eval s = v) (hown : w.ownsRow base e 1 v n (ssC ys))
    (b : Option Addr) (m c : Nat) (xs : List ByteArray) (hx : a.eval x = .slice b m c) (hy : SsIn w b xs) (hl : xs.length = m) (h47 : n + m ≤ 8796093022208) (hbase : base ≤ w.heap.size)
    (k : ∀ v' w', w'.ownsRow base e 1 v' (n + m) (ssC (ys ++ xs)) → Below base w w' → (∀ k, k < w.heap.size → some k ≠ v.ownBlock → w'.heap[k]? = w.heap[k]?) → (v'.ownBlock = v.ownBlock ∨ v'.ownBlock = some w.heap.size) → K (a.put o.dst v') w') :
    if Region.wanted o (yielded ops a.tmps) = true then Oper.wp P o a w K Q else E := by
  have hw : Region.wanted o (yielded ops a.tmps) = true := by simp [Region.wanted, hgd]
  rw [if_pos hw]
  obtain ⟨v', w', hr, h1, h2, h3, h4⟩ := run_append_ss (P := P) (w := w) t o.type e base hT hI v n ys hown b m c xs hy hl h47 hbase
  unfold Oper.wp
  simp [execOp, ho, resolve, invoke, builtin, hs, hx, hr, Result.andThen]
  exact k _ _ h1 h2 h3 h4
theorem own_lit_ss0 (w : World) (e : TypeId) : (w.alloc (.cells #[] e)).ownsRow w.heap.size e 1 (.slice (some ⟨w.heap.size, 0, none⟩) 0 0) 0 (ssC []) :=
  ⟨rfl, .inr ⟨w.heap.size, 0, #[], rfl, Nat.le_refl _, heap_alloc_new w _, Nat.le_refl _, Nat.zero_le _, rfl, rfl⟩⟩
theorem wpList_lit_ss0 (hgd : o.guard = none) (t e : TypeId) (ho : o.op = .buildSlice t 0 #[]) (ht : P.underlying t = some (.slice e)) (hI : ElemS P e)
    (K : ∀ w', w'.ownsRow w.heap.size e 1 (.slice (some ⟨w.heap.size, 0, none⟩) 0 0) 0 (ssC []) → Below w.heap.size w w' → wpList P ops Q rest (a.put o.dst (.slice (some ⟨w.heap.size, 0, none⟩) 0 0)) w') : wpList P ops Q (o :: rest) a w := by
  obtain ⟨i, h1, h2, h3, h4⟩ := hI
  refine wpList_plain hgd fun K' hK => ?_
  have hrun : (Instr.buildSlice t 0 #[]).run P w = .ok (.slice (some ⟨w.heap.size, 0, none⟩) 0 0) (w.alloc (.cells #[] e)) := by
    simp [Instr.buildSlice, run_underlying ht, sizeOf, typeInfo, h1, Instr.fill, newRow]
    rw [show Array.range 0 = #[] by decide, Array.map_empty]
  unfold Oper.wp
  simp [execOp, ho, hrun, Result.andThen]
  exact hK _ _ (K _ (own_lit_ss0 w e) ((Below.refl _ _).alloc (Nat.le_refl _) _))
theorem run_lit_ss1 (t e : TypeId) (ht : P.underlying t = some (.slice e)) (hI : ElemS P e) (y : ByteArray) :
    (Instr.buildSlice t 1 #[(0, .string y)]).run P w = .ok (.slice (some ⟨w.heap.size, 0, none⟩) 1 1) (w.alloc (.cells (ssC [y]).toArray e)) := by
  obtain ⟨i, h1, h2, h3, h4⟩ := hI
  simp [Instr.buildSlice, run_underlying ht, sizeOf, typeInfo, zeroValue, h1, h2, h3, Instr.fill, newRow, Value.cells]
  rw [show Array.range 1 = #[0] by decide]; simp
theorem wpList_lit_ss1 (hgd : o.guard = none) (t e : TypeId) (x : Operand) (ho : o.op = .buildSlice t 1 #[(0, x)]) (ht : P.underlying t = some (.slice e)) (hI : ElemS P e) (y : ByteArray) (hx : a.eval x = .string y)
    (K : ∀ w', ObjAt w' w.heap.size e (ssC [y]) → Below w.heap.size w w' → wpList P ops Q rest (a.put o.dst (.slice (some ⟨w.heap.size, 0, none⟩) 1 1)) w') : wpList P ops Q (o :: rest) a w := by
  refine wpList_plain hgd fun K' hK => ?_
  have hrun := run_lit_ss1 (P := P) (w := w) t e ht hI y
  unfold Oper.wp
  simp only [execOp, ho, List.map_toArray, List.map_cons, List.map_nil, hx, hrun, Sem.run_bind, Sem.run_pure, Result.andThen_ok]
  exact hK _ _ (K _ (heap_alloc_new w _) ((Below.refl _ _).alloc (Nat.le_refl _) _))
end
end Go.Proofs.YthcbiohmghaobaaDoor
/-
  Layer 19: the program's file system in memory.
-/
namespace Go.Proofs.YthcbiohmghaobaaDoor.Vfs
open Go.RowKit Go.MapKept Go.Proofs.YthcbiohmghaobaaDoor.Pnm

/-- an inode's memory: its block; its data's address and capacity; its names' slice -/
structure InM where
  g : Nat
  da : Option Addr
  dc : Nat
  nv : Value
/-- the cells of an Info -/
abbrev infL (k m num l sz : Int) (t : ByteArray) (u mt : Int) : List Value := [.int .i64 k, .int .i64 m, .int .i64 num, .int .i64 l, .int .i64 sz, .string t, .int .i64 u, .int .i64 mt]
abbrev inoL (k m num l sz : Int) (t : ByteArray) (u mt : Int) (da : Option Addr) (dn dc : Nat) (nv : Value) : List Value := infL k m num l sz t u mt ++ [.slice da dn dc, nv]
abbrev inoV (x : Ino) (y : InM) : List Value := inoL x.k x.m x.num x.l x.d.length x.t x.u x.mt y.da x.d.length y.dc y.nv
abbrev fsL (mp : Nat) (nx st : Int) (ra : Option Addr) (rn rc : Nat) (ix : Int) : List Value := [.map (some mp), .int .i64 nx, .int .i64 st, .slice ra rn rc, .int .i64 ix]
/-- the index of the next rotation -/
def rix (R : List Int) (s : St) : Nat := if R.length = 0 then 0 else s.ls % R.length
/-- the map of the paths -/
noncomputable def mpF (ps : List (ByteArray × Nat)) (M : List InM) : Value → Option Value
  | .string p => (fnd ps p).map fun i => .pointer (some ⟨(M.getD i ⟨0, none, 0, .slice none 0 0⟩).g, 0, none⟩)
  | _ => none
theorem mpF_some {ps : List (ByteArray × Nat)} {M : List InM} {p : ByteArray} {i : Nat} {y : InM} (h : fnd ps p = some i) (hy : M[i]? = some y) : mpF ps M (.string p) = some (.pointer (some ⟨y.g, 0, none⟩)) := by
  show (fnd ps p).map _ = _
  rw [h]
  show some (Value.pointer (some ⟨(M.getD i ⟨0, none, 0, .slice none 0 0⟩).g, 0, none⟩)) = _
  rw [List.getD_eq_getElem?_getD, hy]; rfl
theorem mpF_none {ps : List (ByteArray × Nat)} {M : List InM} {p : ByteArray} (h : fnd ps p = none) : mpF ps M (.string p) = none := by show (fnd ps p).map _ = _; rw [h]; rfl
theorem mpF_snoc {ps : List (ByteArray × Nat)} {M : List InM} {p : ByteArray} {i : Nat} {y : InM} (h : fnd ps p = none) (hy : M[i]? = some y) : mpF (ps ++ [(p, i)]) M = upd (mpF ps M) (.string p) (.pointer (some ⟨y.g, 0, none⟩)) := by
  funext v
  by_cases hv : v = .string p
  · subst hv
    rw [upd_same]
    refine mpF_some (i := i) ?_ hy
    rw [fnd_snoc, h]
    exact if_pos rfl
  · rw [upd_ne hv]
    cases v with
    | string q =>
      have hq : ¬ p = q := fun c => hv (by rw [c])
      show ((fnd (ps ++ [(p, i)]) q).map _) = (fnd ps q).map _
      rw [fnd_snoc]
      cases hf : fnd ps q with
      | some j => rfl
      | none => rw [if_neg hq]
    | _ => rfl
/-- one inode in memory: W: what the file system turns; D: data, never turned -/
structure InP (W D : Nat → Prop) (w : World) (x : Ino) (y : InM) : Prop where
  o : ObjAt w y.g 80 (inoV x y)
  wg : W y.g
  d : BytesIn w y.da x.d
  dl : x.d.length ≤ y.dc
  dm : y.dc ≤ maxLen
  db : ∀ a, y.da = some a → x.d ≠ [] → D a.block
  n : w.ownsRow 0 9 1 y.nv x.ns.length (ssC x.ns)
  nw : ∀ k, y.nv.ownBlock = some k → W k
/-- THE FILE SYSTEM at block f: F, S, R: its options; s: what it holds -/
structure FsP (N : Nat) (F S : Int) (R : List Int) (W D : Nat → Prop) (w : World) (f : Nat) (s : St) (mp nm : Nat) (ra : Option Addr) (rc : Nat) (M : List InM) : Prop where
  o : ObjAt w f 84 (fsL mp (F + S * (s.is.length : Int)) S ra R.length rc (rix R s))
  m : MapF w mp .string nm (mpF s.ps M)
  wf : Wf N s
  ml : M.length = s.is.length
  r : InK .i64 w ra R
  rl : R.length ≤ rc
  rm : rc ≤ maxLen
  rd : ∀ a, ra = some a → R ≠ [] → D a.block
  rz : ∀ z ∈ R, 0 ≤ z
  wfb : W f
  wm : W mp
  e : ∀ (i : Nat) (x : Ino) (y : InM), s.is[i]? = some x → M[i]? = some y → InP W D w x y
  inj : ∀ (i j : Nat) (y z : InM), M[i]? = some y → M[j]? = some z → y.g = z.g → i = j
  sep : ∀ (i j : Nat) (y z : InM) (k : Nat), M[i]? = some y → M[j]? = some z → y.nv.ownBlock = some k → z.nv.ownBlock = some k → i = j
  wd : ∀ k, W k → ¬ D k
  lt : ∀ k, W k ∨ D k → k < w.heap.size
  b : 1 ≤ F ∧ F ≤ 1000000 ∧ 1 ≤ S ∧ S ≤ 1000000
/-- what lies outside of the file system may turn -/
theorem InP.keep {W D : Nat → Prop} {w w' : World} {x : Ino} {y : InM} (h : InP W D w x y) (hs : w.heap.size ≤ w'.heap.size) (hk : ∀ k, k < w.heap.size → W k ∨ D k → w'.heap[k]? = w.heap[k]?) : InP W D w' x y := by
  refine ⟨h.o.block (hk _ h.o.lt (.inl h.wg)), h.wg, ?_, h.dl, h.dm, h.db, ?_, h.nw⟩
  · by_cases h0 : x.d = []
    · exact .inl h0
    · exact h.d.block hs fun a ha hl => hk _ hl (.inr (h.db a ha h0))
  · refine ⟨h.n.1, h.n.2.imp id fun ⟨g, c, cur, h1, h2, h3⟩ => ⟨g, c, cur, h1, h2, ?_⟩⟩
    have hl : g < w.heap.size := by
      have := own_under h.n g (by rw [h1]; rfl)
      exact this.2
    rw [hk g hl (.inl (h.nw g (by rw [h1]; rfl)))]
    exact h3
theorem FsP.keep {N : Nat} {F S : Int} {R : List Int} {W D : Nat → Prop} {w w' : World} {f : Nat} {s : St} {mp nm : Nat} {ra : Option Addr} {rc : Nat} {M : List InM} (h : FsP N F S R W D w f s mp nm ra rc M) (hs : w.heap.size ≤ w'.heap.size) (hk : ∀ k, k < w.heap.size → W k ∨ D k → w'.heap[k]? = w.heap[k]?) : FsP N F S R W D w' f s mp nm ra rc M := by
  refine ⟨h.o.block (hk _ h.o.lt (.inl h.wfb)), h.m.block (hk _ h.m.lt (.inl h.wm)), h.wf, h.ml, ?_, h.rl, h.rm, h.rd, h.rz, h.wfb, h.wm, fun i x y hx hy => (h.e i x y hx hy).keep hs hk, h.inj, h.sep, h.wd, fun k hk' => Nat.lt_of_lt_of_le (h.lt k hk') hs, h.b⟩
  by_cases h0 : R = []
  · exact .inl (by rw [h0])
  · exact h.r.block hs fun a ha hl => hk _ hl (.inr (h.rd a ha h0))
theorem FsP.below {N : Nat} {F S : Int} {R : List Int} {W D : Nat → Prop} {w w' : World} {f : Nat} {s : St} {mp nm : Nat} {ra : Option Addr} {rc : Nat} {M : List InM} (h : FsP N F S R W D w f s mp nm ra rc M) (hb : Below w.heap.size w w') : FsP N F S R W D w' f s mp nm ra rc M := h.keep hb.size fun k hk _ => hb.block k hk
/-- a path's inode -/
theorem FsP.get {N : Nat} {F S : Int} {R : List Int} {W D : Nat → Prop} {w : World} {f : Nat} {s : St} {mp nm : Nat} {ra : Option Addr} {rc : Nat} {M : List InM} (h : FsP N F S R W D w f s mp nm ra rc M) {p : ByteArray} {i : Nat} (hf : fnd s.ps p = some i) : ∃ y, M[i]? = some y ∧ s.is[i]? = some (s.at i) ∧ InP W D w (s.at i) y := by
  have hi := h.wf.lt hf
  have e1 : s.is[i]? = some (s.at i) := by unfold St.at; rw [List.getD_eq_getElem?_getD, List.getElem?_eq_getElem hi]; rfl
  have hm : i < M.length := by rw [h.ml]; exact hi
  have e2 : M[i]? = some M[i] := List.getElem?_eq_getElem hm
  exact ⟨_, e2, e1, h.e i _ _ e1 e2⟩
end Go.Proofs.YthcbiohmghaobaaDoor.Vfs
/-
  The reference's Chunk (layer 4).
-/
namespace Go.Proofs.YthcbiohmghaobaaDoor
open Go.RowKit

end Go.Proofs.YthcbiohmghaobaaDoor
/-
  Layer 5: walks of the reference.
-/
namespace Go.Proofs.YthcbiohmghaobaaDoor
open Go.RowKit

end Go.Proofs.YthcbiohmghaobaaDoor
