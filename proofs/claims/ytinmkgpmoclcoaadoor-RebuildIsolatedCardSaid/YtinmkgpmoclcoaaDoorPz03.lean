/-
  Layer 13: plain mathematics: nodes sorted by path, stably; classes numbered anew. No memory.
-/
import Derived.Test.YtinmkgpmoclcoaaDoorPz02
import Derived.Test.YtinmkgpmoclcoaaDoorPnmMath
import Derived.Deep.Matrix
import Derived.Deep.Grids
import Derived.SizedLaws
import Derived.Deep.Strs
namespace Go.Proofs.YtinmkgpmoclcoaaDoor.Tre
open Go.RowKit Pnm

/-- a node -/
structure Nd where
  k : Int
  p : ByteArray
  m : Int
  t : ByteArray
  d : List Int
  c : Int

def key (x : Nd) : List Int := numsOf x.p
def Le (x y : Nd) : Prop := cmpZ (key x) (key y) ≤ 0
theorem Le.trans {x y z : Nd} (h : Le x y) (h' : Le y z) : Le x z := cmp_trans _ _ _ h h'
theorem le_of_not {x y : Nd} (h : ¬ Le x y) : Le y x := by
  unfold Le at *
  rw [cmp_neg]
  rcases cmp_cases (key x) (key y) with e | e | e <;> rw [e] at h ⊢ <;> omega
theorem Le.anti {x y : Nd} (h : Le x y) (h' : Le y x) : x.p = y.p := by
  unfold Le at *
  rw [cmp_neg] at h'
  exact nums_inj ((cmp_eq (key x) (key y)).mp (by rcases cmp_cases (key x) (key y) with e | e | e <;> rw [e] at h h' ⊢ <;> omega))
theorem le_of_eq {x y : Nd} (h : x.p = y.p) : Le x y := by
  unfold Le
  rw [(cmp_eq _ _).mpr (show key x = key y by unfold key; rw [h])]
  exact Int.le_refl 0

/-- from the end: where a node belongs -/
def bk (l : List Nd) (x : Nd) : Nat → Nat
  | 0 => 0
  | k + 1 => match l[k]? with
    | some y => if 0 < cmpZ (key y) (key x) then bk l x k else k + 1
    | none => bk l x k
theorem bk_le (l : List Nd) (x : Nd) : ∀ n, bk l x n ≤ n
  | 0 => Nat.le_refl 0
  | n + 1 => by
    have ih := bk_le l x n
    unfold bk
    split
    · split <;> omega
    · omega
theorem bk_end (l : List Nd) (x : Nd) : ∀ n (_ : n ≤ l.length), (∀ j (_ : j < n) (h : j < l.length), bk l x n ≤ j → ¬ Le l[j] x) ∧ ∀ (_ : 0 < bk l x n) (h : bk l x n - 1 < l.length), Le l[bk l x n - 1] x
  | 0, _ => ⟨fun j h => absurd h (Nat.not_lt_zero j), fun h => absurd h (Nat.lt_irrefl 0)⟩
  | n + 1, hn => by
    have ih := bk_end l x n (by omega)
    have e : bk l x (n + 1) = if 0 < cmpZ (key (l[n]'(by omega))) (key x) then bk l x n else n + 1 := by
      rw [bk, List.getElem?_eq_getElem (show n < l.length by omega)]
    by_cases c : 0 < cmpZ (key (l[n]'(by omega))) (key x)
    · rw [if_pos c] at e
      rw [e]
      refine ⟨fun j hj h hb => ?_, ih.2⟩
      by_cases h' : j < n
      · exact ih.1 j h' h hb
      · obtain rfl : j = n := by omega
        unfold Le; omega
    · rw [if_neg c] at e
      rw [e]
      refine ⟨fun j hj h hb => by omega, fun _ h => ?_⟩
      unfold Le
      exact Int.not_lt.mp c

def insA (l : List Nd) (x : Nd) : List Nd := l.take (bk l x l.length) ++ x :: l.drop (bk l x l.length)
theorem ins_perm (l : List Nd) (x : Nd) : (insA l x).Perm (x :: l) := by
  unfold insA
  exact List.perm_middle.trans (by rw [List.take_append_drop])
def Srt (l : List Nd) : Prop := l.Pairwise Le
theorem mem_take_le {l : List Nd} {n : Nat} (hs : Srt l) {y x : Nd} (hy : y ∈ l.take n) (h : 0 < n → ∀ (h : n - 1 < l.length), Le l[n - 1] x) (hn : n ≤ l.length) : Le y x := by
  obtain ⟨i, hi, rfl⟩ := List.getElem_of_mem hy
  rw [List.length_take] at hi
  rw [List.getElem_take]
  by_cases e : i = n - 1
  · subst e; exact h (by omega) (by omega)
  · exact Le.trans ((List.pairwise_iff_getElem.mp hs) i (n - 1) (by omega) (by omega) (by omega)) (h (by omega) (by omega))
theorem mem_drop_gt {l : List Nd} {x y : Nd} (hy : y ∈ l.drop (bk l x l.length)) : ¬ Le y x := by
  obtain ⟨i, hi, rfl⟩ := List.getElem_of_mem hy
  rw [List.length_drop] at hi
  rw [List.getElem_drop]
  exact (bk_end l x l.length (Nat.le_refl _)).1 _ (by omega) (by omega) (by omega)
theorem mem_take_ge {l : List Nd} (hs : Srt l) {x y : Nd} (hy : y ∈ l.take (bk l x l.length)) : Le y x :=
  mem_take_le hs hy (fun h0 h => (bk_end l x l.length (Nat.le_refl _)).2 h0 h) (bk_le _ _ _)
theorem ins_srt {l : List Nd} (hs : Srt l) (x : Nd) : Srt (insA l x) := by
  unfold insA Srt
  rw [List.pairwise_append]
  refine ⟨hs.sublist (List.take_sublist _ _), List.pairwise_cons.mpr ⟨fun y hy => le_of_not (mem_drop_gt hy), hs.sublist (List.drop_sublist _ _)⟩, fun a ha b hb => ?_⟩
  rcases List.mem_cons.mp hb with rfl | hb
  · exact mem_take_ge hs ha
  · exact (mem_take_ge hs ha).trans (le_of_not (mem_drop_gt hb))
/-- the nodes of one path keep their order -/
def at_ (q : ByteArray) (l : List Nd) : List Nd := l.filter fun x => decide (x.p = q)
theorem ins_at {l : List Nd} (x : Nd) (q : ByteArray) : at_ q (insA l x) = at_ q (l ++ [x]) := by
  unfold insA at_
  rw [List.filter_append, List.filter_append]
  by_cases h : x.p = q
  · have e : (l.drop (bk l x l.length)).filter (fun y => decide (y.p = q)) = [] := by
      rw [List.filter_eq_nil_iff]
      intro y hy
      have := mem_drop_gt hy
      intro e
      exact this (le_of_eq ((of_decide_eq_true e).trans h.symm))
    rw [List.filter_cons, if_pos (decide_eq_true h), e, List.filter_cons, if_pos (decide_eq_true h), List.filter_nil]
    congr 1
    conv => rhs; rw [← List.take_append_drop (bk l x l.length) l, List.filter_append, e, List.append_nil]
  · rw [List.filter_cons, if_neg (by rw [decide_eq_true_iff]; exact h), List.filter_cons, if_neg (by rw [decide_eq_true_iff]; exact h), List.filter_nil, List.append_nil, ← List.filter_append, List.take_append_drop]
theorem ins_last {l : List Nd} {x : Nd} (h : ∀ y ∈ l, Le y x) : insA l x = l ++ [x] := by
  have e : bk l x l.length = l.length := by
    cases hl : l.length with
    | zero => rfl
    | succ n =>
      rw [bk, List.getElem?_eq_getElem (show n < l.length by omega)]
      have := h l[n] (List.getElem_mem _)
      unfold Le at this
      show (if 0 < cmpZ (key l[n]) (key x) then _ else _) = _
      rw [if_neg (by omega)]
  unfold insA
  rw [e, List.take_of_length_le (Nat.le_refl _), List.drop_of_length_le (Nat.le_refl _)]

/-- sorted by path, stably -/
def srtF (acc l : List Nd) : List Nd := l.foldl insA acc
def srt (l : List Nd) : List Nd := srtF [] l
theorem srtF_perm : ∀ (l acc : List Nd), (srtF acc l).Perm (acc ++ l)
  | [], acc => by rw [List.append_nil]; exact List.Perm.refl _
  | x :: l, acc => by
    refine (srtF_perm l (insA acc x)).trans (((ins_perm acc x).append_right l).trans ?_)
    exact (List.perm_middle (l₁ := acc) (a := x) (l₂ := l)).symm
theorem srt_perm (l : List Nd) : (srt l).Perm l := srtF_perm l []
theorem srtF_srt : ∀ (l : List Nd) {acc : List Nd} (_ : Srt acc), Srt (srtF acc l)
  | [], _, h => h
  | x :: l, _, h => srtF_srt l (ins_srt h x)
theorem srt_srt (l : List Nd) : Srt (srt l) := srtF_srt l List.Pairwise.nil
theorem srtF_at : ∀ (l acc : List Nd) (q : ByteArray), at_ q (srtF acc l) = at_ q (acc ++ l)
  | [], acc, q => by rw [List.append_nil]; rfl
  | x :: l, acc, q => by
    refine (srtF_at l (insA acc x) q).trans ?_
    have h := ins_at (l := acc) x q
    unfold at_ at *
    rw [List.filter_append, h, ← List.filter_append, List.append_assoc]; rfl
theorem srt_at (l : List Nd) (q : ByteArray) : at_ q (srt l) = at_ q l := srtF_at l [] q
theorem srtF_id : ∀ (l acc : List Nd), Srt (acc ++ l) → srtF acc l = acc ++ l
  | [], acc, _ => by rw [List.append_nil]; rfl
  | x :: l, acc, h => by
    have h' := h
    unfold Srt at h'
    rw [List.pairwise_append] at h'
    show srtF (insA acc x) l = _
    rw [ins_last fun y hy => h'.2.2 y hy x (List.mem_cons_self ..)]
    rw [srtF_id l (acc ++ [x]) (by rw [List.append_assoc]; exact h), List.append_assoc]; rfl
theorem srt_id {l : List Nd} (h : Srt l) : srt l = l := srtF_id l [] h
theorem srt_len (l : List Nd) : (srt l).length = l.length := (srt_perm l).length_eq
theorem srt_mem (l : List Nd) (x : Nd) : x ∈ srt l ↔ x ∈ l := (srt_perm l).mem_iff
/-- what is sorted and keeps the order of each path's nodes is determined -/
theorem srt_only : ∀ {a b : List Nd}, Srt a → Srt b → (∀ q, at_ q a = at_ q b) → a = b
  | [], [], _, _, _ => rfl
  | [], y :: b, _, _, h => by
    have := h y.p
    unfold at_ at this
    rw [List.filter_nil, List.filter_cons, if_pos (decide_eq_true rfl)] at this; cases this
  | x :: a, [], _, _, h => by
    have := h x.p
    unfold at_ at this
    rw [List.filter_nil, List.filter_cons, if_pos (decide_eq_true rfl)] at this; cases this
  | x :: a, y :: b, ha, hb, h => by
    have in1 : y ∈ x :: a := by
      have : y ∈ at_ y.p (x :: a) := by rw [h]; exact List.mem_filter.mpr ⟨List.mem_cons_self .., decide_eq_true rfl⟩
      exact (List.mem_filter.mp this).1
    have in2 : x ∈ y :: b := by
      have : x ∈ at_ x.p (y :: b) := by rw [← h]; exact List.mem_filter.mpr ⟨List.mem_cons_self .., decide_eq_true rfl⟩
      exact (List.mem_filter.mp this).1
    have l1 : Le x y := by
      rcases List.mem_cons.mp in1 with e | e
      · rw [e]; exact le_of_eq rfl
      · exact (List.pairwise_cons.mp ha).1 y e
    have l2 : Le y x := by
      rcases List.mem_cons.mp in2 with e | e
      · rw [e]; exact le_of_eq rfl
      · exact (List.pairwise_cons.mp hb).1 x e
    have e : x.p = y.p := l1.anti l2
    have e' : x = y := by
      have := h x.p
      unfold at_ at this
      rw [List.filter_cons, if_pos (decide_eq_true rfl), List.filter_cons, if_pos (decide_eq_true e.symm)] at this
      exact (List.cons.inj this).1
    subst e'
    rw [srt_only (List.pairwise_cons.mp ha).2 (List.pairwise_cons.mp hb).2 fun q => by
      have := h q
      unfold at_ at this ⊢
      rw [List.filter_cons, List.filter_cons] at this
      split at this
      · exact (List.cons.inj this).2
      · exact this]
theorem srt_of {a l : List Nd} (h : Srt a) (h' : ∀ q, at_ q a = at_ q l) : a = srt l := srt_only h (srt_srt l) fun q => (h' q).trans (srt_at l q).symm
/-- nodes of different paths: the order of the list doesn't matter -/
def Apt (l : List Nd) : Prop := l.Pairwise fun x y => x.p ≠ y.p
theorem Apt.perm {a b : List Nd} (h : Apt a) (hp : a.Perm b) : Apt b := (hp.pairwise_iff fun h e => h e.symm).mp h
theorem Apt.inj : ∀ {l : List Nd}, Apt l → ∀ {x y : Nd}, x ∈ l → y ∈ l → x.p = y.p → x = y
  | [], _, _, _, h, _, _ => by cases h
  | z :: l, ha, x, y, hx, hy, e => by
    have h := List.pairwise_cons.mp ha
    rcases List.mem_cons.mp hx with rfl | h1 <;> rcases List.mem_cons.mp hy with rfl | h2
    · rfl
    · exact absurd e (h.1 y h2)
    · exact absurd e.symm (h.1 x h1)
    · exact Apt.inj h.2 h1 h2 e
theorem srt_swap {a b : List Nd} (h : Apt a) (hp : a.Perm b) : srt a = srt b := by
  refine List.Perm.eq_of_pairwise (le := Le) (fun x y hx hy h1 h2 => ?_) (srt_srt a) (srt_srt b) ((srt_perm a).trans (hp.trans (srt_perm b).symm))
  exact h.inj ((srt_mem a x).mp hx) (hp.mem_iff.mpr ((srt_mem b y).mp hy)) (h1.anti h2)
/-- what keeps the paths may be done before or after -/
theorem srt_map {f : Nd → Nd} (hf : ∀ x, (f x).p = x.p) (l : List Nd) : srt (l.map f) = (srt l).map f := by
  symm
  refine srt_of ?_ fun q => ?_
  · have h := srt_srt l
    unfold Srt at *
    rw [List.pairwise_map]
    exact h.imp fun {x y} h => by unfold Le key at *; rw [hf, hf]; exact h
  · have h := srt_at l q
    have e : ∀ l : List Nd, at_ q (l.map f) = (at_ q l).map f := fun l => by
      unfold at_
      rw [List.filter_map]
      exact congrArg _ (List.filter_congr fun x _ => by show decide ((f x).p = q) = _; rw [hf])
    rw [e, e, h]
end Go.Proofs.YtinmkgpmoclcoaaDoor.Tre
/-
  A slice of slices of integers, and a slice of bools, that came in, opened. Nothing of the program.
-/
namespace Go.Proofs.YtinmkgpmoclcoaaDoor
open Go.RowKit Go.ChangeShapes Go.Deep

/-- WHAT A WALK IS TOLD OF A SLICE OF SLICES OF INTEGERS THAT CAME IN: rows: each row's address, length, capacity, elements -/
def ArgRows (k : IntKind) (w : World) (a : Option Addr) (len cap : Nat) (rows : List (Option Addr × Nat × Nat × List Int)) : Prop :=
  rows.length = len ∧ len ≤ cap ∧ cap ≤ maxLen ∧ (∀ y ∈ rows, ArgInts k w y.1 y.2.1 y.2.2.1 y.2.2.2) ∧
  (len = 0 ∨ ∃ b off, a = some ⟨b, off, none⟩ ∧ b < w.heap.size ∧ ∀ i y, rows[i]? = some y → w.cell? ⟨b, off + i, none⟩ = some (.slice y.1 y.2.1 y.2.2.1))
/-- likewise of a slice of bools -/
def ArgBools (w : World) (a : Option Addr) (len cap : Nat) (bs : List Bool) : Prop :=
  bs.length = len ∧ len ≤ cap ∧ cap ≤ maxLen ∧ (len = 0 ∨ ∃ b off, a = some ⟨b, off, none⟩ ∧ b < w.heap.size ∧ ∀ i y, bs[i]? = some y → w.cell? ⟨b, off + i, none⟩ = some (.bool y))

theorem cells_at {w : World} {a : Addr} {n : Nat} {V : Nat → Value} (h : ∀ i, i < n → w.cell? (a.add i) = some (V i)) (hp : 0 < n) :
    ∃ b off, a = ⟨b, off, none⟩ ∧ b < w.heap.size ∧ ∀ j, j < n → w.cell? ⟨b, off + j, none⟩ = some (V j) := by
  obtain ⟨b, off, spot⟩ := a
  have hspot : spot = none := by simpa [Addr.add] using World.cell?_spot (h 0 hp)
  subst hspot
  have hc : ∀ j, j < n → w.cell? ⟨b, off + j, none⟩ = some (V j) := fun j hj => by rw [← Go.WideShapes.add_plain]; exact h j hj
  refine ⟨b, off, rfl, ?_, hc⟩
  have h0 := hc 0 hp
  rcases Nat.lt_or_ge b w.heap.size with hl | hl
  · exact hl
  · rw [World.cell?] at h0
    simp [Array.getElem?_eq_none hl] at h0

theorem ArgInts.below {k : IntKind} {w w' : World} {a : Option Addr} {len cap : Nat} {zs : List Int} (h : ArgInts k w a len cap zs) (hb : Below w.heap.size w w') : ArgInts k w' a len cap zs := by
  obtain ⟨h1, h2, h3, h4, h5⟩ := h
  refine ⟨h1, h2, h3, h4, h5.imp id ?_⟩
  rintro ⟨b, off, h6, h7, h8⟩
  exact ⟨b, off, h6, Nat.lt_of_lt_of_le h7 hb.size, fun i hi => (hb.cell (p := ⟨b, off + i, none⟩) h7).trans (h8 i hi)⟩
theorem ArgRows.below {k : IntKind} {w w' : World} {a : Option Addr} {len cap : Nat} {rows : List (Option Addr × Nat × Nat × List Int)} (h : ArgRows k w a len cap rows) (hb : Below w.heap.size w w') : ArgRows k w' a len cap rows := by
  obtain ⟨h1, h2, h3, h4, h5⟩ := h
  refine ⟨h1, h2, h3, fun y hy => (h4 y hy).below hb, h5.imp id ?_⟩
  rintro ⟨b, off, h6, h7, h8⟩
  exact ⟨b, off, h6, Nat.lt_of_lt_of_le h7 hb.size, fun i y hi => (hb.cell (p := ⟨b, off + i, none⟩) h7).trans (h8 i y hi)⟩
theorem ArgBools.below {w w' : World} {a : Option Addr} {len cap : Nat} {bs : List Bool} (h : ArgBools w a len cap bs) (hb : Below w.heap.size w w') : ArgBools w' a len cap bs := by
  obtain ⟨h1, h2, h3, h5⟩ := h
  refine ⟨h1, h2, h3, h5.imp id ?_⟩
  rintro ⟨b, off, h6, h7, h8⟩
  exact ⟨b, off, h6, Nat.lt_of_lt_of_le h7 hb.size, fun i y hi => (hb.cell (p := ⟨b, off + i, none⟩) h7).trans (h8 i y hi)⟩
/-- row i of a slice of slices -/
theorem ArgRows.get {k : IntKind} {w : World} {a : Option Addr} {len cap : Nat} {rows : List (Option Addr × Nat × Nat × List Int)} (h : ArgRows k w a len cap rows) (i : Nat) (hi : i < len) :
    ∃ b off y, a = some ⟨b, off, none⟩ ∧ b < w.heap.size ∧ rows[i]? = some y ∧ y ∈ rows ∧ w.cell? ⟨b, off + i, none⟩ = some (.slice y.1 y.2.1 y.2.2.1) ∧ ArgInts k w y.1 y.2.1 y.2.2.1 y.2.2.2 := by
  obtain ⟨h1, h2, h3, h4, h5⟩ := h
  obtain ⟨b, off, h6, h7, h8⟩ := h5.resolve_left (by omega)
  have hg : rows[i]? = some rows[i] := List.getElem?_eq_getElem (by omega)
  exact ⟨b, off, rows[i], h6, h7, hg, List.getElem_mem _, h8 i _ hg, h4 _ (List.getElem_mem _)⟩

section
variable {H : Type} {enc : TypeId × Value → H} {P : Program} {w : World} {base : Nat} {held : Bool}

theorem open_rows {t e q : TypeId} {k : IntKind} {a : Option Addr} {len cap : Nat} {d : DataW H} {p : List MemPlace}
    (ht : P.underlying t = some (.slice e)) (he : P.underlying e = some (.slice q)) (hq : P.underlying q = some (.int k)) (hs : (P.cellsOf e, P.cellsOf q) = (1, 1))
    (h : DataW.Trod enc P w base (fun _ => true) held t (.slice a len cap) d p) : ∃ rows, ArgRows k w a len cap rows := by
  simp only [Prod.mk.injEq] at hs
  obtain ⟨fuel, hf⟩ := h
  rcases open_int_rows ht he hq hs.1 hs.2 hf with ⟨hcs, _⟩ | ⟨x, len', cap', A, L, C, Z, hcs, _, hl, hm, _, hr⟩
  · simp [Value.cells] at hcs
    obtain ⟨rfl, rfl, rfl⟩ := hcs
    exact ⟨[], rfl, Nat.le_refl _, hm0, fun _ h => by simp at h, .inl rfl⟩
  · simp [Value.cells] at hcs
    obtain ⟨rfl, rfl, rfl⟩ := hcs
    refine ⟨(List.range len).map fun r => (A r, L r, C r, (Z r).take (L r)), by simp, hl, hm, fun y hy => ?_, ?_⟩
    · obtain ⟨r, hr', rfl⟩ := List.mem_map.1 hy
      have hlt : r < len := by simpa using hr'
      obtain ⟨_, h1, h2, h3, h4, h5, h6⟩ := hr r (by omega)
      simp only
      cases hA : A r with
      | none =>
        have hc := h5 hA
        have hl0 : L r = 0 := by omega
        rw [hc, hl0]
        exact ArgInts.nil
      | some a' => exact ArgInts.mk' h1 h2 h3 (fun i hi => (h6 a' hA).2 i (by omega)) h4
    · rcases Nat.eq_zero_or_pos len with h0 | h0
      · exact .inl h0
      · obtain ⟨b, off, rfl, hb, hc⟩ := cells_at (V := fun r => .slice (A r) (L r) (C r)) (n := len) (fun i hi => (hr i (by omega)).1) h0
        refine .inr ⟨b, off, rfl, hb, fun i y hy => ?_⟩
        rw [List.getElem?_map] at hy
        have hi : i < len := by
          rcases Nat.lt_or_ge i len with h | h
          · exact h
          · rw [List.getElem?_eq_none (by simpa using h)] at hy; cases hy
        rw [List.getElem?_range hi] at hy
        obtain rfl := Option.some.inj hy
        exact hc i hi
where hm0 : (0 : Nat) ≤ maxLen := Nat.zero_le _

theorem weightsAll_mem {e : TypeId} {x : DataW H} {n : Nat} (hn : n ∈ x.weights P e) : ∀ l : List (DataW H), x ∈ l → n ∈ DataW.weightsAll P e l
  | y :: r, h => by
    simp only [DataW.weightsAll, List.mem_append]
    rcases List.mem_cons.1 h with rfl | h
    · exact .inl hn
    · exact .inr (weightsAll_mem hn r h)

/-- the same, and what the reach says of each row -/
theorem open_rows_sized {t e q : TypeId} {k : IntKind} {a : Option Addr} {len cap : Nat} {d : DataW H} {p : List MemPlace}
    (ht : P.underlying t = some (.slice e)) (he : P.underlying e = some (.slice q)) (hq : P.underlying q = some (.int k)) (hs : (P.cellsOf e, P.cellsOf q) = (1, 1)) (hb : 0 < P.bytesOf q)
    (h : DataW.Trod enc P w base (fun _ => true) held t (.slice a len cap) d p) (hw : ∀ n ∈ d.weights P t, n ≤ reachBytes) : ∃ rows, ArgRows k w a len cap rows ∧ ∀ y ∈ rows, y.2.1 ≤ 140737488355328 := by
  obtain ⟨rows, hr⟩ := open_rows (k := k) ht he hq hs h
  refine ⟨rows, hr, fun y hy => ?_⟩
  obtain ⟨r1, r2, r3, r4, r5⟩ := hr
  simp only [Prod.mk.injEq] at hs
  obtain ⟨fuel, hf⟩ := h
  rcases open_int_rows ht he hq hs.1 hs.2 hf with ⟨hcs, _⟩ | ⟨x, len', cap', A, L, C, Z, hcs, _, hl, hm, hd, hrr⟩
  · simp [Value.cells] at hcs
    obtain ⟨rfl, rfl, rfl⟩ := hcs
    obtain rfl := List.length_eq_zero_iff.1 r1
    simp at hy
  · simp [Value.cells] at hcs
    obtain ⟨rfl, rfl, rfl⟩ := hcs
    simp only [Prod.mk.injEq] at hd
    obtain ⟨rfl, _⟩ := hd
    obtain ⟨i, hi⟩ := List.getElem?_of_mem hy
    have hil : i < len := by
      rcases Nat.lt_or_ge i len with h | h
      · exact h
      · rw [List.getElem?_eq_none (by omega)] at hi; cases hi
    obtain ⟨b, off, hx, _, hc⟩ := r5.resolve_left (by omega)
    obtain ⟨c1, c2, c3, c4, _⟩ := hrr i (by omega)
    have hv := hc i y hi
    cases hx
    rw [← Go.WideShapes.add_plain, c1] at hv
    simp only [Option.some.injEq, Value.slice.injEq] at hv
    rw [← hv.2.1]
    have hreach := reachBytes_lt
    cases hA : A i with
    | none =>
      have := (hrr i (by omega)).2.2.2.2.2.1 hA
      omega
    | some a' =>
      have := hw ((Z i).length * P.bytesOf q) (by
        simp only [DataW.weights, ht, List.mem_cons, List.mem_append]
        refine .inr (.inl (weightsAll_mem (x := intRow k (A i) (L i) (Z i)) ?_ _ (List.mem_map.2 ⟨i, by simpa using hil, rfl⟩)))
        simp [intRow, hA, DataW.weights, he, lits]
        left
        congr 1
        omega)
      have h2 : (Z i).length * 1 ≤ (Z i).length * P.bytesOf q := Nat.mul_le_mul_left _ hb
      omega

theorem open_boolList {t e : TypeId} {a : Option Addr} {len cap : Nat} {d : DataW H} {p : List MemPlace}
    (ht : P.underlying t = some (.slice e)) (he : P.underlying e = some .bool) (hs : P.cellsOf e = 1)
    (h : DataW.Trod enc P w base (fun _ => true) held t (.slice a len cap) d p) : ∃ bs, ArgBools w a len cap bs := by
  obtain ⟨fuel, hf⟩ := h
  rcases open_bools ht he hs hf with ⟨hcs, _⟩ | ⟨x, len', cap', B, hcs, _, hl, hm, _, hr⟩
  · simp [Value.cells] at hcs
    obtain ⟨rfl, rfl, rfl⟩ := hcs
    exact ⟨[], rfl, Nat.le_refl _, Nat.zero_le _, .inl rfl⟩
  · simp [Value.cells] at hcs
    obtain ⟨rfl, rfl, rfl⟩ := hcs
    refine ⟨(List.range len).map B, by simp, hl, hm, ?_⟩
    rcases Nat.eq_zero_or_pos len with h0 | h0
    · exact .inl h0
    · obtain ⟨b, off, rfl, hb, hc⟩ := cells_at (V := fun r => .bool (B r)) (n := len) (fun i hi => hr i (by omega)) h0
      refine .inr ⟨b, off, rfl, hb, fun i y hy => ?_⟩
      rw [List.getElem?_map] at hy
      have hi : i < len := by
        rcases Nat.lt_or_ge i len with h | h
        · exact h
        · rw [List.getElem?_eq_none (by simpa using h)] at hy; cases hy
      rw [List.getElem?_range hi] at hy
      obtain rfl := Option.some.inj hy
      exact hc i hi
end
end Go.Proofs.YtinmkgpmoclcoaaDoor
/-
  A slice of nodes (an integer, a string, an integer, a string, a slice of bytes, an integer) that came in, opened; what the reach says of the strings and of the bytes. Nothing of the program.
-/
namespace Go.Proofs.YtinmkgpmoclcoaaDoor.Tre
open Go.RowKit Go.ChangeShapes Go.Deep

/-- a node in memory: the node; its data's address and capacity -/
structure NdS where
  n : Nd
  a : Option Addr
  cap : Nat
/-- its cells -/
abbrev ndL (k : Int) (p : ByteArray) (m : Int) (t : ByteArray) (a : Option Addr) (n cap : Nat) (c : Int) : List Value := [.int .i64 k, .string p, .int .i64 m, .string t, .slice a n cap, .int .i64 c]
abbrev ndV (y : NdS) : List Value := ndL y.n.k y.n.p y.n.m y.n.t y.a y.n.d.length y.cap y.n.c
instance : Inhabited NdS := ⟨⟨⟨0, ⟨#[]⟩, 0, ⟨#[]⟩, [], 0⟩, none, 0⟩⟩
/-- the cells of nodes -/
def ndCells (ys : List NdS) : List Value := ys.flatMap ndV
theorem ndCells_cons (y : NdS) (ys : List NdS) : ndCells (y :: ys) = ndV y ++ ndCells ys := by unfold ndCells; rw [List.flatMap_cons]
theorem ndCells_append (xs ys : List NdS) : ndCells (xs ++ ys) = ndCells xs ++ ndCells ys := by unfold ndCells; rw [List.flatMap_append]
theorem ndCells_len : ∀ ys : List NdS, (ndCells ys).length = ys.length * 6
  | [] => rfl
  | y :: ys => by
    rw [ndCells_cons, List.length_append, ndCells_len ys, List.length_cons]
    simp; omega
theorem ndCells_at : ∀ (ys : List NdS) (i : Nat) (y : NdS), ys[i]? = some y → ∀ j v, (ndV y)[j]? = some v → (ndCells ys)[i * 6 + j]? = some v
  | [], i, y, h, _, _, _ => by simp at h
  | q :: ys, i, y, h, j, v, hv => by
    rw [ndCells_cons]
    have hj : j < 6 := by
      have := (List.getElem?_eq_some_iff.mp hv).1
      simpa using this
    cases i with
    | zero =>
      simp at h; subst h
      rw [Nat.zero_mul, Nat.zero_add, List.getElem?_append_left (by simpa using hj)]
      exact hv
    | succ i =>
      rw [List.getElem?_append_right (by simp; omega)]
      have := ndCells_at ys i y (by simpa using h) j v hv
      rw [← this]
      congr 1
      simp; omega

/-- nodes lie at block b from off on -/
def NdsAt (w : World) (b off : Nat) (ys : List NdS) : Prop := ∀ i y, ys[i]? = some y → ∀ j v, (ndV y)[j]? = some v → w.cell? ⟨b, off + i * 6 + j, none⟩ = some v
theorem NdsAt.c {w : World} {b off : Nat} {ys : List NdS} (h : NdsAt w b off ys) {i : Nat} {y : NdS} (hi : ys[i]? = some y) :
    w.cell? ⟨b, off + i * 6, none⟩ = some (.int .i64 y.n.k) ∧ w.cell? ⟨b, off + i * 6 + 1, none⟩ = some (.string y.n.p) ∧ w.cell? ⟨b, off + i * 6 + 2, none⟩ = some (.int .i64 y.n.m) ∧ w.cell? ⟨b, off + i * 6 + 3, none⟩ = some (.string y.n.t) ∧ w.cell? ⟨b, off + i * 6 + 4, none⟩ = some (.slice y.a y.n.d.length y.cap) ∧ w.cell? ⟨b, off + i * 6 + 5, none⟩ = some (.int .i64 y.n.c) :=
  ⟨h i y hi 0 _ rfl, h i y hi 1 _ rfl, h i y hi 2 _ rfl, h i y hi 3 _ rfl, h i y hi 4 _ rfl, h i y hi 5 _ rfl⟩
theorem NdsAt.block {w w' : World} {b off : Nat} {ys : List NdS} (h : NdsAt w b off ys) (e : w'.heap[b]? = w.heap[b]?) : NdsAt w' b off ys := fun i y hi j v hv => by
  have := h i y hi j v hv
  unfold World.cell? at this ⊢
  rw [e]; exact this
theorem NdsAt.below {w w' : World} {b off B : Nat} {ys : List NdS} (h : NdsAt w b off ys) (hb : Below B w w') (hB : b < B) : NdsAt w' b off ys := h.block (hb.block b hB)
/-- nodes in a slice -/
def NdsIn (w : World) (a : Option Addr) (ys : List NdS) : Prop := ys = [] ∨ ∃ b off, a = some ⟨b, off, none⟩ ∧ b < w.heap.size ∧ NdsAt w b off ys
theorem NdsIn.below {w w' : World} {a : Option Addr} {ys : List NdS} (h : NdsIn w a ys) (hb : Below w.heap.size w w') : NdsIn w' a ys := by
  rcases h with h | ⟨b, off, h1, h2, h3⟩
  · exact .inl h
  · exact .inr ⟨b, off, h1, Nat.lt_of_lt_of_le h2 hb.size, h3.below hb h2⟩

/-- what a walk is told of one node -/
structure NdF (w : World) (y : NdS) : Prop where
  k : (Lit.int .i64 y.n.k).wf = true
  p : y.n.p.size ≤ 140737488355328
  m : (Lit.int .i64 y.n.m).wf = true
  t : y.n.t.size ≤ 140737488355328
  d : ArgInts .u8 w y.a y.n.d.length y.cap y.n.d
  l : y.n.d.length ≤ 140737488355328
  c : (Lit.int .i64 y.n.c).wf = true
theorem NdF.below {w w' : World} {y : NdS} (h : NdF w y) (hb : Below w.heap.size w w') : NdF w' y := ⟨h.k, h.p, h.m, h.t, h.d.below hb, h.l, h.c⟩
/-- WHAT A WALK IS TOLD OF A SLICE OF NODES THAT CAME IN -/
structure ArgNds (w : World) (a : Option Addr) (len cap : Nat) (ys : List NdS) : Prop where
  n : ys.length = len
  c : len ≤ cap
  m : cap ≤ maxLen
  r : NdsIn w a ys
  s : ∀ y ∈ ys, NdF w y
theorem ArgNds.below {w w' : World} {a : Option Addr} {len cap : Nat} {ys : List NdS} (h : ArgNds w a len cap ys) (hb : Below w.heap.size w w') : ArgNds w' a len cap ys := ⟨h.n, h.c, h.m, h.r.below hb, fun y hy => (h.s y hy).below hb⟩
theorem ArgNds.get {w : World} {a : Option Addr} {len cap : Nat} {ys : List NdS} (h : ArgNds w a len cap ys) (i : Nat) (hi : i < len) :
    ∃ b off y, a = some ⟨b, off, none⟩ ∧ b < w.heap.size ∧ ys[i]? = some y ∧ NdF w y ∧ NdsAt w b off ys := by
  have hlt : i < ys.length := by rw [h.n]; exact hi
  have hg : ys[i]? = some ys[i] := List.getElem?_eq_getElem hlt
  rcases h.r with h0 | ⟨b, off, h1, h2, h3⟩
  · simp [h0] at hlt
  · exact ⟨b, off, _, h1, h2, hg, h.s _ (List.getElem_mem _), h3⟩
/-- the nodes alone -/
def nds (ys : List NdS) : List Nd := ys.map NdS.n
theorem nds_len (ys : List NdS) : (nds ys).length = ys.length := by unfold nds; rw [List.length_map]
theorem nds_at {ys : List NdS} {i : Nat} {y : NdS} (h : ys[i]? = some y) : (nds ys)[i]? = some y.n := by unfold nds; rw [List.getElem?_map, h]; rfl

section
variable {H : Type} {enc : TypeId × Value → H} {P : Program} {w : World} {base : Nat} {held : Bool}

theorem open_nds {t e q : TypeId} {f0 f1 f2 f3 f4 f5 : Field} {a : Option Addr} {len cap : Nat} {d : DataW H} {p : List MemPlace}
    (ht : P.underlying t = some (.slice e)) (he : P.underlying e = some (.struct #[f0, f1, f2, f3, f4, f5])) (h0 : P.underlying f0.type = some (.int .i64)) (h1 : P.underlying f1.type = some .string) (h2 : P.underlying f2.type = some (.int .i64)) (h3 : P.underlying f3.type = some .string) (h4 : P.underlying f4.type = some (.slice q)) (hq : P.underlying q = some (.int .u8)) (h5 : P.underlying f5.type = some (.int .i64))
    (hs : (P.cellsOf e, f0.offset, P.cellsOf f0.type, f1.offset, P.cellsOf f1.type, f2.offset, P.cellsOf f2.type, f3.offset, P.cellsOf f3.type, f4.offset, P.cellsOf f4.type, f5.offset, P.cellsOf f5.type) = (6, 0, 1, 1, 1, 2, 1, 3, 1, 4, 1, 5, 1)) (hsq : P.cellsOf q = 1) (hbq : P.bytesOf q = 1)
    (h : DataW.Trod enc P w base (fun _ => true) held t (.slice a len cap) d p) (hw : ∀ n ∈ d.weights P t, n ≤ reachBytes) : ∃ ys, ArgNds w a len cap ys := by
  simp only [Prod.mk.injEq] at hs
  obtain ⟨s, o0, z0, o1, z1, o2, z2, o3, z3, o4, z4, o5, z5⟩ := hs
  obtain ⟨fuel, hf⟩ := h
  rcases open_slice ht hf with ⟨hcs, _⟩ | ⟨x, len', cap', m, n, D, Pl, hcs, _, hl, hm, hmm, hd, hx⟩
  · simp [Value.cells] at hcs
    obtain ⟨rfl, rfl, rfl⟩ := hcs
    exact ⟨[], rfl, Nat.le_refl _, Nat.zero_le _, .inl rfl, fun _ h => by cases h⟩
  · simp [Value.cells] at hcs
    obtain ⟨rfl, rfl, rfl⟩ := hcs
    simp only [if_true] at hmm
    simp only [Prod.mk.injEq] at hd
    obtain ⟨rfl, _⟩ := hd
    have hreach := reachBytes_lt
    have each : ∀ i, i < m → ∃ y : NdS, (∀ j v, (ndV y)[j]? = some v → w.cell? (x.add (i * 6 + j)) = some v) ∧ (i < len → NdF w y) := by
      intro i hi
      obtain ⟨cs', g1, g2⟩ := hx i hi
      rw [s] at g1
      obtain ⟨_, hlen, hcell⟩ := World.cells?_some g1
      obtain ⟨xs, k, _, hxe, _, hxl, hfd⟩ := DataW.trod_struct he g2
      match cs', hlen with
      | [v0, v1, v2, v3, v4, v5], _ =>
      match xs, hxl with
      | [y0, y1, y2, y3, y4, y5], _ =>
      have u0 := hfd 0 f0 rfl
      have u1 := hfd 1 f1 rfl
      have u2 := hfd 2 f2 rfl
      have u3 := hfd 3 f3 rfl
      have u4 := hfd 4 f4 rfl
      have u5 := hfd 5 f5 rfl
      rw [o0, z0] at u0; rw [o1, z1] at u1; rw [o2, z2] at u2; rw [o3, z3] at u3; rw [o4, z4] at u4; rw [o5, z5] at u5
      simp at u0 u1 u2 u3 u4 u5
      obtain ⟨k0, e0, x0, w0⟩ := DataW.trod_int h0 u0
      obtain ⟨k1, e1, x1, _⟩ := DataW.trod_string h1 u1
      obtain ⟨k2, e2, x2, w2⟩ := DataW.trod_int h2 u2
      obtain ⟨k3, e3, x3, _⟩ := DataW.trod_string h3 u3
      obtain ⟨k5, e5, x5, w5⟩ := DataW.trod_int h5 u5
      simp only [List.cons.injEq, and_true] at e0 e1 e2 e3 e5
      subst e0; subst e1; subst e2; subst e3; subst e5
      have c : ∀ j (h : j < 6), w.cell? (x.add (i * 6 + j)) = [Value.int .i64 k0, .string k1, .int .i64 k2, .string k3, v4, .int .i64 k5][j]? := fun j hj => by
        rw [← add_add]
        exact hcell j hj
      simp only [Prod.mk.injEq] at hxe
      have hmem : i < len → ∀ z, z ∈ (D i).weights P e → z ≤ reachBytes := fun hil z hz => hw z (by
        simp only [DataW.weights, ht, List.mem_cons, List.mem_append]
        exact .inr (.inl (weightsAll_mem (x := D i) hz _ (List.mem_map.2 ⟨i, by simpa using hil, rfl⟩))))
      have hD : D i = .agg [.lit (.int .i64 k0), .lit (.string k1.data.toList), .lit (.int .i64 k2), .lit (.string k3.data.toList), y4.1, .lit (.int .i64 k5)] := by
        rw [hxe.1, x0, x1, x2, x3, x5]; rfl
      rcases open_ints h4 hq hsq u4 with ⟨e4, x4⟩ | ⟨a4, l4, c4, zs, e4, _, hl4, hm4, hz4, x4, hcl, hwz⟩
      · simp only [List.cons.injEq, and_true] at e4
        subst e4
        refine ⟨⟨⟨k0, k1, k2, k3, [], k5⟩, none, 0⟩, fun j v hv => ?_, fun hil => ?_⟩
        · rw [c j (by simpa using (List.getElem?_eq_some_iff.mp hv).1)]; exact hv
        · have b1 := hmem hil k1.data.toList.length (by rw [hD]; simp [DataW.weights, DataW.weightsEach, he])
          have b3 := hmem hil k3.data.toList.length (by rw [hD]; simp [DataW.weights, DataW.weightsEach, he])
          rw [← Lib.size_eq] at b1 b3
          exact ⟨w0, by show k1.size ≤ _; omega, w2, by show k3.size ≤ _; omega, ArgInts.nil, Nat.zero_le _, w5⟩
      · simp only [List.cons.injEq, and_true] at e4
        subst e4
        have hzl : zs.length = c4 := by simpa using hz4
        have htl : (zs.take l4).length = l4 := by rw [List.length_take]; omega
        refine ⟨⟨⟨k0, k1, k2, k3, zs.take l4, k5⟩, some a4, c4⟩, fun j v hv => ?_, fun hil => ?_⟩
        · rw [c j (by simpa using (List.getElem?_eq_some_iff.mp hv).1), ← hv]
          show _ = (ndL k0 k1 k2 k3 (some a4) (zs.take l4).length c4 k5)[j]?
          rw [htl]
        · have b1 := hmem hil k1.data.toList.length (by rw [hD]; simp [DataW.weights, DataW.weightsEach, he])
          have b3 := hmem hil k3.data.toList.length (by rw [hD]; simp [DataW.weights, DataW.weightsEach, he])
          have b4 := hmem hil (((lits (H := H) .u8 (zs.take l4)).length + (lits (H := H) .u8 (zs.drop l4)).length) * P.bytesOf q) (by rw [hD, x4]; simp [DataW.weights, DataW.weightsEach, he, h4])
          rw [← Lib.size_eq] at b1 b3
          rw [hbq] at b4
          unfold lits at b4
          rw [List.length_map, List.length_map] at b4
          exact ⟨w0, by show k1.size ≤ _; omega, w2, by show k3.size ≤ _; omega, by show ArgInts _ _ _ (zs.take l4).length _ _; rw [htl]; exact ArgInts.mk' hl4 hm4 hzl hcl hwz, by show (zs.take l4).length ≤ _; omega, w5⟩
    obtain ⟨A, hA⟩ := choose_lt each
    refine ⟨(List.range len).map A, by simp, hl, hm, ?_, fun y hy => ?_⟩
    · rcases Nat.eq_zero_or_pos len with h0' | h0'
      · subst h0'; exact .inl rfl
      · have hc0 := (hA 0 (by omega)).1 0 _ rfl
        obtain ⟨b, off, spot⟩ := x
        have hspot : spot = none := by simpa [Addr.add] using World.cell?_spot hc0
        subst hspot
        refine .inr ⟨b, off, rfl, ?_, fun i y hy j v hv => ?_⟩
        · exact World.block_lt_of_cell? w (⟨b, off, none⟩ : Addr) (by simpa [Go.WideShapes.add_plain] using hc0)
        · rw [List.getElem?_map] at hy
          have hi : i < len := by
            rcases Nat.lt_or_ge i len with h | h
            · exact h
            · rw [List.getElem?_eq_none (by simpa using h)] at hy; cases hy
          rw [List.getElem?_range hi] at hy
          obtain rfl := Option.some.inj hy
          have := (hA i (by omega)).1 j v hv
          rw [Go.WideShapes.add_plain] at this
          rw [Nat.add_assoc]; exact this
    · obtain ⟨r, hr', rfl⟩ := List.mem_map.1 hy
      have hlt : r < len := by simpa using hr'
      exact (hA r (by omega)).2 hlt
end
end Go.Proofs.YtinmkgpmoclcoaaDoor.Tre
