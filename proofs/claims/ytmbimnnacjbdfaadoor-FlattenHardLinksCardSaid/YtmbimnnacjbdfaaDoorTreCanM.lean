/-
  Layer 13: a row of nodes of the call's own, stored into; what stays; the numbers of classes as a map.
-/
import Derived.Test.YtmbimnnacjbdfaaDoorTreCln
import Derived.Test.YtmbimnnacjbdfaaDoorBClone
namespace Go.Proofs.YtmbimnnacjbdfaaDoor.Tre
open Go.RowKit Go.MapKept Go.Proofs.YtmbimnnacjbdfaaDoor.Fit

theorem NdsAt.setAt {w : World} {g off : Nat} {us : List NdS} (h : NdsAt w g off us) {i : Nat} {y : NdS} (hi : us[i]? = some y) (z : NdS) (k : Nat) (v : Value) (hv : (ndV z)[k]? = some v)
    (hk : ∀ j u, j ≠ k → (ndV z)[j]? = some u → (ndV y)[j]? = some u) : NdsAt (w.setCell ⟨g, off + i * 6 + k, none⟩ v) g off (us.set i z) := fun i' y' hi' j u hu => by
  have hk6 : k < 6 := by have := (List.getElem?_eq_some_iff.mp hv).1; simpa using this
  have hj6 : j < 6 := by have := (List.getElem?_eq_some_iff.mp hu).1; simpa using this
  have hil : i < us.length := (List.getElem?_eq_some_iff.mp hi).1
  by_cases e : i' = i
  · subst e
    rw [List.getElem?_set_self hil] at hi'
    obtain rfl := Option.some.inj hi'
    by_cases ej : j = k
    · subst ej
      obtain rfl : v = u := Option.some.inj (hv.symm.trans hu)
      have hy : j < (ndV y).length := by simpa using hj6
      exact World.cell?_setCell_same (h := h i' y hi j _ (List.getElem?_eq_getElem hy)) ..
    · rw [World.cell?_setCell_other (h := by intro h; injection h with _ h; omega) ..]
      exact h i' y hi j u (hk j u ej hu)
  · rw [List.getElem?_set_ne (fun h => e h.symm)] at hi'
    rw [World.cell?_setCell_other (h := by intro h; injection h with _ h; omega) ..]
    exact h i' y' hi' j u hu
theorem keepD (n : Nd) (a a' : Option Addr) (c c' : Nat) : ∀ j u, j ≠ 4 → (ndV ⟨n, a', c'⟩)[j]? = some u → (ndV ⟨n, a, c⟩)[j]? = some u := by
  intro j u hj hu
  rcases j with _ | _ | _ | _ | _ | _ | j
  · exact hu
  · exact hu
  · exact hu
  · exact hu
  · exact absurd rfl hj
  · exact hu
  · simp at hu
theorem keepC (n : Nd) (a : Option Addr) (c : Nat) (x : Int) : ∀ j u, j ≠ 5 → (ndV ⟨{ n with c := x }, a, c⟩)[j]? = some u → (ndV ⟨n, a, c⟩)[j]? = some u := by
  intro j u hj hu
  rcases j with _ | _ | _ | _ | _ | _ | j
  · exact hu
  · exact hu
  · exact hu
  · exact hu
  · exact hu
  · exact absurd rfl hj
  · simp at hu
theorem frz_block {w w' : World} {g : Nat} (h : ∀ k, w.frozen? ⟨g, k, none⟩ = false) (e : w'.heap[g]? = w.heap[g]?) : ∀ k, w'.frozen? ⟨g, k, none⟩ = false := fun k => by
  have := h k
  unfold World.frozen? at this ⊢
  rw [e]; exact this

section
variable {P : Program} {w : World} {ops : Array Oper} {rest : List Oper} {o : Oper} {a : Act} {Q : Exit → Act → World → Prop}
theorem wpList_store_nd (hgd : o.guard = none) (T : TypeId) (x y : Operand) (ho : o.op = .store T x y) (g q : Nat) (hx : a.eval x = .pointer (some ⟨g, q, none⟩))
    (v : Value) (hy : a.eval y = v) (h1 : v.oneCell' = true) (hs : (P.info? T).map (·.size) = some 1) (us : List NdS) (i k : Nat) (z z' : NdS) (hq : q = i * 6 + k) (hi : us[i]? = some z) (hat : NdsAt w g 0 us) (hf : ∀ j, w.frozen? ⟨g, j, none⟩ = false)
    (hv : (ndV z')[k]? = some v) (hk : ∀ j u, j ≠ k → (ndV z')[j]? = some u → (ndV z)[j]? = some u)
    (K : ∀ w', NdsAt w' g 0 (us.set i z') → (∀ j, w'.frozen? ⟨g, j, none⟩ = false) → TurnB w w' g → wpList P ops Q rest (a.put o.dst undef) w') : wpList P ops Q (o :: rest) a w := by
  subst hq
  have hk6 : k < (ndV z).length := by have := (List.getElem?_eq_some_iff.mp hv).1; simpa using this
  have hc : w.cell? ⟨g, i * 6 + k, none⟩ = some (ndV z)[k] := by
    have := hat i z hi k _ (List.getElem?_eq_getElem hk6)
    rw [Nat.zero_add] at this
    exact this
  have hset : NdsAt (w.setCell ⟨g, i * 6 + k, none⟩ v) g 0 (us.set i z') := by
    have := hat.setAt hi z' k v hv hk
    rw [Nat.zero_add] at this
    exact this
  refine wpList_plain hgd fun K' hK => ?_
  have hv1 : v.cells = #[v] := by cases v <;> first | rfl | (simp [Value.oneCell'] at h1)
  cases hq : P.info? T with
  | none => simp [hq] at hs
  | some j =>
    have hj : j.size = 1 := by simpa [hq] using hs
    have ha : (⟨g, i * 6 + k, none⟩ : Addr).add 0 = ⟨g, i * 6 + k, none⟩ := add_plain' g _ 0
    have hrun : (storeVar T ⟨g, i * 6 + k, none⟩ v).run P w = .ok () (w.setCell ⟨g, i * 6 + k, none⟩ v) := by
      simp [storeVar, sizeOf, typeInfo, hq, hj, hv1, storeCells, run_store P w _ v _ h1, ha, hc, hf (i * 6 + k)]
    unfold Oper.wp execOp
    simp only [ho, hx, hy, Instr.storeAt, Instr.sureAddr, Sem.run_bind, Sem.run_pure, Result.andThen_ok, hrun]
    exact hK _ _ (K _ hset (fun j => by rw [World.frozen?_setCell]; exact hf j) ⟨fun hB => (Below.refl _ _).setCell hB v, fun hk => Below.heap_setCell _ _ _ _ hk, by simp [World.setCell]⟩)
end

/-- a node whose data the call laid itself -/
def Frs (B : Nat) (w : World) (y : NdS) : Prop := w.ownsRow B 5 1 (.slice y.a y.n.d.length y.cap) y.n.d.length (y.n.d.map (.int .u8))
/-- what stays while row g and map m are turned -/
structure Kp (C B g m : Nat) (w w' : World) : Prop where
  fr : ∀ u, Frs B w u → Frs B w' u
  blk : ∀ k, k < B → k ≠ g → k ≠ m → w'.heap[k]? = w.heap[k]?
  bel : Below C w w'
  sz : w.heap.size ≤ w'.heap.size
theorem Kp.refl (C B g m : Nat) (w : World) : Kp C B g m w w := ⟨fun _ h => h, fun _ _ _ _ => rfl, Below.refl _ _, Nat.le_refl _⟩
theorem Kp.trans {C B g m : Nat} {a b c : World} (h : Kp C B g m a b) (k : Kp C B g m b c) : Kp C B g m a c :=
  ⟨fun u hu => k.fr u (h.fr u hu), fun i h1 h2 h3 => (k.blk i h1 h2 h3).trans (h.blk i h1 h2 h3), h.bel.trans k.bel, Nat.le_trans h.sz k.sz⟩
theorem Kp.of_below {C B g m : Nat} {w w' : World} (h : Below w.heap.size w w') (hB : B ≤ w.heap.size) (hC : C ≤ w.heap.size) : Kp C B g m w w' :=
  ⟨fun _ hu => own_stay' hu h (Nat.le_refl _), fun k hk _ _ => h.block k (by omega), h.mono hC, h.size⟩
theorem Kp.of_row {C B g m : Nat} {w w' : World} (h : TurnB w w' g) (hB : g < B) (hC : C ≤ g) : Kp C B g m w w' :=
  ⟨fun _ hu => own_turnB hu h hB, fun _ _ h1 _ => h.other h1, h.below hC, Nat.le_of_eq h.size.symm⟩
theorem Kp.of_map {C B g m : Nat} {w w' : World} (h : TurnB w w' m) (hB : m < B) (hC : C ≤ m) : Kp C B g m w w' :=
  ⟨fun _ hu => own_turnB hu h hB, fun _ _ _ h2 => h.other h2, h.below hC, Nat.le_of_eq h.size.symm⟩

/-- the numbers given so far -/
def Nums (F : Value → Option Value) (S : List Int) (j : Nat) : Prop := ∀ c : Int, F (.int .i64 c) = if c ∈ clsU S j then some (.int .i64 (num S c)) else none
theorem Nums.stay {F : Value → Option Value} {S : List Int} {j : Nat} (h : Nums F S j) (hj : j < S.length) (hn : ¬ Many S S[j] ∨ S[j] ∈ clsU S j) : Nums F S (j + 1) ∧ clsU S (j + 1) = clsU S j := by
  have e : clsU S (j + 1) = clsU S j := by
    rw [clsU_step hj, if_neg]
    rintro ⟨h1, h2⟩
    exact hn.elim (fun h => h h1) h2
  exact ⟨fun c => by rw [e]; exact h c, e⟩
theorem Nums.more {F : Value → Option Value} {S : List Int} {j : Nat} (h : Nums F S j) (hj : j < S.length) (hm : Many S S[j]) (hn : S[j] ∉ clsU S j) :
    Nums (upd F (.int .i64 S[j]) (.int .i64 (((clsU S j).length : Int) + 1))) S (j + 1) ∧ (clsU S (j + 1)).length = (clsU S j).length + 1 := by
  have e : clsU S (j + 1) = clsU S j ++ [S[j]] := by rw [clsU_step hj, if_pos ⟨hm, hn⟩]
  refine ⟨fun c => ?_, by rw [e]; simp⟩
  rw [e]
  by_cases ec : c = S[j]
  · subst ec
    rw [upd_same, if_pos (by simp), num_new hj hm hn]
  · rw [upd_ne (fun h => ec (by injection h)), h c]
    by_cases h1 : c ∈ clsU S j
    · rw [if_pos h1, if_pos (by simp [h1])]
    · rw [if_neg h1, if_neg (by simp [h1, ec])]

/-- Canon's row before node j: those before are renumbered and their data are the call's own -/
structure CSt (B : Nat) (zs us : List NdS) (j : Nat) (w : World) : Prop where
  len : us.length = zs.length
  done : ∀ i z, i < j → zs[i]? = some z → ∃ u, us[i]? = some u ∧ u.n = ren (nds zs) z.n ∧ Frs B w u
  rest : ∀ i, j ≤ i → us[i]? = zs[i]?
theorem CSt.next {C B g m : Nat} {zs us : List NdS} {j : Nat} {w w' : World} (h : CSt B zs us j w) (k : Kp C B g m w w') {z u : NdS} (hz : zs[j]? = some z) (hu : u.n = ren (nds zs) z.n) (hf : Frs B w' u) (vs : List NdS) (hvl : vs.length = us.length) (hvj : vs[j]? = some u) (hvo : ∀ i, i ≠ j → vs[i]? = us[i]?) : CSt B zs vs (j + 1) w' := by
  refine ⟨hvl.trans h.len, fun i y hi hy => ?_, fun i hi => by rw [hvo i (by omega)]; exact h.rest i (by omega)⟩
  by_cases e : i = j
  · subst e
    obtain rfl : z = y := Option.some.inj (hz.symm.trans hy)
    exact ⟨u, hvj, hu, hf⟩
  · obtain ⟨v, h1, h2, h3⟩ := h.done i y (by omega) hy
    exact ⟨v, (hvo i e).trans h1, h2, k.fr v h3⟩
theorem CSt.end_ {B : Nat} {zs us : List NdS} {w : World} (h : CSt B zs us zs.length w) : nds us = (nds zs).map (ren (nds zs)) ∧ ∀ u ∈ us, Frs B w u ∧ ∃ z ∈ zs, u.n = ren (nds zs) z.n := by
  constructor
  · refine List.ext_getElem? fun i => ?_
    by_cases hi : i < zs.length
    · have hz : zs[i]? = some zs[i] := List.getElem?_eq_getElem hi
      obtain ⟨u, h1, h2, _⟩ := h.done i _ hi hz
      rw [nds_at h1, List.getElem?_map, nds_at hz, h2]; rfl
    · rw [List.getElem?_eq_none (by rw [nds_len, h.len]; omega), List.getElem?_eq_none (by rw [List.length_map, nds_len]; omega)]
  · intro u hu
    obtain ⟨i, hi, rfl⟩ := List.getElem_of_mem hu
    have hl : i < zs.length := by rw [← h.len]; exact hi
    obtain ⟨v, h1, h2, h3⟩ := h.done i _ hl (List.getElem?_eq_getElem hl)
    obtain rfl : us[i] = v := Option.some.inj ((List.getElem?_eq_getElem hi).symm.trans h1)
    exact ⟨h3, _, List.getElem_mem hl, h2⟩
/-- what the call laid itself, as it is told of -/
theorem NdF.fresh {B : Nat} {w w0 : World} {z u : NdS} {S : List Nd} (h : NdF w0 z) (e : u.n = ren S z.n) (hf : Frs B w u) (hn : num (cs S) z.n.c ≤ 1000000) : NdF w u := by
  obtain ⟨un, ua, uc⟩ := u
  obtain rfl : un = ren S z.n := e
  obtain ⟨b, cap, hv, hi, hc, hm, hl, hx⟩ := own_any hf
  injection hv with e1 _ e3
  obtain rfl : ua = b := e1
  obtain rfl : uc = cap := e3
  refine ⟨h.k, h.p, h.m, h.t, ⟨rfl, hc, hm, h.d.2.2.2.1, ?_⟩, h.l, ?_⟩
  · rcases Nat.eq_zero_or_pos z.n.d.length with h0 | h0
    · exact .inl h0
    · obtain ⟨b', off, rfl, hlt⟩ := hi.plain h0
      exact .inr ⟨b', off, rfl, hlt, fun i hi' => hi.get i hi'⟩
  · have := num_nonneg (cs S) z.n.c
    show (Lit.int .i64 (num (cs S) z.n.c)).wf = true
    have hn' := hn
    have e1 : IntKind.i64.min = -9223372036854775808 := by decide
    have e2 : IntKind.i64.max = 9223372036854775807 := by decide
    simp [Lit.wf]
    omega
theorem cls_len (l : List Int) : (cls l).length ≤ l.length := by
  unfold cls
  have h : ∀ (t s : List Int), (dd s t).length ≤ s.length + t.length := by
    intro t
    induction t with
    | nil => intro s; exact Nat.le_refl _
    | cons c t ih =>
      intro s
      unfold dd
      have := ih (if c ∈ s then s else s ++ [c])
      rw [List.length_cons]
      by_cases e : c ∈ s
      · rw [if_pos e] at this ⊢; omega
      · rw [if_neg e] at this ⊢; rw [List.length_append, List.length_singleton] at this; omega
  have h3 := h (l.filter fun c => decide (Many l c)) []
  have h4 : (l.filter fun c => decide (Many l c)).length ≤ l.length := List.length_filter_le _ _
  simp only [List.length_nil, Nat.zero_add] at h3
  omega
theorem clsU_len {l : List Int} {n : Nat} (hn : n ≤ l.length) : (clsU l n).length ≤ l.length := by
  obtain ⟨r, hr⟩ := clsU_pre (l := l) hn (Nat.le_refl _)
  have h := cls_len l
  rw [← clsU_end, hr, List.length_append] at h
  omega
theorem num_le (l : List Int) (c : Int) : num l c ≤ l.length := by
  unfold num
  split
  · rename_i h
    have h1 : (cls l).idxOf c < (cls l).length := List.idxOf_lt_length_iff.mpr (cls_mem.mpr h)
    have h2 := cls_len l
    omega
  · omega
end Go.Proofs.YtmbimnnacjbdfaaDoor.Tre
