/-
  Several rows of the call's own beside one another: an append onto one of them leaves the others; literals of one element. Nothing of the program.
-/
import Derived.Test.YtjokgiheabmolaaObj
import Derived.Maps.AppendAt
namespace Go.Proofs.Ytjokgiheabmolaa
open Go.RowKit

/-- two values that own no block together -/
def Apart (u v : Value) : Prop := ∀ k, u.ownBlock = some k → v.ownBlock ≠ some k
theorem Apart.symm {u v : Value} (h : Apart u v) : Apart v u := fun k hv hu => h k hu hv
theorem Apart.none_l (v : Value) (n c : Nat) : Apart (.slice none n c) v := fun k h => by cases h
theorem own_under {w : World} {base n size : Nat} {e : TypeId} {v : Value} {xs : List Value} (h : w.ownsRow base e size v n xs) : ∀ k, v.ownBlock = some k → base ≤ k ∧ k < w.heap.size := by
  intro k hk
  rcases h.2 with ⟨h', _⟩ | ⟨g', cap', cur, hv, hb', hh, _⟩
  · rw [h'] at hk; cases hk
  · rw [hv] at hk
    obtain rfl : g' = k := by simpa [Value.ownBlock] using hk
    exact ⟨hb', (Array.getElem?_eq_some_iff.1 hh).1⟩
theorem own_grown {w w' : World} {base n size : Nat} {e : TypeId} {v : Value} {xs : List Value} {r : Option Nat} (h : w.ownsRow base e size v n xs) (hg : w.grownBy w' r) (hd : ∀ k, v.ownBlock = some k → r ≠ some k) : w'.ownsRow base e size v n xs := by
  obtain ⟨h1, h2⟩ := h
  refine ⟨h1, h2.imp id ?_⟩
  rintro ⟨g, cap, cur, hv, hb, hh, r'⟩
  have hlt : g < w.heap.size := (Array.getElem?_eq_some_iff.1 hh).1
  have ho : v.ownBlock = some g := by rw [hv]; rfl
  exact ⟨g, cap, cur, hv, hb, (hg.block g hlt (fun e => hd g ho e.symm)).trans hh, r'⟩
theorem own_stay' {w w' : World} {base B n size : Nat} {e : TypeId} {v : Value} {xs : List Value} (h : w.ownsRow base e size v n xs) (hb : Below B w w') (hB : w.heap.size ≤ B) : w'.ownsRow base e size v n xs := by
  obtain ⟨h1, h2⟩ := h
  refine ⟨h1, ?_⟩
  rcases h2 with h2 | ⟨g', cap', cur, hv, hb', hh, r⟩
  · exact Or.inl h2
  · have hlt : g' < w.heap.size := (Array.getElem?_eq_some_iff.1 hh).1
    exact Or.inr ⟨g', cap', cur, hv, hb', by rw [hb.block g' (by omega)]; exact hh, r⟩
theorem Apart.next {w : World} {base n size : Nat} {e : TypeId} {u v v' : Value} {xs : List Value} (h : Apart u v) (hu : w.ownsRow base e size u n xs) (hv : v'.ownBlock = v.ownBlock ∨ v'.ownBlock = some w.heap.size) : Apart u v' := fun k hk hk' => by
  rcases hv with hv | hv
  · rw [hv] at hk'; exact h k hk hk'
  · rw [hv] at hk'
    have := (own_under hu k hk).2
    simp only [Option.some.injEq] at hk'
    omega
theorem own_slice {w : World} {base n size : Nat} {e : TypeId} {v : Value} {xs : List Value} (h : w.ownsRow base e size v n xs) : ∃ a c, v = .slice a n c ∧ n ≤ c ∧ c ≤ maxLen := by
  rcases h.2 with ⟨rfl, rfl⟩ | ⟨g, cap, cur, rfl, _, _, hc, hm, _⟩
  · exact ⟨none, 0, rfl, Nat.le_refl _, Nat.zero_le _⟩
  · exact ⟨_, cap, rfl, hc, hm⟩
theorem info_of {P : Program} {e : TypeId} {z : Value} {s b : Nat} (h : (P.info? e).map (fun i => (i.zero, i.size, i.bytes)) = some (some z, s, b)) :
    ∃ i0, Hid (P.info? e = some i0 ∧ i0.zero = some z ∧ i0.size = s ∧ i0.bytes = b) := by
  cases hq : P.info? e with
  | none => simp [hq] at h
  | some i => simp [hq] at h; exact ⟨i, rfl, h.1, h.2.1, h.2.2⟩

section
variable {P : Program} {w : World} {ops : Array Oper} {rest : List Oper} {o : Oper} {a : Act} {Q : Exit → Act → World → Prop}

theorem wpList_append_apart (hgd : o.guard = none) (s x : Operand) (t : TypeId) (ho : o.op = .call { callee := .builtin .append, args := #[s, x], argTypes := #[t, t] })
    (base : Nat) (e : TypeId) (i0 : TypeInfo) (z : Value) (size bytes : Nat) (hT : P.underlying t = some (.slice e)) (hI : Hid (P.info? e = some i0 ∧ i0.zero = some z ∧ i0.size = size ∧ i0.bytes = bytes)) (hz : z.cells.size = size) (h0 : 0 < size)
    (v : Value) (n : Nat) (xs : List Value) (hs : a.eval s = v) (hown : w.ownsRow base e size v n xs)
    (ad : Addr) (m c : Nat) (news : List Value) (hx : a.eval x = .slice (some ad) m c) (hl : news.length = m * size) (hnews : ∀ j u, news[j]? = some u → w.cell? (ad.add j) = some u) (h1 : ∀ u ∈ news, u.oneCell' = true)
    (h63 : n + m ≤ maxLen) (h47 : (n + m) * bytes ≤ 140737488355328) (hbase : base ≤ w.heap.size)
    (K : ∀ v' w', w'.ownsRow base e size v' (n + m) (xs ++ news) → w.grownBy w' v.ownBlock → (v'.ownBlock = v.ownBlock ∨ v'.ownBlock = some w.heap.size) → Below base w w' → wpList P ops Q rest (a.put o.dst v') w') : wpList P ops Q (o :: rest) a w := by
  obtain ⟨v', w', hr, k1, k2, _, k3⟩ := run_append_own_at (P := P) w base t o.type e i0 z size bytes hT hI.out.1 hI.out.2.1 hI.out.2.2.1 hI.out.2.2.2 hz h0 v n xs hown ad m c news hl hnews h1 h63 h47 hbase
  refine wpList_plain hgd fun K' hK => ?_
  unfold Oper.wp
  simp [execOp, ho, resolve, invoke, builtin, hs, hx, hr, Result.andThen]
  exact hK _ _ (K _ _ k1 k2 k3 ((Below.refl _ _).grown k2 hbase (fun k hk => (own_under hown k hk).1)))

/-- .. of a row known whole -/
theorem wpList_append_obj (hgd : o.guard = none) (s x : Operand) (t : TypeId) (ho : o.op = .call { callee := .builtin .append, args := #[s, x], argTypes := #[t, t] })
    (base : Nat) (e : TypeId) (i0 : TypeInfo) (z : Value) (size bytes : Nat) (hT : P.underlying t = some (.slice e)) (hI : Hid (P.info? e = some i0 ∧ i0.zero = some z ∧ i0.size = size ∧ i0.bytes = bytes)) (hz : z.cells.size = size) (h0 : 0 < size)
    (v : Value) (n : Nat) (xs : List Value) (hs : a.eval s = v) (hown : w.ownsRow base e size v n xs)
    (b c : Nat) (T : TypeId) (news : List Value) (hx : a.eval x = .slice (some ⟨b, 0, none⟩) 1 c) (hl : news.length = size) (hob : ObjAt w b T news) (h1 : ∀ u ∈ news, u.oneCell' = true)
    (h63 : n + 1 ≤ maxLen) (h47 : (n + 1) * bytes ≤ 140737488355328) (hbase : base ≤ w.heap.size)
    (K : ∀ v' w', w'.ownsRow base e size v' (n + 1) (xs ++ news) → w.grownBy w' v.ownBlock → (v'.ownBlock = v.ownBlock ∨ v'.ownBlock = some w.heap.size) → Below base w w' → wpList P ops Q rest (a.put o.dst v') w') : wpList P ops Q (o :: rest) a w :=
  wpList_append_apart hgd s x t ho base e i0 z size bytes hT hI hz h0 v n xs hs hown ⟨b, 0, none⟩ 1 c news hx (by omega) (fun j u hj => by rw [add_plain', Nat.zero_add, hob.cell, hj]) h1 h63 h47 hbase K

/-- a literal of one struct of five cells -/
theorem wpList_lit_five (hgd : o.guard = none) (t e : TypeId) (x : Operand) (ho : o.op = .buildSlice t 1 #[(0, x)]) (ht : P.underlying t = some (.slice e)) (z : Value) (hI : (P.info? e).map (fun i => (i.zero, i.size)) = some (some z, 5))
    (u0 u1 u2 u3 u4 : Value) (hx : a.eval x = .agg #[u0, u1, u2, u3, u4])
    (K : ∀ w', ObjAt w' w.heap.size e [u0, u1, u2, u3, u4] → Below w.heap.size w w' → wpList P ops Q rest (a.put o.dst (.slice (some ⟨w.heap.size, 0, none⟩) 1 1)) w') : wpList P ops Q (o :: rest) a w := by
  refine wpList_plain hgd fun K' hK => ?_
  cases hq : P.info? e with
  | none => simp [hq] at hI
  | some i =>
    simp [hq] at hI
    have hrun : (Instr.buildSlice t 1 #[(0, .agg #[u0, u1, u2, u3, u4])]).run P w = .ok (.slice (some ⟨w.heap.size, 0, none⟩) 1 1) (w.alloc (.cells #[u0, u1, u2, u3, u4] e)) := by
      simp [Instr.buildSlice, run_underlying ht, sizeOf, typeInfo, zeroValue, hq, hI.1, hI.2, Instr.fill, newRow, Value.cells]
      rw [show Array.range 5 = #[0, 1, 2, 3, 4] by decide]; simp
    unfold Oper.wp
    simp [execOp, ho, hx, hrun, Result.andThen]
    exact hK _ _ (K _ (heap_alloc_new w _) ((Below.refl _ _).alloc (Nat.le_refl _) _))

/-- a literal of one 64-bit integer -/
theorem wpList_lit_i64 (hgd : o.guard = none) (t e : TypeId) (x : Operand) (ho : o.op = .buildSlice t 1 #[(0, x)]) (ht : P.underlying t = some (.slice e)) (hI : (P.info? e).map (fun i => (i.zero, i.size)) = some (some (.int .i64 0), 1))
    (c : Int) (hx : a.eval x = .int .i64 c)
    (K : ∀ w', ObjAt w' w.heap.size e [.int .i64 c] → Below w.heap.size w w' → wpList P ops Q rest (a.put o.dst (.slice (some ⟨w.heap.size, 0, none⟩) 1 1)) w') : wpList P ops Q (o :: rest) a w := by
  refine wpList_plain hgd fun K' hK => ?_
  cases hq : P.info? e with
  | none => simp [hq] at hI
  | some i =>
    simp [hq] at hI
    have hrun : (Instr.buildSlice t 1 #[(0, .int .i64 c)]).run P w = .ok (.slice (some ⟨w.heap.size, 0, none⟩) 1 1) (w.alloc (.cells #[.int .i64 c] e)) := by
      simp [Instr.buildSlice, run_underlying ht, sizeOf, typeInfo, zeroValue, hq, hI.1, hI.2, Instr.fill, newRow, Value.cells]
      rw [show Array.range 1 = #[0] by decide]; simp
    unfold Oper.wp
    simp [execOp, ho, hx, hrun, Result.andThen]
    exact hK _ _ (K _ (heap_alloc_new w _) ((Below.refl _ _).alloc (Nat.le_refl _) _))
end
end Go.Proofs.Ytjokgiheabmolaa
