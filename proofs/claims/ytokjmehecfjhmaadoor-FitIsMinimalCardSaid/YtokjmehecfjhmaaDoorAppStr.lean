/-
  'append(b, s...)' of a string onto bytes of the call's own, in a region that draws its order and in a walk. Nothing of the program.
-/
import Derived.Test.YtokjmehecfjhmaaDoorStrNum
import Derived.Lib.AppendStr
import Derived.Deep.RegionHeld3
namespace Go.Proofs.YtokjmehecfjhmaaDoor
open Go.RowKit Go.Lib

theorem strCells_nums (s : ByteArray) : strCells s = (numsOf s).map (.int .u8) := by
  unfold strCells; rw [numsOf_eq, List.map_map]; rfl
theorem own_blockN {w : World} {base n size : Nat} {e : TypeId} {v : Value} {xs : List Value} (h : w.ownsRow base e size v n xs) : ∀ k, v.ownBlock = some k → base ≤ k ∧ k < w.heap.size := by
  intro k hk
  rcases h.2 with ⟨h', _⟩ | ⟨g', cap', cur, hv, hb', hh, _⟩
  · rw [h'] at hk; cases hk
  · rw [hv] at hk
    obtain rfl : g' = k := by simpa [Value.ownBlock] using hk
    exact ⟨hb', (Array.getElem?_eq_some_iff.1 hh).1⟩

section
variable {P : Program} {w : World} {ops : Array Oper} {o : Oper} {a : Act} {Q : Exit → Act → World → Prop}
theorem step_append_str {K : Act → World → Prop} {E : Prop} (hgd : o.guard = none) (s x : Operand) (t u : TypeId)
    (ho : o.op = .call { callee := .builtin .append, args := #[s, x], argTypes := #[t, u] })
    (base : Nat) (e : TypeId) (i0 : TypeInfo) (hT : P.underlying t = some (.slice e)) (hU : P.underlying u = some .string) (hI : Hid (P.info? e = some i0 ∧ i0.zero = some (.int .u8 0) ∧ i0.size = 1 ∧ i0.bytes = 1))
    (v : Value) (n : Nat) (zs : List Int) (hs : a.eval s = v) (hown : w.ownsRow base e 1 v n (zs.map (.int .u8))) (str : ByteArray) (hx : a.eval x = .string str) (h47 : n + str.size ≤ 140737488355328) (hbase : base ≤ w.heap.size)
    (h : ∀ v' w', w'.ownsRow base e 1 v' (n + str.size) ((zs ++ numsOf str).map (.int .u8)) → Below base w w' → (∀ k, k < w.heap.size → some k ≠ v.ownBlock → w'.heap[k]? = w.heap[k]?) → K (a.put o.dst v') w') :
    if Region.wanted o (yielded ops a.tmps) = true then Oper.wp P o a w K Q else E := by
  have hw : Region.wanted o (yielded ops a.tmps) = true := by simp [Region.wanted, hgd]
  rw [if_pos hw]
  obtain ⟨v', w', hr, h1, h2, _⟩ := run_append_own_string (P := P) (w := w) base t u o.type e i0 hT hU hI.out.1 hI.out.2.1 hI.out.2.2.1 hI.out.2.2.2 v n _ hown str (by unfold maxLen; omega) h47 hbase
  unfold Oper.wp
  simp [execOp, ho, resolve, invoke, builtin, hs, hx, hr, Result.andThen]
  exact h v' w' (by rw [List.map_append, ← strCells_nums]; exact h1) ((Below.refl _ _).grown h2 hbase fun k hk => (own_blockN hown k hk).1) (fun k hk hr' => h2.block k hk hr')
end
end Go.Proofs.YtokjmehecfjhmaaDoor
