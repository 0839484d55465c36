/-
  Layer 5: the rows, one behind the other; an append among others in a plain region; what a sink turns.
-/
import Derived.Test.YtodohdhbnihdbaaSnkAlive
import Derived.Test.YtodohdhbnihdbaaSnkSize
import Derived.Test.YtodohdhbnihdbaaSwitch
import Derived.Test.YtodohdhbnihdbaaStructArg
namespace Go.Proofs.Ytodohdhbnihdbaa
open Go.RowKit

abbrev Row := Option Addr × Nat × Nat × List Int
/-- the first j rows, one behind the other -/
def cat (rows : List Row) (j : Nat) : List Int := ((rows.take j).map fun y => y.2.2.2).flatten
theorem cat_succ {rows : List Row} {j : Nat} {y : Row} (h : rows[j]? = some y) : cat rows (j + 1) = cat rows j ++ y.2.2.2 := by
  unfold cat
  have hj : j < rows.length := by
    rcases Nat.lt_or_ge j rows.length with h' | h'
    · exact h'
    · rw [List.getElem?_eq_none h'] at h; cases h
  have e : rows[j] = y := by rw [List.getElem?_eq_getElem hj] at h; exact Option.some.inj h
  rw [List.take_succ_eq_append_getElem hj, List.map_append, List.flatten_append, e]
  simp
theorem cat_zero (rows : List Row) : cat rows 0 = [] := rfl
theorem cat_len (rows : List Row) (j : Nat) (h : ∀ y ∈ rows, y.2.2.2.length = y.2.1) : (cat rows j).length = total (rows.take j) := by
  unfold cat total
  rw [List.length_flatten, List.map_map]
  congr 1
  apply List.map_congr_left
  intro y hy
  exact h y (List.mem_of_mem_take hy)
theorem total_take_le (rows : List Row) (j : Nat) : total (rows.take j) ≤ total rows := by
  conv => rhs; rw [← List.take_append_drop j rows]
  unfold total
  rw [List.map_append, List.sum_append]
  omega
theorem cat_bytes (rows : List Row) (j : Nat) (h : ∀ y ∈ rows, Bytes y.2.2.2) : Bytes (cat rows j) := by
  intro z hz
  unfold cat at hz
  obtain ⟨l, h1, h2⟩ := List.mem_flatten.1 hz
  obtain ⟨y, h3, rfl⟩ := List.mem_map.1 h1
  exact h y (List.mem_of_mem_take h3) z h2

section
variable {P : Program} {w : World} {ops : Array Oper} {rest : List Oper} {o : Oper} {act : Act} {Q : Exit → Act → World → Prop}
/-- 'append(s, x...)' on a row of one's own among others, x anywhere -/
theorem wpList_append_at (hgd : o.guard = none) (s x : Operand) (t : TypeId)
    (ho : o.op = .call { callee := .builtin .append, args := #[s, x], argTypes := #[t, t] })
    (e : TypeId) (k : IntKind) (B : Nat) (hT : P.underlying t = some (.slice e)) (hI : ElemT P e k B)
    (a : Option Addr) (n cap : Nat) (zs : List Int) (hs : act.eval s = .slice a n cap) (hown : w.ownsRow 0 e 1 (.slice a n cap) n (zs.map (.int k)))
    (b : Option Addr) (m c : Nat) (ys : List Int) (hx : act.eval x = .slice b m c) (hy : InK k w b ys) (hl : ys.length = m) (h63 : n + m ≤ maxLen) (h47 : (n + m) * B ≤ 140737488355328)
    (K : ∀ a' c' w', w'.ownsRow 0 e 1 (.slice a' (n + m) c') (n + m) ((zs ++ ys).map (.int k)) → Only (fun q => ∃ x, a = some x ∧ x.block = q) w w' → (∀ x, a' = some x → (∃ y, a = some y ∧ y.block = x.block) ∨ (w.heap.size ≤ x.block ∧ x.block < w'.heap.size)) → wpList P ops Q rest (act.put o.dst (.slice a' (n + m) c')) w') :
    wpList P ops Q (o :: rest) act w := by
  obtain ⟨a', c', w', hr, h1, h2, h3⟩ := run_append_at (P := P) (w := w) t o.type e k B hT hI a n cap zs hown b m c ys hy hl h63 h47
  refine wpList_plain hgd fun K' hK => ?_
  unfold Oper.wp
  simp [execOp, ho, resolve, invoke, builtin, hs, hx, hr, Result.andThen]
  exact hK _ _ (K _ _ _ h1 h2 h3)
end

theorem own_bt {w : World} {a : Option Addr} {n c base : Nat} {e : TypeId} {zs : List Int} (h : w.ownsRow base e 1 (.slice a n c) n (zs.map (.int .u8))) (hb : Bytes zs) : BytesIn w a zs := (own_in h).bytes hb
theorem own_cap {w : World} {a : Option Addr} {n c base : Nat} {e : TypeId} {k : IntKind} {zs : List Int} (h : w.ownsRow base e 1 (.slice a n c) n (zs.map (.int k))) : n ≤ c ∧ ∀ x, a = some x → x.block < w.heap.size := by
  obtain ⟨b, c', hv, _, h2, _, _, h3⟩ := own_any h
  simp only [Value.slice.injEq, true_and] at hv
  obtain ⟨rfl, rfl⟩ := hv
  exact ⟨h2, fun x hx => (h3 x hx).2.1⟩
end Go.Proofs.Ytodohdhbnihdbaa
