/-
  The row's own bound on what comes in, and what it says of a slice's length.
-/
import Derived.Test.YtjokgiheabmolaaRows
import Derived.Test.YtjokgiheabmolaaRowsArg
namespace Go.Proofs.Ytjokgiheabmolaa
open Go.RowKit Go.ChangeShapes Go.Deep

theorem weigh_pos {H : Type} (d : DataW H) : 1 ≤ Rows.uptoBulk d := by
  cases d with
  | lit l => cases l <;> simp [Rows.uptoBulk]
  | _ => simp [Rows.uptoBulk]
theorem weigh_all {H : Type} : ∀ l : List (DataW H), l.length ≤ Rows.uptoBulkAll l
  | [] => Nat.zero_le _
  | x :: r => by
    have h1 := weigh_pos x
    have h2 := weigh_all r
    simp only [Rows.uptoBulkAll, List.length_cons]
    omega
/-- a slice that came in has at most as many elements as it weighs -/
theorem weigh_slice {H : Type} {enc : TypeId × Value → H} {P : Program} {w : World} {base : Nat} {held : Bool} {t e : TypeId} {a : Option Addr} {len cap : Nat} {d : DataW H} {p : List MemPlace}
    (ht : P.underlying t = some (.slice e)) (h : DataW.Trod enc P w base (fun _ => true) held t (.slice a len cap) d p) : len ≤ Rows.uptoBulk d := by
  obtain ⟨fuel, hf⟩ := h
  rcases DataW.trod_slice ht hf with ⟨hcs, _⟩ | ⟨x, l, c, es, rs, n, _, hcs, hx, _, _, _, hl, _⟩
  · simp [Value.cells] at hcs
    obtain ⟨_, rfl, _⟩ := hcs
    exact Nat.zero_le _
  · simp [Value.cells] at hcs
    obtain ⟨_, rfl, _⟩ := hcs
    simp only [Prod.mk.injEq] at hx
    obtain ⟨rfl, _⟩ := hx
    have h1 := weigh_all (es.map (·.1))
    rw [List.length_map] at h1
    simp only [Rows.uptoBulk]
    omega
/-- two slices of a bounded input -/
theorem weigh_two {H : Type} {d d' : DataW H} {n n' : Nat} (h : Rows.uptoSmall H ([d, d'] ++ []) = true) (h1 : n ≤ Rows.uptoBulk d) (h2 : n' ≤ Rows.uptoBulk d') : n + n' ≤ 1048576 := by
  have hb : Rows.uptoBulkAll ([d, d'] ++ []) ≤ 1048576 := of_decide_eq_true h
  simp only [List.append_nil, Rows.uptoBulkAll] at hb
  omega
end Go.Proofs.Ytjokgiheabmolaa
