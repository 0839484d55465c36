/-
  Layer 5: the rows, one behind the other; an append among others in a plain region; what a sink turns.
-/
import Derived.Test.YtodohdhbnihdbaaSnkAlive
import Derived.Test.YtodohdhbnihdbaaSnkSize
import Derived.Test.YtodohdhbnihdbaaSwitch
import Derived.Test.YtodohdhbnihdbaaStructArg
namespace Go.Proofs.Ytodohdhbnihdbaa
open Go.RowKit

abbrev Row := Option Addr × Nat × Nat × List Int
/-- the first j rows, one behind the other -/
def cat (rows : List Row) (j : Nat) : List Int := ((rows.take j).map fun y => y.2.2.2).flatten
theorem cat_succ {rows : List Row} {j : Nat} {y : Row} (h : rows[j]? = some y) : cat rows (j + 1) = cat rows j ++ y.2.2.2 := by
  unfold cat
  have hj : j < rows.length := by
    rcases Nat.lt_or_ge j rows.length with h' | h'
    · exact h'
    · rw [List.getElem?_eq_none h'] at h; cases h
  have e : rows[j] = y := by rw [List.getElem?_eq_getElem hj] at h; exact Option.some.inj h
  rw [List.take_succ_eq_append_getElem hj, List.map_append, List.flatten_append, e]
  simp
theorem cat_zero (rows : List Row) : cat rows 0 = [] := rfl
theorem cat_len (rows : List Row) (j : Nat) (h : ∀ y ∈ rows, y.2.2.2.length = y.2.1) : (cat rows j).length = total (rows.take j) := by
  unfold cat total
  rw [List.length_flatten, List.map_map]
  congr 1
  apply List.map_congr_left
  intro y hy
  exact h y (List.mem_of_mem_take hy)
theorem total_take_le (rows : List Row) (j : Nat) : total (rows.take j) ≤ total rows := by
  conv => rhs; rw [← List.take_append_drop j rows]
  unfold total
  rw [List.map_append, List.sum_append]
  omega
theorem cat_bytes (rows : List Row) (j : Nat) (h : ∀ y ∈ rows, Bytes y.2.2.2) : Bytes (cat rows j) := by
  intro z hz
  unfold cat at hz
  obtain ⟨l, h1, h2⟩ := List.mem_flatten.1 hz
  obtain ⟨y, h3, rfl⟩ := List.mem_map.1 h1
  exact h y (List.mem_of_mem_take h3) z h2

section
variable {P : Program} {w : World} {ops : Array Oper} {rest : List Oper} {o : Oper} {act : Act} {Q : Exit → Act → World → Prop}
/-- 'append(s, x...)' on a row of one's own among others, x anywhere -/
theorem wpList_append_at (hgd : o.guard = none) (s x : Operand) (t : TypeId)
    (ho : o.op = .call { callee := .builtin .append, args := #[s, x], argTypes := #[t, t] })
    (e : TypeId) (k : IntKind) (B : Nat) (hT : P.underlying t = some (.slice e)) (hI : ElemT P e k B)
    (a : Option Addr) (n cap : Nat) (zs : List Int) (hs : act.eval s = .slice a n cap) (hown : w.ownsRow 0 e 1 (.slice a n cap) n (zs.map (.int k)))
    (b : Option Addr) (m c : Nat) (ys : List Int) (hx : act.eval x = .slice b m c) (hy : InK k w b ys) (hl : ys.length = m) (h63 : n + m ≤ maxLen) (h47 : (n + m) * B ≤ 140737488355328)
    (K : ∀ a' c' w', w'.ownsRow 0 e 1 (.slice a' (n + m) c') (n + m) ((zs ++ ys).map (.int k)) → Only (fun q => ∃ x, a = some x ∧ x.block = q) w w' → (∀ x, a' = some x → (∃ y, a = some y ∧ y.block = x.block) ∨ (w.heap.size ≤ x.block ∧ x.block < w'.heap.size)) → wpList P ops Q rest (act.put o.dst (.slice a' (n + m) c')) w') :
    wpList P ops Q (o :: rest) act w := by
  obtain ⟨a', c', w', hr, h1, h2, h3⟩ := run_append_at (P := P) (w := w) t o.type e k B hT hI a n cap zs hown b m c ys hy hl h63 h47
  refine wpList_plain hgd fun K' hK => ?_
  unfold Oper.wp
  simp [execOp, ho, resolve, invoke, builtin, hs, hx, hr, Result.andThen]
  exact hK _ _ (K _ _ _ h1 h2 h3)
end

theorem own_bt {w : World} {a : Option Addr} {n c base : Nat} {e : TypeId} {zs : List Int} (h : w.ownsRow base e 1 (.slice a n c) n (zs.map (.int .u8))) (hb : Bytes zs) : BytesIn w a zs := (own_in h).bytes hb
theorem own_cap {w : World} {a : Option Addr} {n c base : Nat} {e : TypeId} {k : IntKind} {zs : List Int} (h : w.ownsRow base e 1 (.slice a n c) n (zs.map (.int k))) : n ≤ c ∧ ∀ x, a = some x → x.block < w.heap.size := by
  obtain ⟨b, c', hv, _, h2, _, _, h3⟩ := own_any h
  simp only [Value.slice.injEq, true_and] at hv
  obtain ⟨rfl, rfl⟩ := hv
  exact ⟨h2, fun x hx => (h3 x hx).2.1⟩

/-- Bytes in the words that a drawn region uses -/
theorem sbytes_told {S : Nat → Prop} {m : Nat} {ys cs : List Int} {F : Int} {r : Nat} {W : World} (h : Snk W S m ys F cs r) (N : Nat) (hN : ys.length = N) (SZ : ByteArray) (hZ : SZ = strOfNums ys) (w' : World) (hb : Below W.heap.size W w') :
    Calls Try.prog 10 #[.pointer (some ⟨m, 0, none⟩)] w' fun e w'' => ∃ a7 c7, e = .returned (.slice a7 N c7) ∧
      (∀ w3, Below w''.heap.size w'' w3 → (convert 31 9 (.slice a7 N c7)).run Try.prog w3 = .ok (.string SZ) w3) ∧ Below W.heap.size W w'' ∧ Below w'.heap.size w' w'' := by
  refine (sbytes_any w' (h.below hb)).mono ?_
  rintro e w'' ⟨v, rfl, o7, b7⟩
  obtain ⟨a7, c7, rfl, x7, _⟩ := own_bytes o7 h.bytes.1
  rw [hN]
  refine ⟨a7, c7, rfl, fun w3 b3 => ?_, hb.trans (b7.mono hb.size), b7⟩
  rw [hZ]
  exact run_str_in (P := Try.prog) Try.underlying31 Try.underlying5 Try.underlying9 (x7.below b3) N c7 hN
theorem slen_told {S : Nat → Prop} {m : Nat} {ys cs : List Int} {F : Int} {r : Nat} {W : World} (h : Snk W S m ys F cs r) (N : Nat) (hN : ys.length = N) (w' : World) (hb : Below W.heap.size W w') :
    Calls Try.prog 11 #[.pointer (some ⟨m, 0, none⟩)] w' fun e w'' => e = .returned (.int .i64 N) ∧ w' = w'' := by
  refine (slen_any w' (h.below hb)).mono ?_
  rintro e w'' ⟨rfl, rfl⟩
  rw [hN]
  exact ⟨rfl, rfl⟩

theorem all_more {F : Int} {T n : Nat} {xs ys : List Int} (hx : xs.length = T) (hy : ys.length = n) (hE : allE F 0 T = 0) :
    xs ++ ys.take (allK F T n) = (xs ++ ys).take (allK F 0 (T + n)) ∧ allE F T n = allE F 0 (T + n) ∧ xs.take (allK F 0 T) = xs := by
  have h0 : ¬ (0 ≤ F ∧ F - ((0 : Nat) : Int) < T) := by
    intro h; unfold allE at hE; rw [if_pos h] at hE; cases hE
  have hk0 : allK F 0 T = T := if_neg h0
  refine ⟨?_, ?_, by rw [hk0]; exact List.take_of_length_le (Nat.le_of_eq hx)⟩
  · have hk : allK F 0 (T + n) = T + allK F T n := by
      unfold allK
      split <;> split <;> omega
    rw [hk, List.take_append, hx, List.take_of_length_le (l := xs) (by omega), Nat.add_sub_cancel_left]
  · unfold allE
    congr 1
    apply propext
    omega
theorem all_full {F : Int} {T n : Nat} {xs ys : List Int} (hx : xs.length = T) (hE : allE F 0 T ≠ 0) :
    (xs ++ ys).take (allK F 0 (T + n)) = xs.take (allK F 0 T) ∧ allE F 0 (T + n) = allE F 0 T := by
  have h0 : 0 ≤ F ∧ F - ((0 : Nat) : Int) < T := by
    apply Classical.byContradiction
    intro h; unfold allE at hE; rw [if_neg h] at hE; exact hE rfl
  have h1 : 0 ≤ F ∧ F - ((0 : Nat) : Int) < (T + n : Nat) := by omega
  unfold allK allE
  rw [if_pos h0, if_pos h1, if_pos h0, if_pos h1]
  refine ⟨?_, rfl⟩
  rw [List.take_append_of_le_length (by omega)]
end Go.Proofs.Ytodohdhbnihdbaa
