/-
  The methods of the heap's slice type, as container/heap calls them: Less, Swap, Len. (Scratch: names of types as in our own copy.)
-/
import Derived.Test.YtjokgiheabmolaaHepSwap
import Derived.Test.YtjokgiheabmolaaHepPop
namespace Go.Proofs.Ytjokgiheabmolaa.Hep
open Go.RowKit

theorem enters {P : Program} {f : FuncId} (hf : (P.funcs[f]?).map (fun k => (k.name == "runtime.NumGoroutine", k.body.isSome)) = some (false, true)) (args : Array Value) (w : World) : (callFunc f args).run P w = .ok (.enter f args) w := by
  cases h : P.funcs[f]? with
  | none => rw [h] at hf; cases hf
  | some k =>
    rw [h] at hf
    have hf := Option.some.inj hf
    injection hf with h1 h2
    obtain ⟨c, hc⟩ := Option.isSome_iff_exists.mp h2
    have h3 : k.name ≠ "runtime.NumGoroutine" := by simpa using h1
    simp [callFunc, h, h3, hc]
theorem own_set {w : World} {base n cap b i : Nat} {e : TypeId} {xs : List Value} (h : w.ownsRow base e 1 (.slice (some ⟨b, 0, none⟩) n cap) n xs) (v : Value) :
    (w.setCell ⟨b, i, none⟩ v).ownsRow base e 1 (.slice (some ⟨b, 0, none⟩) n cap) n (xs.set i v) := by
  obtain ⟨h1, h2 | ⟨g', cap', cur, hv, hb, hh, hc, hm, hs, ht⟩⟩ := h
  · cases h2.1
  · cases hv
    refine ⟨by rw [List.length_set]; exact h1, .inr ⟨b, cap, cur.setIfInBounds i v, rfl, hb, Go.heap_setCell_same w b i cur e v hh, hc, hm, by rw [Array.size_setIfInBounds]; exact hs, ?_⟩⟩
    rw [Array.toList_setIfInBounds, List.take_set, ht]
theorem run_load1 {P : Program} {w : World} {T e : TypeId} {a : Addr} {v : Value} (hT : P.underlying T = some (.slice e)) (hs : (P.info? T).map (·.size) = some 1) (hc : w.cell? a = some v) : (loadVar T a).run P w = .ok v w := by
  have hA : (isAgg T).run P w = .ok false w := by
    unfold isAgg
    rw [Sem.run_bind, run_underlying hT w]; simp
  cases hq : P.info? T with
  | none => simp [hq] at hs
  | some j =>
    have hj : j.size = 1 := by simpa [hq] using hs
    simp [loadVar, Sem.run_bind, hA, sizeOf, typeInfo, hq, hj, hc]
/-- the receiver that the methods of a value get, and what the row is -/
theorem HO.data {w0 w : World} {S0 : Nat → Prop} {gg : Nat} {l : List ByteArray} (h : HO w0 S0 gg w l) :
    ∃ a cap, (loadVar 46 ⟨gg, 0, none⟩).run Try.prog w = .ok (.slice a l.length cap) w ∧ ((∀ y ∈ l, y.size ≤ 140737488355328) → ArgSs w a l.length cap l) ∧
      ∀ i j, i < l.length → j < l.length → ∃ b, a = some ⟨b, 0, none⟩ ∧ l.length ≤ cap ∧ w.cell? ⟨b, i, none⟩ = some (.string (g l i)) ∧ w.cell? ⟨b, j, none⟩ = some (.string (g l j)) ∧ (∀ k, w.frozen? ⟨b, k, none⟩ = false) ∧
        HO w0 S0 gg ((w.setCell ⟨b, i, none⟩ (.string (g l j))).setCell ⟨b, j, none⟩ (.string (g l i))).drew (swl l i j) := by
  obtain ⟨a, cap, S, h1, h2, h3, h4, h5, h6, h7⟩ := h
  obtain ⟨a', c', hv, -, hc, hm, hi, hx⟩ := SsIn.of_own h2
  cases hv
  refine ⟨a, cap, run_load1 Try.underlying46 (by kernel_rfl) (h1.get 0 rfl), fun hs => ⟨rfl, hc, hm, hi, hs⟩, fun i j hil hjl => ?_⟩
  obtain ⟨b, off, rfl, hb, hat⟩ : ∃ b off, a = some ⟨b, off, none⟩ ∧ b < w.heap.size ∧ SsAt w b off l := by
    rcases hi with hi | hi
    · rw [hi] at hil; cases hil
    · exact hi
  obtain ⟨-, ho, -, hf⟩ := hx _ rfl
  have ho : off = 0 := ho
  subst ho
  have at' : ∀ k, k < l.length → w.cell? ⟨b, k, none⟩ = some (.string (g l k)) := fun k hk => by
    have := hat k (g l k) (by rw [g_get hk]; exact List.getElem?_eq_getElem hk)
    rwa [Nat.zero_add] at this
  have sb : S b := h4 _ rfl
  have hne : gg ≠ b := by
    rintro rfl
    rcases h2.2 with ⟨hv, -⟩ | ⟨b', cap', cur, hv, -, hh, -⟩
    · cases hv
    · cases hv
      have h1 : w.heap[gg]? = _ := h1
      rw [h1] at hh
      injection hh with hh
      injection hh with _ hh
      exact absurd hh (by decide)
  refine ⟨b, rfl, hc, at' i hil, at' j hjl, hf, some ⟨b, 0, none⟩, cap, S, ?_, ?_, h3, h4, h5, fun k hk => ?_, ?_⟩
  · rw [swl_len]
    exact (h1.set_other i _ hne).set_other j _ hne
  · rw [swl_len]
    have e : ssC (swl l i j) = ((ssC l).set i (.string (g l j))).set j (.string (g l i)) := by
      unfold swl ssC
      rw [List.map_set, List.map_set]
    rw [e]
    exact own_set (own_set h2 _) _
  · have := h6 k hk
    simpa [World.setCell, World.drew] using this
  · have s0 := h5 b sb
    exact ((h7.setCell (p := ⟨b, i, none⟩) s0 _).setCell (p := ⟨b, j, none⟩) s0 _).trans (Only.drewN _ _ 1)
theorem drop_mem {l : List ByteArray} {i j : Nat} (hi : i < l.length) (hj : j < l.length) (h : ∀ y ∈ l, y.size ≤ 140737488355328) : ∀ y ∈ swl l i j, y.size ≤ 140737488355328 := fun y hy => h y ((swl_perm hi hj).mem_iff.mp hy)
/-- what the heap's object shows, with the strings' sizes -/
def HS (w0 : World) (S0 : Nat → Prop) (gg : Nat) (w : World) (l : List ByteArray) : Prop := HO w0 S0 gg w l ∧ ∀ y ∈ l, y.size ≤ 140737488355328

set_option maxRecDepth 100000 in
set_option maxHeartbeats 2000000 in
theorem len_any (a : Option Addr) (n cap : Nat) (w : World) : Calls Try.prog 43 #[.slice a n cap] w fun e w' => e = .returned (.int .i64 n) ∧ w' = w := by
  go_enter Try.func43, Try.ntmps43
  go_wp2
  go_ret
  exact ⟨rfl, rfl⟩
theorem mth_ho (w0 : World) (S0 : Nat → Prop) (gg : Nat) : Mth 45 (.pointer (some ⟨gg, 0, none⟩)) 44 47 (HS w0 S0 gg) where
  less := fun w l i j h hi hj => by
    obtain ⟨a, cap, hl, hs, -⟩ := h.1.data
    exact ⟨_, run_method_val (by kernel_rfl) Try.underlying45 hl, (less_any a l.length cap l i j w (hs h.2) hi hj).mono fun e w' q => ⟨q.1, h.1.below q.2, h.2⟩⟩
  swap := fun w l i j h hi hj => by
    obtain ⟨a, cap, hl, -, hs⟩ := h.1.data
    obtain ⟨b, rfl, hc, h1, h2, hf, hH⟩ := hs i j hi hj
    exact ⟨_, run_method_val (by kernel_rfl) Try.underlying45 hl, (swap_any b l.length cap i j _ _ w hi hj hc h1 h2 hf).mono fun e w' q => ⟨q.1, by rw [q.2]; exact hH, drop_mem hi hj h.2⟩⟩
  el := enters (by kernel_rfl)
  es := enters (by kernel_rfl)
theorem mthl_ho (w0 : World) (S0 : Nat → Prop) (gg : Nat) : MthL 45 (.pointer (some ⟨gg, 0, none⟩)) 43 (HS w0 S0 gg) where
  len := fun w l h => by
    obtain ⟨a, cap, hl, -⟩ := h.1.data
    exact ⟨_, run_method_val (by kernel_rfl) Try.underlying45 hl, (len_any a l.length cap w).mono fun e w' q => ⟨q.1, by rw [q.2]; exact h⟩⟩
  en := enters (by kernel_rfl)
end Go.Proofs.Ytjokgiheabmolaa.Hep
