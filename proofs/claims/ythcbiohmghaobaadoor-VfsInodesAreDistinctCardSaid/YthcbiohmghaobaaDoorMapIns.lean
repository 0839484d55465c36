/-
  A map's literal, known as a function of its keys. Nothing of the program.
-/
import Derived.Test.YthcbiohmghaobaaDoorPz04
namespace Go.Proofs.YthcbiohmghaobaaDoor
open Go.RowKit Go.MapKept
section
variable {P : Program} {w : World} {ops : Array Oper} {rest : List Oper} {o : Oper} {a : Act} {Q : Exit → Act → World → Prop}
/-- an entry of a map's literal is laid as an update lays one -/
theorem wpList_insert_mapF (hgd : o.guard = none) (T : TypeId) (m k x : Operand) (ho : o.op = .insert T m k x) (kt et : TypeId) (hT : P.underlying T = some (.map kt et)) (d : TypeDesc) (hk : P.underlying kt = some d)
    (g : Nat) (hm : a.eval m = .map (some g)) (kv : Value) (hkv : a.eval k = kv) (hkey : IsKey d kv) (v : Value) (hv : a.eval x = v) (n : Nat) (F : Value → Option Value) (hg : MapF w g d n F)
    (K : ∀ w', MapF w' g d (if F kv = none then n + 1 else n) (upd F kv v) → TurnB w w' g → wpList P ops Q rest (a.put o.dst undef) w') : wpList P ops Q (o :: rest) a w := by
  refine wpList_plain hgd fun K' hK => ?_
  obtain ⟨xs, clk, h1, h2, h3, h4⟩ := hg
  have hlt : g < w.heap.size := (Array.getElem?_eq_some_iff.1 h1).1
  have turn : ∀ (xs' : Array MapEntry) (c' : Nat), TurnB w { w with heap := w.heap.setIfInBounds g (.map xs' c') } g := fun xs' c' => ⟨fun hB => ⟨rfl, rfl, rfl, by simp, fun i hi => by
      show (w.heap.setIfInBounds g _)[i]? = w.heap[i]?
      rw [Array.getElem?_setIfInBounds_ne (by omega)]⟩, fun {k} hkg => by
      show (w.heap.setIfInBounds g _)[k]? = w.heap[k]?
      rw [Array.getElem?_setIfInBounds_ne (by omega)], by simp⟩
  rcases find_lk hkey xs.toList 0 h2 with ⟨f1, f2⟩ | ⟨l1, e, l2, f1, f2, f3, f4, f5⟩
  · have hF : F kv = none := by rw [← h4]; exact f2
    have hrun : (Instr.mapUpdate T (.map (some g)) kv v).run P w = .ok () { w with heap := w.heap.setIfInBounds g (.map (xs.push { key := kv, val := v, born := clk }) (clk + 1)) } := by
      simp [Instr.mapUpdate, run_underlying hT, Go.MapKept.run_getObj_map h1, run_checkKey (w := w) hk hkey, run_findKey (w := w) hk f1, Go.MapKept.run_setObj_map _ h1, Result.andThen]
    unfold Oper.wp
    simp [execOp, ho, hm, hkv, hv, hrun, Result.andThen]
    refine hK _ _ (K _ ⟨xs.push { key := kv, val := v, born := clk }, clk + 1, by simp [hlt], ?_, ?_, ?_⟩ (turn _ _))
    · intro x hx
      simp only [Array.toList_push, List.mem_append, List.mem_singleton] at hx
      rcases hx with hx | rfl
      · exact h2 x hx
      · exact hkey
    · rw [if_pos hF, Array.size_push, h3]
    · intro k'
      rw [Array.toList_push]
      by_cases c : k' = kv
      · subst c
        rw [upd_same, lk_append _ _ (lk_none f2), lk, if_pos rfl]
      · rw [upd_ne c, lk_more (fun h => c h.symm), h4]
  · have hF : F kv ≠ none := by rw [← h4, f5]; exact fun h => by cases h
    have hlen : l1.length < xs.toList.length := by rw [f1]; simp
    have hj : xs[l1.length]? = some e := by
      rw [← Array.getElem?_toList, f1, List.getElem?_append_right (Nat.le_refl _), Nat.sub_self]; rfl
    rw [Nat.zero_add] at f4
    have hrun : (Instr.mapUpdate T (.map (some g)) kv v).run P w = .ok () { w with heap := w.heap.setIfInBounds g (.map (xs.modify l1.length fun e => { e with key := kv, val := v }) clk) } := by
      simp [Instr.mapUpdate, run_underlying hT, Go.MapKept.run_getObj_map h1, run_checkKey (w := w) hk hkey, run_findKey (w := w) hk f4, hj, f2, run_keyThatStays hkey, Go.MapKept.run_setObj_map _ h1, Result.andThen]
    have hl : (xs.modify l1.length fun e => { e with key := kv, val := v }).toList = l1 ++ { e with key := kv, val := v } :: l2 := by
      rw [Array.toList_modify, f1, List.modify_eq_take_cons_drop (by simp)]
      simp
    unfold Oper.wp
    simp [execOp, ho, hm, hkv, hv, hrun, Result.andThen]
    refine hK _ _ (K _ ⟨xs.modify l1.length fun e => { e with key := kv, val := v }, clk, by simp [hlt], ?_, ?_, ?_⟩ (turn _ _))
    · rw [hl]
      intro x hx
      rcases List.mem_append.1 hx with hx | hx
      · exact h2 x (by rw [f1]; exact List.mem_append_left _ hx)
      · rcases List.mem_cons.1 hx with rfl | hx
        · exact hkey
        · exact h2 x (by rw [f1]; exact List.mem_append_right _ (List.mem_cons_of_mem _ hx))
    · rw [if_neg hF, Array.size_modify, h3]
    · intro k'
      rw [hl]
      by_cases c : k' = kv
      · subst c
        rw [upd_same, lk_append _ _ f3, lk, if_pos rfl]
      · rw [upd_ne c, lk_other (k := kv) f2 rfl c, ← f1, h4]
end
end Go.Proofs.YthcbiohmghaobaaDoor
