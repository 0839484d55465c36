/-
  A struct that lies in a row, loaded whole; a call of a function value; a copy of bytes as one step of a region that draws its order. Nothing of the program.
-/
import Derived.Test.YtbgmhdhfcckbbaaDoorSObj
import Derived.Laws.CopyOwn
namespace Go.Proofs.YtbgmhdhfcckbbaaDoor
open Go.RowKit

/-- a call of a function value enters the function that it names, if that has a body -/
theorem run_callFunc_body {P : Program} {f : FuncId} {fn : Func} (hf : P.funcs[f]? = some fn) (hn : (fn.name == "runtime.NumGoroutine") = false) (hb : fn.body.isNone = false) (args : Array Value) (w : World) :
    (callFunc f args).run P w = .ok (.enter f args) w := by
  have h1 : fn.name ≠ "runtime.NumGoroutine" := by simpa using hn
  have h2 : ¬ fn.body = none := by intro h; simp [h] at hb
  simp [callFunc, hf, h1, h2]

section
variable {P : Program} {w : World} {ops : Array Oper} {rest : List Oper} {o : Oper} {a : Act} {Q : Exit → Act → World → Prop}

/-- a struct that lies in a row -/
theorem run_load_part {T : TypeId} {n : Nat} (hT : ObjT P T n) (b off : Nat) (vs : List Value) (hl : vs.length = n) (hr : ∀ j u, vs[j]? = some u → w.cell? ⟨b, off + j, none⟩ = some u) :
    (loadVar T ⟨b, off, none⟩).run P w = .ok (.agg vs.toArray) w := by
  obtain ⟨⟨fs, h1⟩, hs⟩ := hT
  have hll := run_loadCells_list (P := P) w ⟨b, off, none⟩ vs (fun j u hj => by rw [add_plain']; exact hr j u hj)
  rw [hl] at hll
  cases hq : P.info? T with
  | none => simp [hq] at hs
  | some i =>
    have hs : i.size = n := by simpa [hq] using hs
    have hagg : (isAgg T).run P w = .ok true w := by
      unfold isAgg
      rw [Sem.run_bind, run_underlying h1 w]
      simp
    simp [loadVar, Sem.run_bind, hagg, sizeOf, typeInfo, hq, hs, hll]

theorem wpList_load_part (hgd : o.guard = none) (T : TypeId) (n : Nat) (hT : ObjT P T n) (x : Operand) (ho : o.op = .load T x) (b off : Nat) (hx : a.eval x = .pointer (some ⟨b, off, none⟩))
    (vs : List Value) (hl : vs.length = n) (hr : ∀ j u, vs[j]? = some u → w.cell? ⟨b, off + j, none⟩ = some u) (K : wpList P ops Q rest (a.put o.dst (.agg vs.toArray)) w) : wpList P ops Q (o :: rest) a w := by
  refine wpList_plain hgd fun K' hK => ?_
  unfold Oper.wp execOp
  simp only [ho, hx, Instr.loadAt, Instr.sureAddr, Sem.run_bind, Sem.run_pure, Result.andThen_ok, run_load_part hT b off vs hl hr]
  exact hK _ _ K

/-- 'copy(a[off:], b)' into an array of the call's own, as one step of a region that draws its order -/
theorem step_copy_arr {K : Act → World → Prop} {E : Prop} (hgd : o.guard = none) (d x : Operand) (dT sT : TypeId) (ho : o.op = .call { callee := .builtin .copy, args := #[d, x], argTypes := #[dT, sT] })
    (e : TypeId) (hT : P.underlying dT = some (.slice e)) (he : (P.info? e).map (·.size) = some 1)
    (g off n cap : Nat) (hd : a.eval d = .slice (some ⟨g, off, none⟩) n cap) (b : Option Addr) (m c : Nat) (hx : a.eval x = .slice b m c) (ys : List Int) (hy : BytesIn w b ys) (hm : ys.length = m)
    (T : TypeId) (zs : List Int) (hg : ArrAt w g T zs) (hfit : off + n ≤ zs.length)
    (k : ∀ w', ArrAt w' g T (lay zs off (ys.take n)) → Turned w w' g → K (a.put o.dst (goInt (ys.take n).length)) w') :
    if Region.wanted o (yielded ops a.tmps) = true then Oper.wp P o a w K Q else E := by
  have hw : Region.wanted o (yielded ops a.tmps) = true := by simp [Region.wanted, hgd]
  rw [if_pos hw]
  have hmn : (ys.take n).length = Nat.min m n := by rw [List.length_take, hm]; exact Nat.min_comm _ _
  by_cases h0 : Nat.min m n = 0
  · have e0 : ys.take n = [] := List.eq_nil_of_length_eq_zero (hmn.trans h0)
    have hrun := run_copy_none (P := P) w dT sT o.type e (some ⟨g, off, none⟩) b n cap m c hT he h0
    unfold Oper.wp
    simp [execOp, ho, resolve, invoke, builtin, hd, hx, hrun, Result.andThen]
    have := k w (by rw [e0]; simpa [lay] using hg) ⟨arr zs, (setRow_self w g (arr zs) T (0, 0) hg.1).symm⟩
    rw [e0] at this
    exact this
  · rcases hy with hy | ⟨b', off', rfl, _, hr⟩
    · exfalso; apply h0; rw [← hm, hy]; exact Nat.zero_min _
    · have hrun := run_copy_row (P := P) w dT sT o.type e g off n cap ⟨b', off', none⟩ m c (arr zs) T ((ys.take n).map (Value.int .u8)) hT he hg.1 (by rw [List.length_map]; exact hmn)
        (fun j v hj => hr.news j v (by
          rw [List.map_take, List.getElem?_take] at hj
          split at hj
          · exact hj
          · cases hj)) (by rw [List.length_map, arr_size, List.length_take]; omega) (one_map _ _)
      rw [List.length_map] at hrun
      unfold Oper.wp
      simp [execOp, ho, resolve, invoke, builtin, hd, hx, hrun, Result.andThen]
      rw [Oper.upon_value]
      have hk := k _ (by have := setRow_lay w g T zs off (ys.take n) hg (Bytes.take hr.2 n); simpa using this) ⟨_, rfl⟩
      simpa using hk
end
end Go.Proofs.YtbgmhdhfcckbbaaDoor
