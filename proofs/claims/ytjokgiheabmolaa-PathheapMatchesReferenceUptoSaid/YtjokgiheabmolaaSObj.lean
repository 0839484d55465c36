/-
  Structs as values: loaded whole, as a result beside a slot. Nothing of the program.
-/
import Derived.Test.YtjokgiheabmolaaObj
namespace Go.Proofs.Ytjokgiheabmolaa
open Go.RowKit

/-- what a walk asks of a struct's type: of n cells -/
def ObjT (P : Program) (T : TypeId) (n : Nat) : Prop := (∃ fs, P.underlying T = some (.struct fs)) ∧ (P.info? T).map (·.size) = some n
section
variable {P : Program} {w : World} {ops : Array Oper} {rest : List Oper} {o : Oper} {a : Act} {Q : Exit → Act → World → Prop}

theorem wpList_load_obj (hgd : o.guard = none) (T : TypeId) (n : Nat) (hT : ObjT P T n) (x : Operand) (ho : o.op = .load T x) (g : Nat) (hx : a.eval x = .pointer (some ⟨g, 0, none⟩))
    (T' : TypeId) (vs : List Value) (hg : ObjAt w g T' vs) (hl : vs.length = n) (K : wpList P ops Q rest (a.put o.dst (.agg vs.toArray)) w) : wpList P ops Q (o :: rest) a w := by
  obtain ⟨⟨fs, h1⟩, h2⟩ := hT
  exact wpList_load_row hgd T x ho g hx T' vs.toArray (0, 0) (.struct fs) hg h1 rfl (by rw [h2]; simp [hl]) K
theorem run_load_obj {T : TypeId} {n : Nat} (hT : ObjT P T n) (g : Nat) (T' : TypeId) (vs : List Value) (hg : ObjAt w g T' vs) (hl : vs.length = n) : (loadVar T ⟨g, 0, none⟩).run P w = .ok (.agg vs.toArray) w := by
  obtain ⟨⟨fs, h1⟩, h2⟩ := hT
  exact run_loadVar_row w g T' T vs.toArray (0, 0) (.struct fs) hg h1 rfl (by rw [h2]; simp [hl])
/-- the results are a struct's variable and a slot -/
theorem results_obj_tmp {fn : Func} {p q : Tmp} {T : TypeId} {n : Nat} (h : fn.results = #[.cell p T, .tmp q]) (hT : ObjT P T n) (tmps : Array Value) (g : Nat) (hp : tmps.getD p undef = .pointer (some ⟨g, 0, none⟩))
    (T' : TypeId) (vs : List Value) (hg : ObjAt w g T' vs) (hl : vs.length = n) : (results fn tmps).run P w = .ok (.tuple #[.agg vs.toArray, tmps.getD q undef]) w := by
  have hp' : tmps[p]?.getD undef = .pointer (some ⟨g, 0, none⟩) := by simpa using hp
  simp [results, h, hp', asAddr, run_load_obj hT g T' vs hg hl]
theorem results_obj {fn : Func} {p : Tmp} {T : TypeId} {n : Nat} (h : fn.results = #[.cell p T]) (hT : ObjT P T n) (tmps : Array Value) (g : Nat) (hp : tmps.getD p undef = .pointer (some ⟨g, 0, none⟩))
    (T' : TypeId) (vs : List Value) (hg : ObjAt w g T' vs) (hl : vs.length = n) : (results fn tmps).run P w = .ok (.agg vs.toArray) w := by
  have hp' : tmps[p]?.getD undef = .pointer (some ⟨g, 0, none⟩) := by simpa using hp
  simp [results, h, hp', asAddr, run_load_obj hT g T' vs hg hl]
end
end Go.Proofs.Ytjokgiheabmolaa
