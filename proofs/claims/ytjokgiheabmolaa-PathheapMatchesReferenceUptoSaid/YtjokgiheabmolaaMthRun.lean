/-
  How a method of an interface value that holds a pointer is found. Nothing of the program.
-/
import Derived.Test.YtjokgiheabmolaaObj
namespace Go.Proofs.Ytjokgiheabmolaa
open Go.RowKit
section
variable {P : Program} {w : World} {T E : TypeId} {f : FuncId} {name : String} {v : Value} {a : Addr}
theorem method_row {b : Bool} (hm : (P.info? T).map (fun i => (i.methods.find? (·.name == name)).map fun m => (m.path, m.func)) = some (some (#[], some (f, b)))) :
    ∃ i m, P.info? T = some i ∧ i.methods.find? (·.name == name) = some m ∧ m.path = #[] ∧ m.func = some (f, b) := by
  cases h : P.info? T with
  | none => rw [h] at hm; cases hm
  | some i =>
    rw [h] at hm
    have hm := Option.some.inj hm
    dsimp only at hm
    cases h2 : i.methods.find? (·.name == name) with
    | none => rw [h2] at hm; cases hm
    | some m =>
      rw [h2] at hm
      have hm := Option.some.inj hm
      injection hm with e1 e2
      exact ⟨i, m, rfl, h2, e1, e2⟩
theorem wrap_nil (ts : Array TypeId) (ty : TypeId) (x y : ByteArray) : (Builtin.ssaWrapNilChk_ ts ty #[.pointer (some a), .string x, .string y]).run P w = .ok (.pointer (some a)) w := rfl
/-- a value receiver: what the pointer leads to is loaded -/
theorem run_method_val (hm : (P.info? T).map (fun i => (i.methods.find? (·.name == name)).map fun m => (m.path, m.func)) = some (some (#[], some (f, false)))) (hT : P.underlying T = some (.pointer E)) (hl : (loadVar E a).run P w = .ok v w) (D : Nat) :
    (method (D + 1) T (.pointer (some a)) name).run P w = .ok (f, v) w := by
  obtain ⟨i, m, h1, h2, h3, h4⟩ := method_row hm
  simp [method, typeInfo, h1, h2, h3, h4, follow, receiverAt, run_underlying hT, Place.get, strVal, wrap_nil, asAddr, hl, Result.andThen]
/-- a pointer receiver -/
theorem run_method_ptr (hm : (P.info? T).map (fun i => (i.methods.find? (·.name == name)).map fun m => (m.path, m.func)) = some (some (#[], some (f, true)))) (hT : P.underlying T = some (.pointer E)) (D : Nat) :
    (method (D + 1) T (.pointer (some a)) name).run P w = .ok (f, .pointer (some a)) w := by
  obtain ⟨i, m, h1, h2, h3, h4⟩ := method_row hm
  simp [method, typeInfo, h1, h2, h3, h4, follow, receiverAt, run_underlying hT, Place.get, Result.andThen]
end
end Go.Proofs.Ytjokgiheabmolaa
