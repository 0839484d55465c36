/-
  Layer 7: the program's table of fields.
-/
import Derived.Test.YtbgmhdhfcckbbaaDoorUstFmt
import Derived.Test.YtbgmhdhfcckbbaaDoorUstCont
import Derived.Test.YtbgmhdhfcckbbaaDoorRows4
namespace Go.Proofs.YtbgmhdhfcckbbaaDoor.Ust
open Go.RowKit
open Oct Cst Chk

/-- a row of the table -/
abbrev rowV (off wd : Int) (f p : FuncId) : List Value := [.int .i64 off, .int .i64 wd, .func (.func f) #[] #[], .func (.func p) #[] #[]]
def tab : List (Nat × Nat × FuncId × FuncId) :=
  [(0, 100, 42, 43), (100, 8, 44, 45), (108, 8, 46, 47), (116, 8, 46, 47),
   (124, 12, 48, 49), (136, 12, 46, 47), (156, 1, 50, 51), (157, 100, 52, 53),
   (257, 6, 54, 47), (263, 2, 55, 47), (329, 8, 46, 47), (337, 8, 46, 47), (345, 155, 56, 57)]
def rowOf (r : Nat × Nat × FuncId × FuncId) : List Value := rowV r.1 r.2.1 r.2.2.1 r.2.2.2
def tabV : List Value := tab.flatMap rowOf
def rowT (j : Nat) : Nat × Nat × FuncId × FuncId := tab.getD j (0, 0, 0, 0)
def fmtT (j : Nat) : FuncId := (rowT j).2.2.1
def prsT (j : Nat) : FuncId := (rowT j).2.2.2

theorem tab_row {j : Nat} (hj : j < 13) : ∀ i u, (rowV (offT j) (wdT j) (fmtT j) (prsT j))[i]? = some u → tabV[j * 4 + i]? = some u := by
  intro i u hu
  have hi : i < 4 := by
    rcases Nat.lt_or_ge i 4 with h | h
    · exact h
    · rw [List.getElem?_eq_none (by simpa using h)] at hu; cases hu
  rw [← hu]
  match j, hj, i, hi with
  | 0, _, 0, _ | 0, _, 1, _ | 0, _, 2, _ | 0, _, 3, _ => rfl
  | 1, _, 0, _ | 1, _, 1, _ | 1, _, 2, _ | 1, _, 3, _ => rfl
  | 2, _, 0, _ | 2, _, 1, _ | 2, _, 2, _ | 2, _, 3, _ => rfl
  | 3, _, 0, _ | 3, _, 1, _ | 3, _, 2, _ | 3, _, 3, _ => rfl
  | 4, _, 0, _ | 4, _, 1, _ | 4, _, 2, _ | 4, _, 3, _ => rfl
  | 5, _, 0, _ | 5, _, 1, _ | 5, _, 2, _ | 5, _, 3, _ => rfl
  | 6, _, 0, _ | 6, _, 1, _ | 6, _, 2, _ | 6, _, 3, _ => rfl
  | 7, _, 0, _ | 7, _, 1, _ | 7, _, 2, _ | 7, _, 3, _ => rfl
  | 8, _, 0, _ | 8, _, 1, _ | 8, _, 2, _ | 8, _, 3, _ => rfl
  | 9, _, 0, _ | 9, _, 1, _ | 9, _, 2, _ | 9, _, 3, _ => rfl
  | 10, _, 0, _ | 10, _, 1, _ | 10, _, 2, _ | 10, _, 3, _ => rfl
  | 11, _, 0, _ | 11, _, 1, _ | 11, _, 2, _ | 11, _, 3, _ => rfl
  | 12, _, 0, _ | 12, _, 1, _ | 12, _, 2, _ | 12, _, 3, _ => rfl

theorem fmt_enter {j : Nat} (hj : j < 13) (args : Array Value) (w : World) : (callFunc (fmtT j) args).run Tryd.prog w = .ok (.enter (fmtT j) args) w := by
  match j, hj with
  | 0, _ => exact run_callFunc_body Tryd.func42 (by kernel_rfl) (by kernel_rfl) args w
  | 1, _ => exact run_callFunc_body Tryd.func44 (by kernel_rfl) (by kernel_rfl) args w
  | 2, _ => exact run_callFunc_body Tryd.func46 (by kernel_rfl) (by kernel_rfl) args w
  | 3, _ => exact run_callFunc_body Tryd.func46 (by kernel_rfl) (by kernel_rfl) args w
  | 4, _ => exact run_callFunc_body Tryd.func48 (by kernel_rfl) (by kernel_rfl) args w
  | 5, _ => exact run_callFunc_body Tryd.func46 (by kernel_rfl) (by kernel_rfl) args w
  | 6, _ => exact run_callFunc_body Tryd.func50 (by kernel_rfl) (by kernel_rfl) args w
  | 7, _ => exact run_callFunc_body Tryd.func52 (by kernel_rfl) (by kernel_rfl) args w
  | 8, _ => exact run_callFunc_body Tryd.func54 (by kernel_rfl) (by kernel_rfl) args w
  | 9, _ => exact run_callFunc_body Tryd.func55 (by kernel_rfl) (by kernel_rfl) args w
  | 10, _ => exact run_callFunc_body Tryd.func46 (by kernel_rfl) (by kernel_rfl) args w
  | 11, _ => exact run_callFunc_body Tryd.func46 (by kernel_rfl) (by kernel_rfl) args w
  | 12, _ => exact run_callFunc_body Tryd.func56 (by kernel_rfl) (by kernel_rfl) args w

theorem prs_enter {j : Nat} (hj : j < 13) (args : Array Value) (w : World) : (callFunc (prsT j) args).run Tryd.prog w = .ok (.enter (prsT j) args) w := by
  match j, hj with
  | 0, _ => exact run_callFunc_body Tryd.func43 (by kernel_rfl) (by kernel_rfl) args w
  | 1, _ => exact run_callFunc_body Tryd.func45 (by kernel_rfl) (by kernel_rfl) args w
  | 2, _ => exact run_callFunc_body Tryd.func47 (by kernel_rfl) (by kernel_rfl) args w
  | 3, _ => exact run_callFunc_body Tryd.func47 (by kernel_rfl) (by kernel_rfl) args w
  | 4, _ => exact run_callFunc_body Tryd.func49 (by kernel_rfl) (by kernel_rfl) args w
  | 5, _ => exact run_callFunc_body Tryd.func47 (by kernel_rfl) (by kernel_rfl) args w
  | 6, _ => exact run_callFunc_body Tryd.func51 (by kernel_rfl) (by kernel_rfl) args w
  | 7, _ => exact run_callFunc_body Tryd.func53 (by kernel_rfl) (by kernel_rfl) args w
  | 8, _ => exact run_callFunc_body Tryd.func47 (by kernel_rfl) (by kernel_rfl) args w
  | 9, _ => exact run_callFunc_body Tryd.func47 (by kernel_rfl) (by kernel_rfl) args w
  | 10, _ => exact run_callFunc_body Tryd.func47 (by kernel_rfl) (by kernel_rfl) args w
  | 11, _ => exact run_callFunc_body Tryd.func47 (by kernel_rfl) (by kernel_rfl) args w
  | 12, _ => exact run_callFunc_body Tryd.func57 (by kernel_rfl) (by kernel_rfl) args w

set_option maxHeartbeats 2000000 in
set_option maxRecDepth 100000 in
theorem fields_any (w : World) : Calls Tryd.prog 20 #[] w fun e w' => e = .returned (.slice (some ⟨w.heap.size, 0, none⟩) 13 13) ∧ ObjAt w' w.heap.size 52 tabV ∧ Below w.heap.size w w' := by
  go_enter Tryd.func20, Tryd.ntmps20
  go_wp2
  go_ret
  exact ⟨rfl, heap_alloc_new w _, (Below.refl _ _).alloc (Nat.le_refl _) _⟩
end Go.Proofs.YtbgmhdhfcckbbaaDoor.Ust
