/-
  A struct that lies in a row, loaded whole; a call of a function value; a copy of bytes as one step of a region that draws its order. Nothing of the program.
-/
import Derived.Test.YtmbimnnacjbdfaaGreatDoorPz06
import Derived.Laws.CopyOwn
import Derived.Test.YtmbimnnacjbdfaaGreatDoorPz11
import Derived.Test.YtmbimnnacjbdfaaGreatDoorRows
import Derived.Test.YtmbimnnacjbdfaaGreatDoorPz04
import Derived.Test.YtmbimnnacjbdfaaGreatDoorPz10
import Derived.Test.YtmbimnnacjbdfaaGreatDoorPz01
import Derived.BigQuiet
namespace Go.Proofs.YtmbimnnacjbdfaaGreatDoor
open Go.RowKit

/-- a call of a function value enters the function that it names, if that has a body -/
theorem run_callFunc_body {P : Program} {f : FuncId} {fn : Func} (hf : P.funcs[f]? = some fn) (hn : (fn.name == "runtime.NumGoroutine") = false) (hb : fn.body.isNone = false) (args : Array Value) (w : World) :
    (callFunc f args).run P w = .ok (.enter f args) w := by
  have h1 : fn.name ≠ "runtime.NumGoroutine" := by simpa using hn
  have h2 : ¬ fn.body = none := by intro h; simp [h] at hb
  simp [callFunc, hf, h1, h2]

section
variable {P : Program} {w : World} {ops : Array Oper} {rest : List Oper} {o : Oper} {a : Act} {Q : Exit → Act → World → Prop}

/-- a struct that lies in a row -/
theorem run_load_part {T : TypeId} {n : Nat} (hT : ObjT P T n) (b off : Nat) (vs : List Value) (hl : vs.length = n) (hr : ∀ j u, vs[j]? = some u → w.cell? ⟨b, off + j, none⟩ = some u) :
    (loadVar T ⟨b, off, none⟩).run P w = .ok (.agg vs.toArray) w := by
  obtain ⟨⟨fs, h1⟩, hs⟩ := hT
  have hll := run_loadCells_list (P := P) w ⟨b, off, none⟩ vs (fun j u hj => by rw [add_plain']; exact hr j u hj)
  rw [hl] at hll
  cases hq : P.info? T with
  | none => simp [hq] at hs
  | some i =>
    have hs : i.size = n := by simpa [hq] using hs
    have hagg : (isAgg T).run P w = .ok true w := by
      unfold isAgg
      rw [Sem.run_bind, run_underlying h1 w]
      simp
    simp [loadVar, Sem.run_bind, hagg, sizeOf, typeInfo, hq, hs, hll]

theorem wpList_load_part (hgd : o.guard = none) (T : TypeId) (n : Nat) (hT : ObjT P T n) (x : Operand) (ho : o.op = .load T x) (b off : Nat) (hx : a.eval x = .pointer (some ⟨b, off, none⟩))
    (vs : List Value) (hl : vs.length = n) (hr : ∀ j u, vs[j]? = some u → w.cell? ⟨b, off + j, none⟩ = some u) (K : wpList P ops Q rest (a.put o.dst (.agg vs.toArray)) w) : wpList P ops Q (o :: rest) a w := by
  refine wpList_plain hgd fun K' hK => ?_
  unfold Oper.wp execOp
  simp only [ho, hx, Instr.loadAt, Instr.sureAddr, Sem.run_bind, Sem.run_pure, Result.andThen_ok, run_load_part hT b off vs hl hr]
  exact hK _ _ K

/-- 'copy(a[off:], b)' into an array of the call's own, as one step of a region that draws its order -/
theorem step_copy_arr {K : Act → World → Prop} {E : Prop} (hgd : o.guard = none) (d x : Operand) (dT sT : TypeId) (ho : o.op = .call { callee := .builtin .copy, args := #[d, x], argTypes := #[dT, sT] })
    (e : TypeId) (hT : P.underlying dT = some (.slice e)) (he : (P.info? e).map (·.size) = some 1)
    (g off n cap : Nat) (hd : a.eval d = .slice (some ⟨g, off, none⟩) n cap) (b : Option Addr) (m c : Nat) (hx : a.eval x = .slice b m c) (ys : List Int) (hy : BytesIn w b ys) (hm : ys.length = m)
    (T : TypeId) (zs : List Int) (hg : ArrAt w g T zs) (hfit : off + n ≤ zs.length)
    (k : ∀ w', ArrAt w' g T (lay zs off (ys.take n)) → Turned w w' g → K (a.put o.dst (goInt (ys.take n).length)) w') :
    if Region.wanted o (yielded ops a.tmps) = true then Oper.wp P o a w K Q else E := by
  have hw : Region.wanted o (yielded ops a.tmps) = true := by simp [Region.wanted, hgd]
  rw [if_pos hw]
  have hmn : (ys.take n).length = Nat.min m n := by rw [List.length_take, hm]; exact Nat.min_comm _ _
  by_cases h0 : Nat.min m n = 0
  · have e0 : ys.take n = [] := List.eq_nil_of_length_eq_zero (hmn.trans h0)
    have hrun := run_copy_none (P := P) w dT sT o.type e (some ⟨g, off, none⟩) b n cap m c hT he h0
    unfold Oper.wp
    simp [execOp, ho, resolve, invoke, builtin, hd, hx, hrun, Result.andThen]
    have := k w (by rw [e0]; simpa [lay] using hg) ⟨arr zs, (setRow_self w g (arr zs) T (0, 0) hg.1).symm⟩
    rw [e0] at this
    exact this
  · rcases hy with hy | ⟨b', off', rfl, _, hr⟩
    · exfalso; apply h0; rw [← hm, hy]; exact Nat.zero_min _
    · have hrun := run_copy_row (P := P) w dT sT o.type e g off n cap ⟨b', off', none⟩ m c (arr zs) T ((ys.take n).map (Value.int .u8)) hT he hg.1 (by rw [List.length_map]; exact hmn)
        (fun j v hj => hr.news j v (by
          rw [List.map_take, List.getElem?_take] at hj
          split at hj
          · exact hj
          · cases hj)) (by rw [List.length_map, arr_size, List.length_take]; omega) (one_map _ _)
      rw [List.length_map] at hrun
      unfold Oper.wp
      simp [execOp, ho, resolve, invoke, builtin, hd, hx, hrun, Result.andThen]
      rw [Oper.upon_value]
      have hk := k _ (by have := setRow_lay w g T zs off (ys.take n) hg (Bytes.take hr.2 n); simpa using this) ⟨_, rfl⟩
      simpa using hk
end
end Go.Proofs.YtmbimnnacjbdfaaGreatDoor
/-
  Layer 7: the program's table of fields.
-/
namespace Go.Proofs.YtmbimnnacjbdfaaGreatDoor.Ust
open Go.RowKit
open Oct Cst Chk

/-- a row of the table -/
abbrev rowV (off wd : Int) (f p : FuncId) : List Value := [.int .i64 off, .int .i64 wd, .func (.func f) #[] #[], .func (.func p) #[] #[]]
def tab : List (Nat × Nat × FuncId × FuncId) :=
  [(0, 100, 71, 72), (100, 8, 73, 74), (108, 8, 75, 76), (116, 8, 75, 76),
   (124, 12, 77, 78), (136, 12, 75, 76), (156, 1, 79, 80), (157, 100, 81, 82),
   (257, 6, 83, 76), (263, 2, 84, 76), (329, 8, 75, 76), (337, 8, 75, 76), (345, 155, 85, 86)]
def rowOf (r : Nat × Nat × FuncId × FuncId) : List Value := rowV r.1 r.2.1 r.2.2.1 r.2.2.2
def tabV : List Value := tab.flatMap rowOf
def rowT (j : Nat) : Nat × Nat × FuncId × FuncId := tab.getD j (0, 0, 0, 0)
def fmtT (j : Nat) : FuncId := (rowT j).2.2.1
def prsT (j : Nat) : FuncId := (rowT j).2.2.2

theorem tab_row {j : Nat} (hj : j < 13) : ∀ i u, (rowV (offT j) (wdT j) (fmtT j) (prsT j))[i]? = some u → tabV[j * 4 + i]? = some u := by
  intro i u hu
  have hi : i < 4 := by
    rcases Nat.lt_or_ge i 4 with h | h
    · exact h
    · rw [List.getElem?_eq_none (by simpa using h)] at hu; cases hu
  rw [← hu]
  match j, hj, i, hi with
  | 0, _, 0, _ | 0, _, 1, _ | 0, _, 2, _ | 0, _, 3, _ => rfl
  | 1, _, 0, _ | 1, _, 1, _ | 1, _, 2, _ | 1, _, 3, _ => rfl
  | 2, _, 0, _ | 2, _, 1, _ | 2, _, 2, _ | 2, _, 3, _ => rfl
  | 3, _, 0, _ | 3, _, 1, _ | 3, _, 2, _ | 3, _, 3, _ => rfl
  | 4, _, 0, _ | 4, _, 1, _ | 4, _, 2, _ | 4, _, 3, _ => rfl
  | 5, _, 0, _ | 5, _, 1, _ | 5, _, 2, _ | 5, _, 3, _ => rfl
  | 6, _, 0, _ | 6, _, 1, _ | 6, _, 2, _ | 6, _, 3, _ => rfl
  | 7, _, 0, _ | 7, _, 1, _ | 7, _, 2, _ | 7, _, 3, _ => rfl
  | 8, _, 0, _ | 8, _, 1, _ | 8, _, 2, _ | 8, _, 3, _ => rfl
  | 9, _, 0, _ | 9, _, 1, _ | 9, _, 2, _ | 9, _, 3, _ => rfl
  | 10, _, 0, _ | 10, _, 1, _ | 10, _, 2, _ | 10, _, 3, _ => rfl
  | 11, _, 0, _ | 11, _, 1, _ | 11, _, 2, _ | 11, _, 3, _ => rfl
  | 12, _, 0, _ | 12, _, 1, _ | 12, _, 2, _ | 12, _, 3, _ => rfl

theorem fmt_enter {j : Nat} (hj : j < 13) (args : Array Value) (w : World) : (callFunc (fmtT j) args).run Tryz.prog w = .ok (.enter (fmtT j) args) w := by
  match j, hj with
  | 0, _ => exact run_callFunc_body Tryz.func71 (by kernel_rfl) (by kernel_rfl) args w
  | 1, _ => exact run_callFunc_body Tryz.func73 (by kernel_rfl) (by kernel_rfl) args w
  | 2, _ => exact run_callFunc_body Tryz.func75 (by kernel_rfl) (by kernel_rfl) args w
  | 3, _ => exact run_callFunc_body Tryz.func75 (by kernel_rfl) (by kernel_rfl) args w
  | 4, _ => exact run_callFunc_body Tryz.func77 (by kernel_rfl) (by kernel_rfl) args w
  | 5, _ => exact run_callFunc_body Tryz.func75 (by kernel_rfl) (by kernel_rfl) args w
  | 6, _ => exact run_callFunc_body Tryz.func79 (by kernel_rfl) (by kernel_rfl) args w
  | 7, _ => exact run_callFunc_body Tryz.func81 (by kernel_rfl) (by kernel_rfl) args w
  | 8, _ => exact run_callFunc_body Tryz.func83 (by kernel_rfl) (by kernel_rfl) args w
  | 9, _ => exact run_callFunc_body Tryz.func84 (by kernel_rfl) (by kernel_rfl) args w
  | 10, _ => exact run_callFunc_body Tryz.func75 (by kernel_rfl) (by kernel_rfl) args w
  | 11, _ => exact run_callFunc_body Tryz.func75 (by kernel_rfl) (by kernel_rfl) args w
  | 12, _ => exact run_callFunc_body Tryz.func85 (by kernel_rfl) (by kernel_rfl) args w

theorem prs_enter {j : Nat} (hj : j < 13) (args : Array Value) (w : World) : (callFunc (prsT j) args).run Tryz.prog w = .ok (.enter (prsT j) args) w := by
  match j, hj with
  | 0, _ => exact run_callFunc_body Tryz.func72 (by kernel_rfl) (by kernel_rfl) args w
  | 1, _ => exact run_callFunc_body Tryz.func74 (by kernel_rfl) (by kernel_rfl) args w
  | 2, _ => exact run_callFunc_body Tryz.func76 (by kernel_rfl) (by kernel_rfl) args w
  | 3, _ => exact run_callFunc_body Tryz.func76 (by kernel_rfl) (by kernel_rfl) args w
  | 4, _ => exact run_callFunc_body Tryz.func78 (by kernel_rfl) (by kernel_rfl) args w
  | 5, _ => exact run_callFunc_body Tryz.func76 (by kernel_rfl) (by kernel_rfl) args w
  | 6, _ => exact run_callFunc_body Tryz.func80 (by kernel_rfl) (by kernel_rfl) args w
  | 7, _ => exact run_callFunc_body Tryz.func82 (by kernel_rfl) (by kernel_rfl) args w
  | 8, _ => exact run_callFunc_body Tryz.func76 (by kernel_rfl) (by kernel_rfl) args w
  | 9, _ => exact run_callFunc_body Tryz.func76 (by kernel_rfl) (by kernel_rfl) args w
  | 10, _ => exact run_callFunc_body Tryz.func76 (by kernel_rfl) (by kernel_rfl) args w
  | 11, _ => exact run_callFunc_body Tryz.func76 (by kernel_rfl) (by kernel_rfl) args w
  | 12, _ => exact run_callFunc_body Tryz.func86 (by kernel_rfl) (by kernel_rfl) args w

set_option maxHeartbeats 2000000 in
set_option maxRecDepth 100000 in
theorem fields_any (w : World) : Calls Tryz.prog 44 #[] w fun e w' => e = .returned (.slice (some ⟨w.heap.size, 0, none⟩) 13 13) ∧ ObjAt w' w.heap.size 94 tabV ∧ Below w.heap.size w w' := by
  go_enter Tryz.func44, Tryz.ntmps44
  go_wp2
  go_ret
  exact ⟨rfl, heap_alloc_new w _, (Below.refl _ _).alloc (Nat.le_refl _) _⟩
end Go.Proofs.YtmbimnnacjbdfaaGreatDoor.Ust
/-
  Walks of layer 3: the methods of a header, convert, Sum, Seal, Verify.
-/
namespace Go.Proofs.YtmbimnnacjbdfaaGreatDoor.Chk
open Go.RowKit
open Oct

theorem hdrT : ArrT Tryz.prog 119 5 512 := ⟨Tryz.underlying119, by kernel_rfl, Tryz.underlying5, Tryz.info5⟩
theorem sp8_str : numsOf { data := #[32, 32, 32, 32, 32, 32, 32, 32] } = sp8 := by decide

set_option maxHeartbeats 1000000 in
theorem hsum_any (zs : List Int) (w : World) (hl : zs.length = 512) (hb : Bytes zs) :
    Calls Tryz.prog 116 #[.agg (arr zs)] w fun e w' => e = .returned (.int .i64 (sumZ zs)) ∧ Below w.heap.size w w' := by
  have HL := Lib.hid hl; clear hl
  have HB := Lib.hid hb; clear hb
  have HT := Lib.hid hdrT
  go_enter Tryz.func116, Tryz.ntmps116
  go_wp2_with (first | (refine wpList_box_arr rfl 119 _ rfl zs rfl HB.out ?_; intro w1 h1 b1; have H1 := Lib.hid h1; clear h1) | (refine wpList_copy_arr_str rfl _ _ 25 9 rfl 5 Tryz.underlying25 HT.out.elem w.heap.size 148 364 364 rfl _ rfl 119 zs H1.out (by decide) (by rw [HL.out]; decide) ?_; intro w2 h2 t2; have H2 := Lib.hid h2; have T2 := Lib.hid t2; clear h2 t2) | (refine wpList_load_arr rfl 119 5 512 HT.out _ rfl w.heap.size 0 rfl (blankZ zs) H2.out.row (blank_length HL.out) ?_))
  have hbl := blank_bytes HB.out
  have BD := Lib.hid (take_sum_bd hbl)
  have HN := Lib.hid (blank_length HL.out)
  have B2 := Lib.hid ((b1).trans (T2.out.below (Nat.le_refl _)))
  have HZ := Lib.hid hbl; clear hbl b1
  go_loop [3, 9] (fun n i => ∃ j : Nat, j ≤ 512 ∧ i = .int .i64 j ∧ n = .int .i64 ((blankZ zs).take j).sum) (fun _ i => 512 - (intOf i).toNat)
  case atStart => exact ⟨0, Nat.zero_le _, rfl, rfl⟩
  case round =>
    obtain ⟨j, hj, rfl, rfl⟩ := hrel
    obtain ⟨d0, d1⟩ := BD.out j
    by_cases hlt : j < 512
    · have hix := run_index_arr (w := w2) HT.out (blankZ zs) HN.out j hlt
      obtain ⟨c, hc⟩ := named ((blankZ zs).getD j 0)
      have hcb := HZ.out.getD j
      rw [← hc.out] at hix hcb
      obtain ⟨c0, c1⟩ := hcb
      obtain ⟨S, hS⟩ := named ((blankZ zs).take j).sum
      rw [← hS.out] at d0 d1 ⊢
      have HS : Hid (((blankZ zs).take (j + 1)).sum = S + c) := by
        show _ = _; rw [sum_take_succ (by rw [HN.out]; exact hlt), hS.out, hc.out]
      have hlt' : (j : Int) < 512 := by omega
      go_wp2
      go_round
      case rel => exact ⟨j + 1, by omega, by go_num, by rw [HS.out]⟩
      case measure => simp [intOf]; omega
    · obtain rfl : j = 512 := by omega
      go_wp2
      go_ret
      exact ⟨ret_int (by rw [List.take_of_length_le (by rw [HN.out]; exact Nat.le_refl _)]; rfl), B2.out⟩

set_option maxHeartbeats 1000000 in
theorem hseal_any (zs : List Int) (w : World) (hl : zs.length = 512) (hb : Bytes zs) :
    Calls Tryz.prog 88 #[.agg (arr zs)] w fun e w' => e = .returned (.agg (arr (sealZ zs))) ∧ Below w.heap.size w w' := by
  have HL := Lib.hid hl; clear hl
  have HB := Lib.hid hb; clear hb
  have HT := Lib.hid hdrT
  go_enter Tryz.func88, Tryz.ntmps88
  go_wp2_with (first | (refine wpList_box_arr rfl 119 _ rfl zs rfl HB.out ?_; intro w1 h1 b1; have H1 := Lib.hid h1; clear h1; have B1 := Lib.hid b1; clear b1) | (refine wpList_alloc_arr rfl 119 5 512 HT.out rfl ?_; intro w2 h2 b2; have H2 := Lib.hid h2; have B2 := Lib.hid b2; clear h2 b2) | (refine wpList_load_arr rfl 119 5 512 HT.out _ rfl w.heap.size 0 rfl zs (H1.out.below B2.out H1.out.lt).row HL.out ?_))
  refine (hsum_any zs _ HL.out HB.out).mono ?_; rintro e w3 ⟨rfl, b3⟩
  have B3 := Lib.hid b3; clear b3
  obtain ⟨n, hn⟩ := named (sumZ zs)
  have FN : Hid (0 ≤ n ∧ n ≤ mx 6) := by show _ ∧ _; rw [hn.out]; exact sumZ_fits HB.out HL.out
  rw [← hn.out]
  go_wp2_with fail
  refine (fmt_ok n 7 6 _ (by decide) (by decide) (by decide) FN.out.1 FN.out.2).mono ?_; rintro e w4 ⟨rfl, h4, b4⟩
  have H4 := Lib.hid h4; clear h4
  have B4 := Lib.hid b4; clear b4
  have G01 : Hid (w.heap.size < w1.heap.size) := H1.out.lt
  have G12 : Hid (w1.heap.size < w2.heap.size) := H2.out.lt
  have G23 := Lib.hid B3.out.size
  have G34 : Hid (w3.heap.size < w4.heap.size) := (own_lt H4.out).2
  have A0 : Hid (ArrAt w4 w.heap.size 119 zs) := ((H1.out.below B2.out G01.out).below B3.out (Nat.lt_trans G01.out G12.out)).below B4.out (Nat.lt_of_lt_of_le (Nat.lt_trans G01.out G12.out) G23.out)
  have A1 : Hid (ArrAt w4 w1.heap.size 119 (zeros 512)) := (H2.out.below B3.out G12.out).below B4.out (Nat.lt_of_lt_of_le G12.out G23.out)
  have D4 : Hid (RowAt w4 w3.heap.size 0 (fld 6 n)) := RowAt.of_own H4.out (fld_bd 6 n)
  have N1 : Hid (w1.heap.size ≠ w.heap.size) := by have := G01.out; show _ ≠ _; omega
  have N2 : Hid (w3.heap.size ≠ w.heap.size) := by have := G01.out; have := G12.out; have := G23.out; show _ ≠ _; omega
  go_wp2_with (first | (refine wpList_copy_arr_str rfl _ _ 25 9 rfl 5 Tryz.underlying25 HT.out.elem w.heap.size 148 364 364 rfl _ rfl 119 zs A0.out (by decide) (by rw [HL.out]; decide) ?_; intro w5 h5 t5; have H5 := Lib.hid h5; have T5 := Lib.hid t5; clear h5 t5) | (refine wpList_copy_arr rfl _ _ 25 25 rfl 5 Tryz.underlying25 HT.out.elem w.heap.size 148 364 364 rfl (some ⟨w3.heap.size, 0, none⟩) 7 7 rfl (fld 6 n) (.of_row (D4.out.turned T5.out N2.out) (by rw [T5.out.size]; exact G34.out)) (fld_length _ _) 119 (blankZ zs) H5.out (by rw [blank_length HL.out]; decide) ?_; intro w6 h6 t6; have H6 := Lib.hid h6; have T6 := Lib.hid t6; clear h6 t6) | (refine wpList_load_arr rfl 119 5 512 HT.out _ rfl w.heap.size 0 rfl (sealZ zs) (by have := H6.out; rw [hn.out, List.take_of_length_le (by rw [fld_length]; decide), seal_two zs HL.out] at this; exact this.row) (seal_length HL.out) ?_) | (refine wpList_store_arr rfl 119 5 512 HT.out _ _ rfl w1.heap.size rfl (sealZ zs) rfl (seal_bytes HB.out) (seal_length HL.out) 119 (zeros 512) ((A1.out.turned T5.out N1.out).turned T6.out N1.out) (zeros_length _) ?_; intro w7 h7 t7; have H7 := Lib.hid h7; have T7 := Lib.hid t7; clear h7 t7))
  have L0 := Nat.le_of_lt G01.out
  have L1 := Nat.le_of_lt G12.out
  exact bodyPost_ret (results_arr Tryz.results88 HT.out _ w1.heap.size rfl _ (sealZ zs) H7.out (seal_length HL.out)) rfl ⟨rfl,
    B1.out.trans ((B2.out.mono L0).trans ((B3.out.mono (Nat.le_trans L0 L1)).trans ((B4.out.mono (Nat.le_trans (Nat.le_trans L0 L1) G23.out)).trans ((T5.out.below (Nat.le_refl _)).trans ((T6.out.below (Nat.le_refl _)).trans (T7.out.below L0))))))⟩

set_option maxHeartbeats 1000000 in
theorem conv_ok (a : Option Addr) (cap : Nat) (zs : List Int) (w : World) (hl : zs.length = 512) (hb : BytesIn w a zs) :
    Calls Tryz.prog 87 #[.slice a 512 cap] w fun e w' => e = .returned (.tuple #[.agg (arr zs), .int .i64 0]) ∧ Below w.heap.size w w' := by
  obtain ⟨b, off, rfl, hlt, hr⟩ : ∃ b off, a = some ⟨b, off, none⟩ ∧ b < w.heap.size ∧ RowAt w b off zs := by
    rcases hb with hb | hb
    · rw [hb] at hl; cases hl
    · exact hb
  have HL := Lib.hid hl; clear hl hb
  have HR := Lib.hid hr; clear hr
  have HLT := Lib.hid hlt; clear hlt
  have HT := Lib.hid hdrT
  have ha := fun w => run_arrayAt (w := w) HT.out (some ⟨b, off, none⟩) 512 cap (Nat.le_refl _)
  go_enter Tryz.func87, Tryz.ntmps87
  go_wp2_with (first | (refine wpList_alloc_arr rfl 119 5 512 HT.out rfl ?_; intro w1 h1 b1; have H1 := Lib.hid h1; have B1 := Lib.hid b1; clear h1 b1) | (refine wpList_load_arr rfl 119 5 512 HT.out _ rfl b off rfl zs (HR.out.below B1.out HLT.out) HL.out ?_) | (refine wpList_store_arr rfl 119 5 512 HT.out _ _ rfl w.heap.size rfl zs rfl HR.out.2 HL.out 119 (zeros 512) H1.out (zeros_length _) ?_; intro w2 h2 t2; have H2 := Lib.hid h2; have T2 := Lib.hid t2; clear h2 t2))
  exact bodyPost_ret (results_arr_tmp Tryz.results87 HT.out _ w.heap.size rfl _ zs H2.out HL.out) rfl ⟨rfl, B1.out.trans (T2.out.below (Nat.le_refl _))⟩

set_option maxHeartbeats 1000000 in
theorem conv_bad (a : Option Addr) (len cap : Nat) (w : World) (hl : ¬ len = 512) :
    Calls Tryz.prog 87 #[.slice a len cap] w fun e w' => e = .returned (.tuple #[.agg (arr (zeros 512)), .int .i64 2]) ∧ Below w.heap.size w w' := by
  have h2 : ((len : Int) == 512) = false := by simp; omega
  have h3 : ((len : Int) != 512) = true := by simp; omega
  have HT := Lib.hid hdrT
  go_enter Tryz.func87, Tryz.ntmps87
  go_wp2_with (first | (refine wpList_alloc_arr rfl 119 5 512 HT.out rfl ?_; intro w1 h1 b1; have H1 := Lib.hid h1; have B1 := Lib.hid b1; clear h1 b1) | (refine wpList_build_arr rfl 119 5 512 HT.out rfl ?_) | (refine wpList_store_arr rfl 119 5 512 HT.out _ _ rfl w.heap.size rfl (zeros 512) rfl (zeros_bytes _) (zeros_length _) 119 (zeros 512) H1.out (zeros_length _) ?_; intro w2 h2 t2; have H2 := Lib.hid h2; have T2 := Lib.hid t2; clear h2 t2))
  exact bodyPost_ret (results_arr_tmp Tryz.results87 HT.out _ w.heap.size rfl _ (zeros 512) H2.out (zeros_length _)) rfl ⟨rfl, B1.out.trans (T2.out.below (Nat.le_refl _))⟩

end Go.Proofs.YtmbimnnacjbdfaaGreatDoor.Chk
/-
  A region that draws its order and holds calls that make memory: one walk of the text's order serves every order, where each operation yields one value in every world of a class, and leaves one of it.
-/
namespace Go.Proofs.YtmbimnnacjbdfaaGreatDoor
open Go.RowKit

/-- a world of the class S -/
structure Of (S : World → Prop) where
  w : World
  h : S w

theorem wp_region_class {P : Program} {id : Nat} {Q : Exit → Act → World → Prop} {a : Act} {w : World} {l : List Oper} {S : World → Prop} (hm : P.follows .mixedOrders = true) (hB : Region.lexB .any l.toArray = true) (hS : S w.drew)
    (h : Nonempty (Of S) → wpQuiet P l.toArray (fun w' => ∃ q : Of S, w' = q.w) (fun a' => ∀ w', (∃ q : Of S, w' = q.w) → Q .normal a' w') l a) : (Code.region id l.toArray true).wp P Q a w :=
  wp_region_quiet (C := fun w' => ∃ q : Of S, w' = q.w) hm hB ⟨⟨w.drew, hS⟩, rfl⟩ (by simpa using h ⟨⟨w.drew, hS⟩⟩)

/-- a call that hands back v and leaves what lay there, met in a world of the class -/
theorem Calls.in_class {P : Program} {f : FuncId} {args : Array Value} {S : World → Prop} {q : Of S} {v : Value}
    (h : Calls P f args q.w fun e w' => e = .returned v ∧ Below q.w.heap.size q.w w') (hS : ∀ w', Below q.w.heap.size q.w w' → S q.w → S w') :
    Calls P f args q.w fun e w'' => e = .returned v ∧ ∃ q' : Of S, w'' = q'.w :=
  h.mono fun _ w' h => ⟨h.1, ⟨w', hS w' h.2 q.h⟩, rfl⟩
/-- the same, where the contract asks something of the class's worlds -/
theorem Calls.in_classS {P : Program} {f : FuncId} {args : Array Value} {S : World → Prop} {q : Of S} {v : Value}
    (h : ∀ w, S w → Calls P f args w fun e w' => e = .returned v ∧ Below w.heap.size w w') (hS : ∀ w', Below q.w.heap.size q.w w' → S q.w → S w') :
    Calls P f args q.w fun e w'' => e = .returned v ∧ ∃ q' : Of S, w'' = q'.w := Calls.in_class (h q.w q.h) hS
end Go.Proofs.YtmbimnnacjbdfaaGreatDoor
/-
  Walks of layer 3: Seal.
-/
namespace Go.Proofs.YtmbimnnacjbdfaaGreatDoor.Chk
open Go.RowKit
open Oct

set_option maxHeartbeats 1000000 in
theorem seal_ok (a : Option Addr) (cap : Nat) (zs : List Int) (w : World) (hl : zs.length = 512) (hb : BytesIn w a zs) (hz : Bytes zs) :
    Calls Tryz.prog 45 #[.slice a 512 cap] w (fun e w' => ∃ b : Nat, e = .returned (.tuple #[.slice (some ⟨b, 0, none⟩) 512 512, .int .i64 0]) ∧ ArrAt w' b 119 (sealZ zs) ∧ w.heap.size ≤ b ∧ Below w.heap.size w w') := by
  have HL := Lib.hid hl; clear hl
  have HB := Lib.hid hb; clear hb
  have HZ := Lib.hid hz; clear hz
  have HT := Lib.hid hdrT
  go_enter Tryz.func45, Tryz.ntmps45
  go_wp2_with fail
  refine (conv_ok a cap zs _ HL.out HB.out).mono ?_; rintro e w1 ⟨rfl, b1⟩
  have B1 := Lib.hid b1; clear b1
  go_wp2_with (first | (refine wpList_alloc_arr rfl 119 5 512 HT.out rfl ?_; intro w2 h2 b2; have H2 := Lib.hid h2; have B2 := Lib.hid b2; clear h2 b2) | (refine wpList_load_arr rfl 119 5 512 HT.out _ rfl w1.heap.size 0 rfl zs H3.out.row HL.out ?_) | (refine wpList_store_arr rfl 119 5 512 HT.out _ _ rfl w1.heap.size rfl zs rfl HZ.out HL.out 119 (zeros 512) H2.out (zeros_length _) ?_; intro w3 h3 t3; have H3 := Lib.hid h3; have T3 := Lib.hid t3; clear h3 t3))
  refine (hseal_any zs _ HL.out HZ.out).mono ?_; rintro e w4 ⟨rfl, b4⟩
  have B4 := Lib.hid b4; clear b4
  have B : Hid (Below w.heap.size w w4) := by
    have B14 : Below w1.heap.size w1 w3 := B2.out.trans (T3.out.below (Nat.le_refl _))
    exact B1.out.trans ((B14.mono B1.out.size).trans (B4.out.mono (Nat.le_trans B1.out.size B14.size)))
  have H4 : Hid (ArrAt w4 w1.heap.size 119 zs) := H3.out.below B4.out H3.out.lt
  go_wp2_with (refine wpList_store_arr rfl 119 5 512 HT.out _ _ rfl w1.heap.size rfl (sealZ zs) rfl (seal_bytes HZ.out) (seal_length HL.out) 119 zs H4.out HL.out ?_; intro w5 h5 t5; have H5 := Lib.hid h5; have T5 := Lib.hid t5; clear h5 t5)
  go_ret2
  exact ⟨_, rfl, H5.out, B1.out.size, B.out.trans (T5.out.below B1.out.size)⟩

set_option maxHeartbeats 1000000 in
theorem seal_bad (a : Option Addr) (len cap : Nat) (w : World) (hl : ¬ len = 512) :
    Calls Tryz.prog 45 #[.slice a len cap] w fun e w' => e = .returned (.tuple #[.slice none 0 0, .int .i64 2]) ∧ Below w.heap.size w w' := by
  have HL := Lib.hid hl; clear hl
  have HT := Lib.hid hdrT
  go_enter Tryz.func45, Tryz.ntmps45
  go_wp2_with fail
  refine (conv_bad a len cap _ HL.out).mono ?_; rintro e w1 ⟨rfl, b1⟩
  have B1 := Lib.hid b1; clear b1
  go_wp2_with (first | (refine wpList_alloc_arr rfl 119 5 512 HT.out rfl ?_; intro w2 h2 b2; have H2 := Lib.hid h2; have B2 := Lib.hid b2; clear h2 b2) | (refine wpList_store_arr rfl 119 5 512 HT.out _ _ rfl w1.heap.size rfl (zeros 512) rfl (zeros_bytes _) (zeros_length _) 119 (zeros 512) H2.out (zeros_length _) ?_; intro w3 h3 t3; have H3 := Lib.hid h3; have T3 := Lib.hid t3; clear h3 t3))
  go_ret2
  exact ⟨rfl, B1.out.trans ((B2.out.trans (T3.out.below (Nat.le_refl _))).mono B1.out.size)⟩
end Go.Proofs.YtmbimnnacjbdfaaGreatDoor.Chk
/-
  Walks of the reference of layer 3, of the statements' own 'block', and of their example.
-/
namespace Go.Proofs.YtmbimnnacjbdfaaGreatDoor.Chk
open Go.RowKit
open Oct

theorem blank_at (zs : List Int) (j : Nat) (hl : zs.length = 512) : (blankZ zs).getD j 0 = if 148 ≤ j ∧ j < 156 then 32 else zs.getD j 0 := by
  unfold blankZ lay
  have ht : (zs.take 148).length = 148 := by rw [List.length_take, hl]; rfl
  have h8 := sp8_length
  simp only [List.getD_eq_getElem?_getD]
  by_cases h1 : j < 148
  · rw [List.getElem?_append_left (by omega), if_neg (by omega), List.getElem?_take, if_pos h1]
  · rw [List.getElem?_append_right (by omega), ht]
    by_cases h2 : j < 156
    · rw [List.getElem?_append_left (by omega), if_pos (by omega)]
      have : ∀ i, i < 8 → (sp8[i]?).getD 0 = 32 := by decide
      exact this _ (by omega)
    · rw [List.getElem?_append_right (by omega), if_neg (by omega), List.getElem?_drop, h8, show 148 + 8 + (j - 148 - 8) = j by omega]

set_option maxHeartbeats 1000000 in
theorem rsum_ok (a : Option Addr) (cap : Nat) (zs : List Int) (w : World) (hl : zs.length = 512) (hb : BytesIn w a zs) :
    Calls Tryz.prog 99 #[.slice a 512 cap] w fun e w' => e = .returned (.tuple #[.int .i64 (sumZ zs), .int .i64 0]) ∧ w = w' := by
  obtain ⟨b, off, rfl, _, hr⟩ : ∃ b off, a = some ⟨b, off, none⟩ ∧ b < w.heap.size ∧ RowAt w b off zs := by
    rcases hb with hb | hb
    · rw [hb] at hl; cases hl
    · exact hb
  have hbb : Bytes zs := hr.2
  have BD := Lib.hid (take_sum_bd (blank_bytes hbb))
  have HN := Lib.hid (blank_length hl)
  have HA := Lib.hid (fun j => blank_at zs j hl)
  have HL := Lib.hid hl
  have HR := Lib.hid hr
  clear hl hb hr hbb
  go_enter Tryz.func99, Tryz.ntmps99
  go_wp2
  go_loop [4, 5] (fun n i => ∃ j : Nat, j ≤ 512 ∧ i = .int .i64 j ∧ n = .int .i64 ((blankZ zs).take j).sum) (fun _ i => 512 - (intOf i).toNat)
  case atStart => exact ⟨0, Nat.zero_le _, rfl, rfl⟩
  case round =>
    obtain ⟨j, hj, rfl, rfl⟩ := hrel
    obtain ⟨d0, d1⟩ := BD.out j
    by_cases hlt : j < 512
    · obtain ⟨c, hc, c0, c1, hcj⟩ := HR.out.get j (by rw [HL.out]; exact hlt)
      have HC := Lib.hid hc; clear hc
      obtain ⟨S, hS⟩ := named ((blankZ zs).take j).sum
      rw [← hS.out] at d0 d1 ⊢
      have hlt' : (j : Int) < 512 := by omega
      by_cases h1 : 148 ≤ j
      · have h1' : (148 : Int) ≤ j := by omega
        by_cases h2 : j < 156
        · have h2' : (j : Int) < 156 := by omega
          have HS : Hid (((blankZ zs).take (j + 1)).sum = S + 32) := by
            show _ = _; rw [sum_take_succ (by rw [HN.out]; exact hlt), hS.out, HA.out, if_pos ⟨h1, h2⟩]
          go_wp2
          go_round
          case rel => exact ⟨j + 1, by omega, by go_num, by rw [HS.out]⟩
          case measure => simp [intOf]; omega
        · have h2' : ¬ (j : Int) < 156 := by omega
          have HS : Hid (((blankZ zs).take (j + 1)).sum = S + c) := by
            show _ = _; rw [sum_take_succ (by rw [HN.out]; exact hlt), hS.out, HA.out, if_neg (by omega), HC.out]
          go_wp2
          go_round
          case rel => exact ⟨j + 1, by omega, by go_num, by rw [HS.out]⟩
          case measure => simp [intOf]; omega
      · have h1' : ¬ (148 : Int) ≤ j := by omega
        have HS : Hid (((blankZ zs).take (j + 1)).sum = S + c) := by
          show _ = _; rw [sum_take_succ (by rw [HN.out]; exact hlt), hS.out, HA.out, if_neg (by omega), HC.out]
        go_wp2
        go_round
        case rel => exact ⟨j + 1, by omega, by go_num, by rw [HS.out]⟩
        case measure => simp [intOf]; omega
    · obtain rfl : j = 512 := by omega
      go_wp2
      go_ret2
      exact ⟨by rw [List.take_of_length_le (by rw [HN.out]; exact Nat.le_refl _)]; rfl, rfl⟩

set_option maxHeartbeats 1000000 in
theorem rsum_bad (a : Option Addr) (len cap : Nat) (w : World) (hl : ¬ len = 512) :
    Calls Tryz.prog 99 #[.slice a len cap] w fun e w' => e = .returned (.tuple #[.int .i64 0, .int .i64 2]) ∧ w = w' := by
  have h2 : ((len : Int) == 512) = false := by simp; omega
  have h3 : ((len : Int) != 512) = true := by simp; omega
  clear hl
  go_enter Tryz.func99, Tryz.ntmps99
  go_wp2
  go_ret2
  exact ⟨rfl, rfl⟩

set_option maxHeartbeats 1000000 in
theorem rseal_bad (a : Option Addr) (len cap : Nat) (w : World) (hl : ¬ len = 512) :
    Calls Tryz.prog 56 #[.slice a len cap] w fun e w' => e = .returned (.tuple #[.slice none 0 0, .int .i64 2]) ∧ w = w' := by
  go_enter Tryz.func56, Tryz.ntmps56
  go_wp2_with fail
  refine (rsum_bad a len cap _ hl).mono ?_; rintro e w1 ⟨rfl, rfl⟩
  go_wp2
  go_ret2
  exact ⟨rfl, rfl⟩

set_option maxHeartbeats 1000000 in
theorem rseal_okB (a : Option Addr) (cap : Nat) (zs : List Int) (w : World) (hl : zs.length = 512) (hb : BytesIn w a zs) (hc : 512 ≤ cap) :
    Calls Tryz.prog 56 #[.slice a 512 cap] w (RetB (sealZ zs) 512 0 w) := by
  obtain ⟨b, off, rfl, hlt, hr⟩ : ∃ b off, a = some ⟨b, off, none⟩ ∧ b < w.heap.size ∧ RowAt w b off zs := by
    rcases hb with hb | hb
    · rw [hb] at hl; cases hl
    · exact hb
  have hz : Bytes zs := hr.2
  have HL := Lib.hid hl; clear hl
  have HB := Lib.hid hb; clear hb
  have HR := Lib.hid hr; clear hr
  have HZ := Lib.hid hz; clear hz
  have HLT := Lib.hid hlt; clear hlt
  obtain ⟨i0, HI⟩ := info_u8 Tryz.info5
  have HT := Lib.hid hdrT
  have c1 : ¬ cap = 0 := by omega
  have c2 : ¬ cap = 156 := by omega
  have c3 : ¬ cap < 148 := by omega
  have c4 : 148 ≤ cap := by omega
  go_enter Tryz.func56, Tryz.ntmps56
  go_wp2_with fail
  refine (rsum_ok _ cap zs _ HL.out HB.out).mono ?_; rintro e w1 ⟨rfl, rfl⟩
  obtain ⟨n, hn⟩ := named (sumZ zs)
  have FN : Hid (0 ≤ n ∧ n ≤ mx 6) := by show _ ∧ _; rw [hn.out]; exact sumZ_fits HZ.out HL.out
  rw [← hn.out]
  go_wp2_with fail
  refine (rfmt_ok n 7 6 _ (by decide) (by decide) (by decide) FN.out.1 FN.out.2).mono ?_; rintro e w1 ⟨b1, cp1, rfl, hrow1, hlt1, hb1⟩
  have R1 := Lib.hid hrow1; have B1 := Lib.hid hb1; have L1 := Lib.hid hlt1; clear hrow1 hb1 hlt1
  have Z1 := Lib.hid B1.out.size
  have D1 : Hid (BytesIn w1 (some ⟨b1, 0, none⟩) (fld 6 n)) := .of_row R1.out L1.out
  have X1 : Hid (BytesIn w1 (some ⟨b, off, none⟩) (zs.take 148)) := .inr ⟨b, off, rfl, Nat.lt_of_lt_of_le HLT.out Z1.out, (HR.out.below B1.out HLT.out).take 148⟩
  have Y1 : Hid (BytesIn w1 (some ⟨b, off + 156, none⟩) (zs.drop 156)) := .inr ⟨b, off + 156, rfl, Nat.lt_of_lt_of_le HLT.out Z1.out, (HR.out.below B1.out HLT.out).drop 156⟩
  go_wp2_with (first | (refine wpList_lit_none rfl 25 5 rfl Tryz.underlying25 HT.out.elem ?_; intro w2 h2 b2; have O2 := Lib.hid h2; have B2 := Lib.hid b2; clear h2 b2; have Z2 := Lib.hid B2.out.size) | (at_builtin; refine wpList_append_in rfl _ _ 25 rfl w1.heap.size 5 i0 Tryz.underlying25 HI (.slice (some ⟨w1.heap.size, 0, none⟩) 0 0) 0 [] rfl O2.out (some ⟨b, off, none⟩) 148 cap (zs.take 148) rfl (X1.out.below B2.out) (by rw [List.length_take, HL.out]; rfl) (by decide) Z2.out ?_; intro v3 w3 h3 b3; have O3 := Lib.hid h3; have B3 := Lib.hid (B2.out.trans b3); clear h3 b3; have Z3 := Lib.hid B3.out.size) | (at_builtin; refine wpList_append_in rfl _ _ 25 rfl w1.heap.size 5 i0 Tryz.underlying25 HI v3 _ _ rfl O3.out (some ⟨b1, 0, none⟩) 7 cp1 (fld 6 n) rfl (D1.out.below B3.out) (fld_length _ _) (by decide) Z3.out ?_; intro v4 w4 h4 b4; have O4 := Lib.hid h4; have B4 := Lib.hid (B3.out.trans b4); clear h4 b4; have Z4 := Lib.hid B4.out.size) | (refine wpList_lit_one rfl 25 5 _ rfl Tryz.underlying25 Tryz.info5 32 rfl (by decide) ?_; intro w5 h5 b5; have A5 := Lib.hid h5; have O5 := Lib.hid (own_keep O4.out b5 (Nat.le_refl _)); have B5 := Lib.hid (B4.out.trans (b5.mono Z4.out)); clear h5 b5; have Z5 := Lib.hid B5.out.size) | (at_builtin; refine wpList_append_in rfl _ _ 25 rfl w1.heap.size 5 i0 Tryz.underlying25 HI v4 _ _ rfl O5.out (some ⟨w4.heap.size, 0, none⟩) 1 1 [32] rfl A5.out.bytes rfl (by decide) Z5.out ?_; intro v6 w6 h6 b6; have O6 := Lib.hid h6; have B6 := Lib.hid (B5.out.trans b6); clear h6 b6; have Z6 := Lib.hid B6.out.size) | (at_builtin; refine wpList_append_in rfl _ _ 25 rfl w1.heap.size 5 i0 Tryz.underlying25 HI v6 _ _ rfl O6.out (some ⟨b, off + 156, none⟩) 356 (cap - 156) (zs.drop 156) rfl (Y1.out.below B6.out) (by rw [List.length_drop, HL.out]) (by decide) Z6.out ?_; intro v7 w7 h7 b7; have O7 := Lib.hid h7; have B7 := Lib.hid (B6.out.trans b7); clear h7 b7))
  have hz : [] ++ zs.take 148 ++ fld 6 n ++ [32] ++ zs.drop 156 = sealZ zs := by
    rw [hn.out]; unfold sealZ lay fieldZ; simp [fld_length]
  have o7 := O7.out
  rw [hz] at o7
  obtain ⟨g, c, rfl, _, hg, hrow, hcc, hcm⟩ := own_form o7 (by decide) (seal_bytes HZ.out)
  have G7 := Lib.hid hg; have R7 := Lib.hid hrow; have C7 := Lib.hid hcc; have M7 := Lib.hid hcm
  clear o7 hrow hz hg hcc hcm
  go_ret2
  exact ⟨_, _, rfl, R7.out, G7.out, B1.out.trans (B7.out.mono Z1.out), C7.out, M7.out⟩
theorem rseal_ok (a : Option Addr) (cap : Nat) (zs : List Int) (w : World) (hl : zs.length = 512) (hb : BytesIn w a zs) (hc : 512 ≤ cap) :
    Calls Tryz.prog 56 #[.slice a 512 cap] w (RetBytes (sealZ zs) 512 0 w) := (rseal_okB a cap zs w hl hb hc).mono fun _ _ h => h.ret

theorem str_ne {xs ys : List Int} (hx : Bytes xs) (hy : Bytes ys) (h : ¬ xs = ys) : ¬ strOfNums xs = strOfNums ys := fun e => h (by
  rw [← numsOf_strOfNums hx, ← numsOf_strOfNums hy, e])
end Go.Proofs.YtmbimnnacjbdfaaGreatDoor.Chk
