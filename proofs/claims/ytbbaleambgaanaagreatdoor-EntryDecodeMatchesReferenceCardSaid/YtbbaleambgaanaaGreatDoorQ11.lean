/- Rows4 UstTab ChkProg Region ChkSeal Takes -/
import Derived.Test.YtbbaleambgaanaaGreatDoorQ5
import Derived.Laws.CopyOwn
import Derived.Test.YtbbaleambgaanaaGreatDoorQ10
import Derived.Test.YtbbaleambgaanaaGreatDoorRows
import Derived.Test.YtbbaleambgaanaaGreatDoorQ3
import Derived.Test.YtbbaleambgaanaaGreatDoorQ9
import Derived.Test.YtbbaleambgaanaaGreatDoorQ0
import Derived.BigQuiet
import Derived.Test.YtbbaleambgaanaaGreatDoorQ4
namespace Go.Proofs.YtbbaleambgaanaaGreatDoor
open Go.RowKit
theorem run_callFunc_body {P : Program} {f : FuncId} {fn : Func} (hf : P.funcs[f]? = some fn) (hn : (fn.name == "runtime.NumGoroutine") = false) (hb : fn.body.isNone = false) (args : Array Value) (w : World) :
    (callFunc f args).run P w = .ok (.enter f args) w := by
  have h1 : fn.name ≠ "runtime.NumGoroutine" := by simpa using hn
  have h2 : ¬ fn.body = none := by intro h; simp [h] at hb
  simp [callFunc, hf, h1, h2]
section
variable {P : Program} {w : World} {ops : Array Oper} {rest : List Oper} {o : Oper} {a : Act} {Q : Exit → Act → World → Prop}
theorem run_load_part {T : TypeId} {n : Nat} (hT : ObjT P T n) (b off : Nat) (vs : List Value) (hl : vs.length = n) (hr : ∀ j u, vs[j]? = some u → w.cell? ⟨b, off + j, none⟩ = some u) :
    (loadVar T ⟨b, off, none⟩).run P w = .ok (.agg vs.toArray) w := by
  obtain ⟨⟨fs, h1⟩, hs⟩ := hT
  have hll := run_loadCells_list (P := P) w ⟨b, off, none⟩ vs (fun j u hj => by rw [add_plain']; exact hr j u hj)
  rw [hl] at hll
  cases hq : P.info? T with
  | none => simp [hq] at hs
  | some i =>
    have hs : i.size = n := by simpa [hq] using hs
    have hagg : (isAgg T).run P w = .ok true w := by
      unfold isAgg
      rw [Sem.run_bind, run_underlying h1 w]
      simp
    simp [loadVar, Sem.run_bind, hagg, sizeOf, typeInfo, hq, hs, hll]
theorem wpList_load_part (hgd : o.guard = none) (T : TypeId) (n : Nat) (hT : ObjT P T n) (x : Operand) (ho : o.op = .load T x) (b off : Nat) (hx : a.eval x = .pointer (some ⟨b, off, none⟩))
    (vs : List Value) (hl : vs.length = n) (hr : ∀ j u, vs[j]? = some u → w.cell? ⟨b, off + j, none⟩ = some u) (K : wpList P ops Q rest (a.put o.dst (.agg vs.toArray)) w) : wpList P ops Q (o :: rest) a w := by
  refine wpList_plain hgd fun K' hK => ?_
  unfold Oper.wp execOp
  simp only [ho, hx, Instr.loadAt, Instr.sureAddr, Sem.run_bind, Sem.run_pure, Result.andThen_ok, run_load_part hT b off vs hl hr]
  exact hK _ _ K
theorem step_copy_arr {K : Act → World → Prop} {E : Prop} (hgd : o.guard = none) (d x : Operand) (dT sT : TypeId) (ho : o.op = .call { callee := .builtin .copy, args := #[d, x], argTypes := #[dT, sT] })
    (e : TypeId) (hT : P.underlying dT = some (.slice e)) (he : (P.info? e).map (·.size) = some 1)
    (g off n cap : Nat) (hd : a.eval d = .slice (some ⟨g, off, none⟩) n cap) (b : Option Addr) (m c : Nat) (hx : a.eval x = .slice b m c) (ys : List Int) (hy : BytesIn w b ys) (hm : ys.length = m)
    (T : TypeId) (zs : List Int) (hg : ArrAt w g T zs) (hfit : off + n ≤ zs.length)
    (k : ∀ w', ArrAt w' g T (lay zs off (ys.take n)) → Turned w w' g → K (a.put o.dst (goInt (ys.take n).length)) w') :
    if Region.wanted o (yielded ops a.tmps) = true then Oper.wp P o a w K Q else E := by
  have hw : Region.wanted o (yielded ops a.tmps) = true := by simp [Region.wanted, hgd]
  rw [if_pos hw]
  have hmn : (ys.take n).length = Nat.min m n := by rw [List.length_take, hm]; exact Nat.min_comm _ _
  by_cases h0 : Nat.min m n = 0
  · have e0 : ys.take n = [] := List.eq_nil_of_length_eq_zero (hmn.trans h0)
    have hrun := run_copy_none (P := P) w dT sT o.type e (some ⟨g, off, none⟩) b n cap m c hT he h0
    unfold Oper.wp
    simp [execOp, ho, resolve, invoke, builtin, hd, hx, hrun, Result.andThen]
    have := k w (by rw [e0]; simpa [lay] using hg) ⟨arr zs, (setRow_self w g (arr zs) T (0, 0) hg.1).symm⟩
    rw [e0] at this
    exact this
  · rcases hy with hy | ⟨b', off', rfl, _, hr⟩
    · exfalso; apply h0; rw [← hm, hy]; exact Nat.zero_min _
    · have hrun := run_copy_row (P := P) w dT sT o.type e g off n cap ⟨b', off', none⟩ m c (arr zs) T ((ys.take n).map (Value.int .u8)) hT he hg.1 (by rw [List.length_map]; exact hmn)
        (fun j v hj => hr.news j v (by
          rw [List.map_take, List.getElem?_take] at hj
          split at hj
          · exact hj
          · cases hj)) (by rw [List.length_map, arr_size, List.length_take]; omega) (one_map _ _)
      rw [List.length_map] at hrun
      unfold Oper.wp
      simp [execOp, ho, resolve, invoke, builtin, hd, hx, hrun, Result.andThen]
      rw [Oper.upon_value]
      have hk := k _ (by have := setRow_lay w g T zs off (ys.take n) hg (Bytes.take hr.2 n); simpa using this) ⟨_, rfl⟩
      simpa using hk
end
end Go.Proofs.YtbbaleambgaanaaGreatDoor
namespace Go.Proofs.YtbbaleambgaanaaGreatDoor.Ust
open Go.RowKit
open Oct Cst Chk
abbrev rowV (off wd : Int) (f p : FuncId) : List Value := [.int .i64 off, .int .i64 wd, .func (.func f) #[] #[], .func (.func p) #[] #[]]
def tab : List (Nat × Nat × FuncId × FuncId) :=
  [(0, 100, 100, 101), (100, 8, 102, 103), (108, 8, 104, 105), (116, 8, 104, 105),
   (124, 12, 106, 107), (136, 12, 104, 105), (156, 1, 108, 109), (157, 100, 110, 111),
   (257, 6, 112, 105), (263, 2, 113, 105), (329, 8, 104, 105), (337, 8, 104, 105), (345, 155, 114, 115)]
def rowOf (r : Nat × Nat × FuncId × FuncId) : List Value := rowV r.1 r.2.1 r.2.2.1 r.2.2.2
def tabV : List Value := tab.flatMap rowOf
def rowT (j : Nat) : Nat × Nat × FuncId × FuncId := tab.getD j (0, 0, 0, 0)
def fmtT (j : Nat) : FuncId := (rowT j).2.2.1
def prsT (j : Nat) : FuncId := (rowT j).2.2.2
theorem tab_row {j : Nat} (hj : j < 13) : ∀ i u, (rowV (offT j) (wdT j) (fmtT j) (prsT j))[i]? = some u → tabV[j * 4 + i]? = some u := by
  intro i u hu
  have hi : i < 4 := by
    rcases Nat.lt_or_ge i 4 with h | h
    · exact h
    · rw [List.getElem?_eq_none (by simpa using h)] at hu; cases hu
  rw [← hu]
  match j, hj, i, hi with
  | 0, _, 0, _ | 0, _, 1, _ | 0, _, 2, _ | 0, _, 3, _ => rfl
  | 1, _, 0, _ | 1, _, 1, _ | 1, _, 2, _ | 1, _, 3, _ => rfl
  | 2, _, 0, _ | 2, _, 1, _ | 2, _, 2, _ | 2, _, 3, _ => rfl
  | 3, _, 0, _ | 3, _, 1, _ | 3, _, 2, _ | 3, _, 3, _ => rfl
  | 4, _, 0, _ | 4, _, 1, _ | 4, _, 2, _ | 4, _, 3, _ => rfl
  | 5, _, 0, _ | 5, _, 1, _ | 5, _, 2, _ | 5, _, 3, _ => rfl
  | 6, _, 0, _ | 6, _, 1, _ | 6, _, 2, _ | 6, _, 3, _ => rfl
  | 7, _, 0, _ | 7, _, 1, _ | 7, _, 2, _ | 7, _, 3, _ => rfl
  | 8, _, 0, _ | 8, _, 1, _ | 8, _, 2, _ | 8, _, 3, _ => rfl
  | 9, _, 0, _ | 9, _, 1, _ | 9, _, 2, _ | 9, _, 3, _ => rfl
  | 10, _, 0, _ | 10, _, 1, _ | 10, _, 2, _ | 10, _, 3, _ => rfl
  | 11, _, 0, _ | 11, _, 1, _ | 11, _, 2, _ | 11, _, 3, _ => rfl
  | 12, _, 0, _ | 12, _, 1, _ | 12, _, 2, _ | 12, _, 3, _ => rfl
theorem fmt_enter {j : Nat} (hj : j < 13) (args : Array Value) (w : World) : (callFunc (fmtT j) args).run Tryz.prog w = .ok (.enter (fmtT j) args) w := by
  match j, hj with
  | 0, _ => exact run_callFunc_body Tryz.func100 (by kernel_rfl) (by kernel_rfl) args w
  | 1, _ => exact run_callFunc_body Tryz.func102 (by kernel_rfl) (by kernel_rfl) args w
  | 2, _ => exact run_callFunc_body Tryz.func104 (by kernel_rfl) (by kernel_rfl) args w
  | 3, _ => exact run_callFunc_body Tryz.func104 (by kernel_rfl) (by kernel_rfl) args w
  | 4, _ => exact run_callFunc_body Tryz.func106 (by kernel_rfl) (by kernel_rfl) args w
  | 5, _ => exact run_callFunc_body Tryz.func104 (by kernel_rfl) (by kernel_rfl) args w
  | 6, _ => exact run_callFunc_body Tryz.func108 (by kernel_rfl) (by kernel_rfl) args w
  | 7, _ => exact run_callFunc_body Tryz.func110 (by kernel_rfl) (by kernel_rfl) args w
  | 8, _ => exact run_callFunc_body Tryz.func112 (by kernel_rfl) (by kernel_rfl) args w
  | 9, _ => exact run_callFunc_body Tryz.func113 (by kernel_rfl) (by kernel_rfl) args w
  | 10, _ => exact run_callFunc_body Tryz.func104 (by kernel_rfl) (by kernel_rfl) args w
  | 11, _ => exact run_callFunc_body Tryz.func104 (by kernel_rfl) (by kernel_rfl) args w
  | 12, _ => exact run_callFunc_body Tryz.func114 (by kernel_rfl) (by kernel_rfl) args w
theorem prs_enter {j : Nat} (hj : j < 13) (args : Array Value) (w : World) : (callFunc (prsT j) args).run Tryz.prog w = .ok (.enter (prsT j) args) w := by
  match j, hj with
  | 0, _ => exact run_callFunc_body Tryz.func101 (by kernel_rfl) (by kernel_rfl) args w
  | 1, _ => exact run_callFunc_body Tryz.func103 (by kernel_rfl) (by kernel_rfl) args w
  | 2, _ => exact run_callFunc_body Tryz.func105 (by kernel_rfl) (by kernel_rfl) args w
  | 3, _ => exact run_callFunc_body Tryz.func105 (by kernel_rfl) (by kernel_rfl) args w
  | 4, _ => exact run_callFunc_body Tryz.func107 (by kernel_rfl) (by kernel_rfl) args w
  | 5, _ => exact run_callFunc_body Tryz.func105 (by kernel_rfl) (by kernel_rfl) args w
  | 6, _ => exact run_callFunc_body Tryz.func109 (by kernel_rfl) (by kernel_rfl) args w
  | 7, _ => exact run_callFunc_body Tryz.func111 (by kernel_rfl) (by kernel_rfl) args w
  | 8, _ => exact run_callFunc_body Tryz.func105 (by kernel_rfl) (by kernel_rfl) args w
  | 9, _ => exact run_callFunc_body Tryz.func105 (by kernel_rfl) (by kernel_rfl) args w
  | 10, _ => exact run_callFunc_body Tryz.func105 (by kernel_rfl) (by kernel_rfl) args w
  | 11, _ => exact run_callFunc_body Tryz.func105 (by kernel_rfl) (by kernel_rfl) args w
  | 12, _ => exact run_callFunc_body Tryz.func115 (by kernel_rfl) (by kernel_rfl) args w
set_option maxHeartbeats 2000000 in
set_option maxRecDepth 100000 in
theorem fields_any (w : World) : Calls Tryz.prog 55 #[] w fun e w' => e = .returned (.slice (some ⟨w.heap.size, 0, none⟩) 13 13) ∧ ObjAt w' w.heap.size 130 tabV ∧ Below w.heap.size w w' := by
  go_enter Tryz.func55, Tryz.ntmps55
  go_wp2
  go_ret
  exact ⟨rfl, heap_alloc_new w _, (Below.refl _ _).alloc (Nat.le_refl _) _⟩
end Go.Proofs.YtbbaleambgaanaaGreatDoor.Ust
namespace Go.Proofs.YtbbaleambgaanaaGreatDoor.Chk
open Go.RowKit
open Oct
theorem hdrT : ArrT Tryz.prog 182 5 512 := ⟨Tryz.underlying182, by kernel_rfl, Tryz.underlying5, Tryz.info5⟩
set_option maxHeartbeats 1000000 in
theorem hsum_any (zs : List Int) (w : World) (hl : zs.length = 512) (hb : Bytes zs) :
    Calls Tryz.prog 154 #[.agg (arr zs)] w fun e w' => e = .returned (.int .i64 (sumZ zs)) ∧ Below w.heap.size w w' := by
  have HL := Lib.hid hl; clear hl
  have HB := Lib.hid hb; clear hb
  have HT := Lib.hid hdrT
  go_enter Tryz.func154, Tryz.ntmps154
  go_wp2_with (first | (refine wpList_box_arr rfl 182 _ rfl zs rfl HB.out ?_; intro w1 h1 b1; have H1 := Lib.hid h1; clear h1) | (refine wpList_copy_arr_str rfl _ _ 24 9 rfl 5 Tryz.underlying24 HT.out.elem w.heap.size 148 364 364 rfl _ rfl 182 zs H1.out (by decide) (by rw [HL.out]; decide) ?_; intro w2 h2 t2; have H2 := Lib.hid h2; have T2 := Lib.hid t2; clear h2 t2) | (refine wpList_load_arr rfl 182 5 512 HT.out _ rfl w.heap.size 0 rfl (blankZ zs) H2.out.row (blank_length HL.out) ?_))
  have hbl := blank_bytes HB.out
  have BD := Lib.hid (take_sum_bd hbl)
  have HN := Lib.hid (blank_length HL.out)
  have B2 := Lib.hid ((b1).trans (T2.out.below (Nat.le_refl _)))
  have HZ := Lib.hid hbl; clear hbl b1
  go_loop [3, 9] (fun n i => ∃ j : Nat, j ≤ 512 ∧ i = .int .i64 j ∧ n = .int .i64 ((blankZ zs).take j).sum) (fun _ i => 512 - (intOf i).toNat)
  case atStart => exact ⟨0, Nat.zero_le _, rfl, rfl⟩
  case round =>
    obtain ⟨j, hj, rfl, rfl⟩ := hrel
    obtain ⟨d0, d1⟩ := BD.out j
    by_cases hlt : j < 512
    · have hix := run_index_arr (w := w2) HT.out (blankZ zs) HN.out j hlt
      obtain ⟨c, hc⟩ := named ((blankZ zs).getD j 0)
      have hcb := HZ.out.getD j
      rw [← hc.out] at hix hcb
      obtain ⟨c0, c1⟩ := hcb
      obtain ⟨S, hS⟩ := named ((blankZ zs).take j).sum
      rw [← hS.out] at d0 d1 ⊢
      have HS : Hid (((blankZ zs).take (j + 1)).sum = S + c) := by
        show _ = _; rw [sum_take_succ (by rw [HN.out]; exact hlt), hS.out, hc.out]
      have hlt' : (j : Int) < 512 := by omega
      go_wp2
      go_round
      case rel => exact ⟨j + 1, by omega, by go_num, by rw [HS.out]⟩
      case measure => simp [intOf]; omega
    · obtain rfl : j = 512 := by omega
      go_wp2
      go_ret
      exact ⟨ret_int (by rw [List.take_of_length_le (by rw [HN.out]; exact Nat.le_refl _)]; rfl), B2.out⟩
set_option maxHeartbeats 1000000 in
theorem hseal_any (zs : List Int) (w : World) (hl : zs.length = 512) (hb : Bytes zs) :
    Calls Tryz.prog 117 #[.agg (arr zs)] w fun e w' => e = .returned (.agg (arr (sealZ zs))) ∧ Below w.heap.size w w' := by
  have HL := Lib.hid hl; clear hl
  have HB := Lib.hid hb; clear hb
  have HT := Lib.hid hdrT
  go_enter Tryz.func117, Tryz.ntmps117
  go_wp2_with (first | (refine wpList_box_arr rfl 182 _ rfl zs rfl HB.out ?_; intro w1 h1 b1; have H1 := Lib.hid h1; clear h1; have B1 := Lib.hid b1; clear b1) | (refine wpList_alloc_arr rfl 182 5 512 HT.out rfl ?_; intro w2 h2 b2; have H2 := Lib.hid h2; have B2 := Lib.hid b2; clear h2 b2) | (refine wpList_load_arr rfl 182 5 512 HT.out _ rfl w.heap.size 0 rfl zs (H1.out.below B2.out H1.out.lt).row HL.out ?_))
  refine (hsum_any zs _ HL.out HB.out).mono ?_; rintro e w3 ⟨rfl, b3⟩
  have B3 := Lib.hid b3; clear b3
  obtain ⟨n, hn⟩ := named (sumZ zs)
  have FN : Hid (0 ≤ n ∧ n ≤ mx 6) := by show _ ∧ _; rw [hn.out]; exact sumZ_fits HB.out HL.out
  rw [← hn.out]
  go_wp2_with fail
  refine (fmt_ok n 7 6 _ (by decide) (by decide) (by decide) FN.out.1 FN.out.2).mono ?_; rintro e w4 ⟨rfl, h4, b4⟩
  have H4 := Lib.hid h4; clear h4
  have B4 := Lib.hid b4; clear b4
  have G01 : Hid (w.heap.size < w1.heap.size) := H1.out.lt
  have G12 : Hid (w1.heap.size < w2.heap.size) := H2.out.lt
  have G23 := Lib.hid B3.out.size
  have G34 : Hid (w3.heap.size < w4.heap.size) := (own_lt H4.out).2
  have A0 : Hid (ArrAt w4 w.heap.size 182 zs) := ((H1.out.below B2.out G01.out).below B3.out (Nat.lt_trans G01.out G12.out)).below B4.out (Nat.lt_of_lt_of_le (Nat.lt_trans G01.out G12.out) G23.out)
  have A1 : Hid (ArrAt w4 w1.heap.size 182 (zeros 512)) := (H2.out.below B3.out G12.out).below B4.out (Nat.lt_of_lt_of_le G12.out G23.out)
  have D4 : Hid (RowAt w4 w3.heap.size 0 (fld 6 n)) := RowAt.of_own H4.out (fld_bd 6 n)
  have N1 : Hid (w1.heap.size ≠ w.heap.size) := by have := G01.out; show _ ≠ _; omega
  have N2 : Hid (w3.heap.size ≠ w.heap.size) := by have := G01.out; have := G12.out; have := G23.out; show _ ≠ _; omega
  go_wp2_with (first | (refine wpList_copy_arr_str rfl _ _ 24 9 rfl 5 Tryz.underlying24 HT.out.elem w.heap.size 148 364 364 rfl _ rfl 182 zs A0.out (by decide) (by rw [HL.out]; decide) ?_; intro w5 h5 t5; have H5 := Lib.hid h5; have T5 := Lib.hid t5; clear h5 t5) | (refine wpList_copy_arr rfl _ _ 24 24 rfl 5 Tryz.underlying24 HT.out.elem w.heap.size 148 364 364 rfl (some ⟨w3.heap.size, 0, none⟩) 7 7 rfl (fld 6 n) (.of_row (D4.out.turned T5.out N2.out) (by rw [T5.out.size]; exact G34.out)) (fld_length _ _) 182 (blankZ zs) H5.out (by rw [blank_length HL.out]; decide) ?_; intro w6 h6 t6; have H6 := Lib.hid h6; have T6 := Lib.hid t6; clear h6 t6) | (refine wpList_load_arr rfl 182 5 512 HT.out _ rfl w.heap.size 0 rfl (sealZ zs) (by have := H6.out; rw [hn.out, List.take_of_length_le (by rw [fld_length]; decide), seal_two zs HL.out] at this; exact this.row) (seal_length HL.out) ?_) | (refine wpList_store_arr rfl 182 5 512 HT.out _ _ rfl w1.heap.size rfl (sealZ zs) rfl (seal_bytes HB.out) (seal_length HL.out) 182 (zeros 512) ((A1.out.turned T5.out N1.out).turned T6.out N1.out) (zeros_length _) ?_; intro w7 h7 t7; have H7 := Lib.hid h7; have T7 := Lib.hid t7; clear h7 t7))
  have L0 := Nat.le_of_lt G01.out
  have L1 := Nat.le_of_lt G12.out
  exact bodyPost_ret (results_arr Tryz.results117 HT.out _ w1.heap.size rfl _ (sealZ zs) H7.out (seal_length HL.out)) rfl ⟨rfl,
    B1.out.trans ((B2.out.mono L0).trans ((B3.out.mono (Nat.le_trans L0 L1)).trans ((B4.out.mono (Nat.le_trans (Nat.le_trans L0 L1) G23.out)).trans ((T5.out.below (Nat.le_refl _)).trans ((T6.out.below (Nat.le_refl _)).trans (T7.out.below L0))))))⟩
set_option maxHeartbeats 1000000 in
theorem conv_ok (a : Option Addr) (cap : Nat) (zs : List Int) (w : World) (hl : zs.length = 512) (hb : BytesIn w a zs) :
    Calls Tryz.prog 116 #[.slice a 512 cap] w fun e w' => e = .returned (.tuple #[.agg (arr zs), .int .i64 0]) ∧ Below w.heap.size w w' := by
  obtain ⟨b, off, rfl, hlt, hr⟩ : ∃ b off, a = some ⟨b, off, none⟩ ∧ b < w.heap.size ∧ RowAt w b off zs := by
    rcases hb with hb | hb
    · rw [hb] at hl; cases hl
    · exact hb
  have HL := Lib.hid hl; clear hl hb
  have HR := Lib.hid hr; clear hr
  have HLT := Lib.hid hlt; clear hlt
  have HT := Lib.hid hdrT
  have ha := fun w => run_arrayAt (w := w) HT.out (some ⟨b, off, none⟩) 512 cap (Nat.le_refl _)
  go_enter Tryz.func116, Tryz.ntmps116
  go_wp2_with (first | (refine wpList_alloc_arr rfl 182 5 512 HT.out rfl ?_; intro w1 h1 b1; have H1 := Lib.hid h1; have B1 := Lib.hid b1; clear h1 b1) | (refine wpList_load_arr rfl 182 5 512 HT.out _ rfl b off rfl zs (HR.out.below B1.out HLT.out) HL.out ?_) | (refine wpList_store_arr rfl 182 5 512 HT.out _ _ rfl w.heap.size rfl zs rfl HR.out.2 HL.out 182 (zeros 512) H1.out (zeros_length _) ?_; intro w2 h2 t2; have H2 := Lib.hid h2; have T2 := Lib.hid t2; clear h2 t2))
  exact bodyPost_ret (results_arr_tmp Tryz.results116 HT.out _ w.heap.size rfl _ zs H2.out HL.out) rfl ⟨rfl, B1.out.trans (T2.out.below (Nat.le_refl _))⟩
set_option maxHeartbeats 1000000 in
theorem conv_bad (a : Option Addr) (len cap : Nat) (w : World) (hl : ¬ len = 512) :
    Calls Tryz.prog 116 #[.slice a len cap] w fun e w' => e = .returned (.tuple #[.agg (arr (zeros 512)), .int .i64 2]) ∧ Below w.heap.size w w' := by
  have h2 : ((len : Int) == 512) = false := by simp; omega
  have h3 : ((len : Int) != 512) = true := by simp; omega
  have HT := Lib.hid hdrT
  go_enter Tryz.func116, Tryz.ntmps116
  go_wp2_with (first | (refine wpList_alloc_arr rfl 182 5 512 HT.out rfl ?_; intro w1 h1 b1; have H1 := Lib.hid h1; have B1 := Lib.hid b1; clear h1 b1) | (refine wpList_build_arr rfl 182 5 512 HT.out rfl ?_) | (refine wpList_store_arr rfl 182 5 512 HT.out _ _ rfl w.heap.size rfl (zeros 512) rfl (zeros_bytes _) (zeros_length _) 182 (zeros 512) H1.out (zeros_length _) ?_; intro w2 h2 t2; have H2 := Lib.hid h2; have T2 := Lib.hid t2; clear h2 t2))
  exact bodyPost_ret (results_arr_tmp Tryz.results116 HT.out _ w.heap.size rfl _ (zeros 512) H2.out (zeros_length _)) rfl ⟨rfl, B1.out.trans (T2.out.below (Nat.le_refl _))⟩
end Go.Proofs.YtbbaleambgaanaaGreatDoor.Chk
namespace Go.Proofs.YtbbaleambgaanaaGreatDoor
open Go.RowKit
structure Of (S : World → Prop) where
  w : World
  h : S w
theorem wp_region_class {P : Program} {id : Nat} {Q : Exit → Act → World → Prop} {a : Act} {w : World} {l : List Oper} {S : World → Prop} (hm : P.follows .mixedOrders = true) (hB : Region.lexB .any l.toArray = true) (hS : S w.drew)
    (h : Nonempty (Of S) → wpQuiet P l.toArray (fun w' => ∃ q : Of S, w' = q.w) (fun a' => ∀ w', (∃ q : Of S, w' = q.w) → Q .normal a' w') l a) : (Code.region id l.toArray true).wp P Q a w :=
  wp_region_quiet (C := fun w' => ∃ q : Of S, w' = q.w) hm hB ⟨⟨w.drew, hS⟩, rfl⟩ (by simpa using h ⟨⟨w.drew, hS⟩⟩)
theorem Calls.in_class {P : Program} {f : FuncId} {args : Array Value} {S : World → Prop} {q : Of S} {v : Value}
    (h : Calls P f args q.w fun e w' => e = .returned v ∧ Below q.w.heap.size q.w w') (hS : ∀ w', Below q.w.heap.size q.w w' → S q.w → S w') :
    Calls P f args q.w fun e w'' => e = .returned v ∧ ∃ q' : Of S, w'' = q'.w :=
  h.mono fun _ w' h => ⟨h.1, ⟨w', hS w' h.2 q.h⟩, rfl⟩
end Go.Proofs.YtbbaleambgaanaaGreatDoor
namespace Go.Proofs.YtbbaleambgaanaaGreatDoor.Chk
open Go.RowKit
open Oct
set_option maxHeartbeats 1000000 in
theorem seal_ok (a : Option Addr) (cap : Nat) (zs : List Int) (w : World) (hl : zs.length = 512) (hb : BytesIn w a zs) (hz : Bytes zs) :
    Calls Tryz.prog 56 #[.slice a 512 cap] w (fun e w' => ∃ b : Nat, e = .returned (.tuple #[.slice (some ⟨b, 0, none⟩) 512 512, .int .i64 0]) ∧ ArrAt w' b 182 (sealZ zs) ∧ w.heap.size ≤ b ∧ Below w.heap.size w w') := by
  have HL := Lib.hid hl; clear hl
  have HB := Lib.hid hb; clear hb
  have HZ := Lib.hid hz; clear hz
  have HT := Lib.hid hdrT
  go_enter Tryz.func56, Tryz.ntmps56
  go_wp2_with fail
  refine (conv_ok a cap zs _ HL.out HB.out).mono ?_; rintro e w1 ⟨rfl, b1⟩
  have B1 := Lib.hid b1; clear b1
  go_wp2_with (first | (refine wpList_alloc_arr rfl 182 5 512 HT.out rfl ?_; intro w2 h2 b2; have H2 := Lib.hid h2; have B2 := Lib.hid b2; clear h2 b2) | (refine wpList_load_arr rfl 182 5 512 HT.out _ rfl w1.heap.size 0 rfl zs H3.out.row HL.out ?_) | (refine wpList_store_arr rfl 182 5 512 HT.out _ _ rfl w1.heap.size rfl zs rfl HZ.out HL.out 182 (zeros 512) H2.out (zeros_length _) ?_; intro w3 h3 t3; have H3 := Lib.hid h3; have T3 := Lib.hid t3; clear h3 t3))
  refine (hseal_any zs _ HL.out HZ.out).mono ?_; rintro e w4 ⟨rfl, b4⟩
  have B4 := Lib.hid b4; clear b4
  have B : Hid (Below w.heap.size w w4) := by
    have B14 : Below w1.heap.size w1 w3 := B2.out.trans (T3.out.below (Nat.le_refl _))
    exact B1.out.trans ((B14.mono B1.out.size).trans (B4.out.mono (Nat.le_trans B1.out.size B14.size)))
  have H4 : Hid (ArrAt w4 w1.heap.size 182 zs) := H3.out.below B4.out H3.out.lt
  go_wp2_with (refine wpList_store_arr rfl 182 5 512 HT.out _ _ rfl w1.heap.size rfl (sealZ zs) rfl (seal_bytes HZ.out) (seal_length HL.out) 182 zs H4.out HL.out ?_; intro w5 h5 t5; have H5 := Lib.hid h5; have T5 := Lib.hid t5; clear h5 t5)
  go_ret2
  exact ⟨_, rfl, H5.out, B1.out.size, B.out.trans (T5.out.below B1.out.size)⟩
end Go.Proofs.YtbbaleambgaanaaGreatDoor.Chk
namespace Go.Proofs.YtbbaleambgaanaaGreatDoor
open Go.RowKit
theorem tk {P : Program} {md : Region.Mode} {ops : Array Oper} {Q : Exit → Act → World → Prop} {S : World → Prop} {fuel : Nat} {listed : Array Bool} {a : Act} {w : World} (i : Nat) (oi : Oper) (v : Value)
    (hy : ∀ w, S w → (execOp a.eval oi).run P w = .ok (.value v) w) (h : wpAnyH P md ops Q S fuel (listed.setIfInBounds i true) (a.put oi.dst v) w)
    (hi : ops[i]? = some oi := by rfl) (hs : Region.noSelect ops = true := by kernel_rfl) (hf : Region.free md ops listed i = true := by kernel_rfl) (hr : (Region.ready md ops listed).contains i = true := by kernel_rfl)
    (hw : Region.wanted oi (yielded ops a.tmps) = true := by rfl) (hQ : ∀ c a w, Q (.panic c) (a.put oi.dst v) w → Q (.panic c) a w := by exact fun _ _ _ h => h) (hS : S w := by assumption) : wpAnyH P md ops Q S (fuel + 1) listed a w :=
  wpAnyH_take hi hs hf hr hQ (Or.inl ⟨hw, hy⟩) hS h
end Go.Proofs.YtbbaleambgaanaaGreatDoor
