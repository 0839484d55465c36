/-
  Layer 19: the walk of VfsOptions.
-/
import Derived.Test.YthcbiohmghaobaaDoorPz10
import Derived.Test.YthcbiohmghaobaaDoorPz11
import Derived.Test.YthcbiohmghaobaaDoorVfsNil
namespace Go.Proofs.YthcbiohmghaobaaDoor
open Go.RowKit Go.MapKept Go.Proofs.YthcbiohmghaobaaDoor.Pnm Flt Vfs

theorem Vfs.run_lit_9 {P : Program} {w : World} (t e : TypeId) (ht : P.underlying t = some (.slice e)) (z : Value) (hI : (P.info? e).map (fun i => (i.zero, i.size)) = some (some z, 1)) (u0 u1 u2 u3 u4 u5 u6 u7 u8 : Int) :
    (Instr.buildSlice t 9 #[(0, .int .i64 u0), (1, .int .i64 u1), (2, .int .i64 u2), (3, .int .i64 u3), (4, .int .i64 u4), (5, .int .i64 u5), (6, .int .i64 u6), (7, .int .i64 u7), (8, .int .i64 u8)]).run P w = .ok (.slice (some ⟨w.heap.size, 0, none⟩) 9 9) (w.alloc (.cells #[.int .i64 u0, .int .i64 u1, .int .i64 u2, .int .i64 u3, .int .i64 u4, .int .i64 u5, .int .i64 u6, .int .i64 u7, .int .i64 u8] e)) := by
  cases hq : P.info? e with
  | none => simp [hq] at hI
  | some i =>
    simp [hq] at hI
    simp [Instr.buildSlice, run_underlying ht, sizeOf, typeInfo, zeroValue, hq, hI.1, hI.2, Instr.fill, newRow, Value.cells]
    rw [show Array.range 9 = #[0, 1, 2, 3, 4, 5, 6, 7, 8] by decide]; simp
theorem Vfs.wpList_lit_9 {P : Program} {w : World} {ops : Array Oper} {rest : List Oper} {o : Oper} {a : Act} {Q : Exit → Act → World → Prop} (hgd : o.guard = none) (t e : TypeId) (x0 x1 x2 x3 x4 x5 x6 x7 x8 : Operand)
    (ho : o.op = .buildSlice t 9 #[(0, x0), (1, x1), (2, x2), (3, x3), (4, x4), (5, x5), (6, x6), (7, x7), (8, x8)]) (ht : P.underlying t = some (.slice e)) (z : Value) (hI : (P.info? e).map (fun i => (i.zero, i.size)) = some (some z, 1)) (u0 u1 u2 u3 u4 u5 u6 u7 u8 : Int)
    (h0 : a.eval x0 = .int .i64 u0) (h1 : a.eval x1 = .int .i64 u1) (h2 : a.eval x2 = .int .i64 u2) (h3 : a.eval x3 = .int .i64 u3) (h4 : a.eval x4 = .int .i64 u4) (h5 : a.eval x5 = .int .i64 u5) (h6 : a.eval x6 = .int .i64 u6) (h7 : a.eval x7 = .int .i64 u7) (h8 : a.eval x8 = .int .i64 u8)
    (K : ∀ w', ObjAt w' w.heap.size e [.int .i64 u0, .int .i64 u1, .int .i64 u2, .int .i64 u3, .int .i64 u4, .int .i64 u5, .int .i64 u6, .int .i64 u7, .int .i64 u8] → Below w.heap.size w w' → wpList P ops Q rest (a.put o.dst (.slice (some ⟨w.heap.size, 0, none⟩) 9 9)) w') : wpList P ops Q (o :: rest) a w := by
  refine wpList_plain hgd fun K' hK => ?_
  have hrun := run_lit_9 (P := P) (w := w) t e ht z hI u0 u1 u2 u3 u4 u5 u6 u7 u8
  unfold Oper.wp
  simp only [execOp, ho, List.map_toArray, List.map_cons, List.map_nil, h0, h1, h2, h3, h4, h5, h6, h7, h8, hrun, Sem.run_bind, Sem.run_pure, Result.andThen_ok]
  exact hK _ _ (K _ (heap_alloc_new w _) ((Below.refl _ _).alloc (Nat.le_refl _) _))
set_option maxRecDepth 100000 in
set_option maxHeartbeats 16000000 in
theorem walk_VfsOptions (F S : Int) (a : Option Addr) (len cap : Nat) (R : List Int) (w : World) (V : Pxr.Vars w) (_ : (Lit.int .i64 F).wf = true) (_ : (Lit.int .i64 S).wf = true) (hz : ArgInts .i64 w a len cap R) :
    Calls Tryd.prog 4 #[.int .i64 F, .int .i64 S, .slice a len cap] w fun e w' => e = .returned (.bool true) ∧ Below w.heap.size w w' := by
  have AL := Lib.hid fun w' (hb : Below w.heap.size w w') => alive_any w' (V.go hb)
  have HI := Lib.hid hz.inK
  have HL : Hid (R.length = len) := hz.1
  have hcap := hz.2.1
  have HM : Hid (cap ≤ maxLen) := hz.2.2.1
  have OIT : Hid (ObjT Tryd.prog 52 8) := ⟨⟨_, Tryd.underlying52⟩, by kernel_rfl⟩
  have ZI : Hid ((Tryd.prog.info? 52).map (·.zero) = some (some (.agg (infL 0 0 0 0 0 ⟨#[]⟩ 0 0).toArray))) := by show _ = _; kernel_rfl
  clear hz V
  go_enter Tryd.func4, Tryd.ntmps4
  go_wp2_with fail
  refine (lstat_nil _ w).mono ?_; rintro e w1 ⟨rfl, b1⟩
  have B1 := Lib.hid b1
  clear b1
  go_wp2_with (first | (refine wpList_alloc_obj rfl 52 rfl _ ZI.out ?_; intro w2 h2 b2; have I2 := Lib.hid h2; have B2 := Lib.hid (belT B1.out b2); clear h2 b2) | (refine wpList_store_obj rfl 52 _ _ rfl w1.heap.size rfl (infL 0 0 0 0 0 ⟨#[]⟩ 0 0) (infL 0 0 0 0 0 ⟨#[]⟩ 0 0) rfl 52 I2.out OIT.out.2 rfl (by simp [Value.oneCell']) ?_; intro w3 g3 t3; have B3 := Lib.hid (B2.out.trans (t3.below B1.out.size)); clear g3 t3))
  refine (read_nil _ w3).mono ?_; rintro e w4 ⟨rfl, rfl⟩
  go_wp2_with fail
  refine (list_nil _ w3).mono ?_; rintro e w4 ⟨rfl, rfl⟩
  go_wp2_with fail
  refine (mkdir_nil _ 0 w3).mono ?_; rintro e w5 ⟨rfl, b5⟩
  have B5 := Lib.hid (belT B3.out b5)
  clear b5
  go_wp2_with fail
  refine (fcreate_nil _ 0 w5).mono ?_; rintro e w6 ⟨rfl, b6⟩
  have B6 := Lib.hid (belT B5.out b6)
  clear b6
  go_wp2_with fail
  refine (symlink_nil _ _ w6).mono ?_; rintro e w7 ⟨rfl, b7⟩
  have B7 := Lib.hid (belT B6.out b7)
  clear b7
  go_wp2_with fail
  refine (mknod_nil _ 0 w7).mono ?_; rintro e w8 ⟨rfl, b8⟩
  have B8 := Lib.hid (belT B7.out b8)
  clear b8
  go_wp2_with fail
  refine (link_nil _ _ w8).mono ?_; rintro e w9 ⟨rfl, rfl⟩
  go_wp2_with fail
  refine (chown_nil _ 0 0 w8).mono ?_; rintro e w9 ⟨rfl, rfl⟩
  have LI : Hid ((Tryd.prog.info? 33).map (fun i => (i.zero, i.size)) = some (some (.int .i64 0), 1)) := by show _ = _; kernel_rfl
  go_wp2_with (first | (refine wpList_lit_9 rfl 61 33 _ _ _ _ _ _ _ _ _ rfl Tryd.underlying61 _ LI.out 1 1 1 1 1 1 1 1 1 rfl rfl rfl rfl rfl rfl rfl rfl rfl ?_; intro w10 h10 b10; have I10 := Lib.hid h10; have B10 := Lib.hid (belT B8.out b10); clear h10 b10))
  have RO : Hid (∀ j, j < 9 → w10.cell? ⟨w8.heap.size, j, none⟩ = some (.int .i64 1)) := fun j hj => by
    refine I10.out.get j ?_
    match j, hj with
    | 0, _ => rfl
    | 1, _ => rfl
    | 2, _ => rfl
    | 3, _ => rfl
    | 4, _ => rfl
    | 5, _ => rfl
    | 6, _ => rfl
    | 7, _ => rfl
    | 8, _ => rfl
  clear I10
  go_loopw [52] (fun i wr => ∃ j : Nat, i = .int .i64 j ∧ j ≤ 9 ∧ wr = w10) (fun i _ => 9 - (intOf i).toNat)
  case atStart => exact ⟨0, rfl, Nat.zero_le _, rfl⟩
  case round =>
    obtain ⟨j, rfl, hj, rfl⟩ := hrel
    by_cases hlt : j < 9
    · have hlt' : (j : Int) < 9 := by omega
      have hc := RO.out j hlt
      go_wp2_with fail
      go_roundw
      case rel => exact ⟨j + 1, by go_num, by omega, by simp⟩
      case measure => simp [intOf]; omega
    · obtain rfl : j = 9 := by omega
      clear hlt hj RO
      by_cases hbig : 100 < len
      · have hbig' : (len : Int) > 100 := by omega
        go_wp2_with fail
        refine (AL.out wr B10.out).mono ?_; rintro e w11 ⟨rfl, b11⟩
        have B11 := Lib.hid (belT B10.out b11)
        clear b11
        go_wp2_with fail
        go_ret
        exact ⟨rfl, B11.out⟩
      have hs' : ¬ (len : Int) > 100 := by omega
      have HS := Lib.hid (show len ≤ 100 by omega)
      have HC := Lib.hid hcap
      clear hbig hcap
      have RN := Lib.hid fun w' (hb : Below w.heap.size w w') => rnew_any 100 (by omega) F S a len cap R w' (HI.out.below hb) HL.out HC.out (by have := HS.out; omega)
      rcases Classical.em (optE F S R = 0) with he | he
      · have NW := Lib.hid (new_good 100 (by omega) F S a len cap R wr (HI.out.below B10.out) HL.out (by have := HS.out; omega) he)
        have HE := Lib.hid he
        clear he
        go_wp2_with fail
        refine NW.out.mono ?_; rintro e w12 ⟨f, rfl, _, b12⟩
        have B12 := Lib.hid (belT B10.out b12)
        clear b12
        go_wp2_with fail
        refine (RN.out w12 B12.out).mono ?_; rintro e w13 (⟨h2, _⟩ | ⟨_, g, rfl, _, b13⟩)
        · have := HE.out; omega
        have B13 := Lib.hid (belT B12.out b13)
        clear b13
        go_wp2_with fail
        refine (AL.out w13 B13.out).mono ?_; rintro e w14 ⟨rfl, b14⟩
        have B14 := Lib.hid (belT B13.out b14)
        clear b14
        go_wp2_with fail
        go_ret
        exact ⟨rfl, B14.out⟩
      · have NW := Lib.hid (new_bad F S a len cap R wr (HI.out.below B10.out) HL.out (by have := HS.out; omega) he)
        have HE := Lib.hid he
        clear he
        go_wp2_with fail
        refine NW.out.mono ?_; rintro e w12 ⟨rfl, b12⟩
        have B12 := Lib.hid (belT B10.out b12)
        clear b12
        go_wp2_with fail
        refine (RN.out w12 B12.out).mono ?_; rintro e w13 (⟨_, rfl, b13⟩ | ⟨h0, _⟩)
        · have B13 := Lib.hid (belT B12.out b13)
          clear b13
          go_wp2_with fail
          refine (AL.out w13 B13.out).mono ?_; rintro e w14 ⟨rfl, b14⟩
          have B14 := Lib.hid (belT B13.out b14)
          clear b14
          go_wp2_with fail
          go_ret
          exact ⟨rfl, B14.out⟩
        · exact absurd h0 HE.out
end Go.Proofs.YthcbiohmghaobaaDoor
