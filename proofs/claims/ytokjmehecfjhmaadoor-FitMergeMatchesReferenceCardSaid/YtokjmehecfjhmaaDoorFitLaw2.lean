/-
  The statement FitMergeMatchesReference: a walk.
-/
import Derived.Test.YtokjmehecfjhmaaDoorFitB
import Derived.Test.YtokjmehecfjhmaaDoorFitRMg
import Derived.Test.YtokjmehecfjhmaaDoorUstOfA
import Derived.Test.YtokjmehecfjhmaaDoorPxrTot
import Derived.Test.YtokjmehecfjhmaaDoorRecsArg
namespace Go.Proofs.YtokjmehecfjhmaaDoor.Fit
open Go.RowKit Pxr Pnm

theorem mg_det {H : Hd} {rs : List Rec} {x y : Ent} {E D : Int} (h1 : mgRes H rs x E) (h2 : mgRes H rs y D) : x = y ∧ E = D := by
  rcases h1 with ⟨a, b, c⟩ | ⟨a, b, c⟩ <;> rcases h2 with ⟨d, e, f⟩ | ⟨d, e, f⟩
  · exact ⟨b.trans e.symm, c.trans f.symm⟩
  · exact absurd a d
  · exact absurd d a
  · exact ⟨b.trans e.symm, c.trans f.symm⟩
end Go.Proofs.YtokjmehecfjhmaaDoor.Fit
namespace Go.Proofs.YtokjmehecfjhmaaDoor
open Go.RowKit Go.Proofs.YtokjmehecfjhmaaDoor.Fit Pxr Pnm

set_option maxHeartbeats 16000000 in
set_option maxRecDepth 100000 in
theorem walk_FitMergeMatchesReference (T : Int) (nm pf lk : ByteArray) (md sz : Int) (a : Option Addr) (n c : Nat) (rs : List Rec) (w : World) (V : MVars w) (_ : (Lit.int .u8 T).wf = true) (hnm : nm.size ≤ 140737488355328) (hpf : pf.size ≤ 140737488355328) (hlk : lk.size ≤ 140737488355328)
    (_ : (Lit.int .i64 md).wf = true) (_ : (Lit.int .i64 sz).wf = true) (HA : ArgRecs w a n c rs) :
    Calls Tryd.prog 4 #[.agg (Ust.hdV T nm pf lk md sz).toArray, .slice a n c] w fun e w' => e = .returned (.bool true) ∧ Below w.heap.size w w' := by
  have AL := Lib.hid fun w' (hb : Below w.heap.size w w') => alive_any w' (V.go hb).f
  have HV := Lib.hid V
  have EO := Lib.hid enT; have EZ := Lib.hid zEn
  have RZ := Lib.hid recZ; have RO := Lib.hid recO
  have HN := Lib.hid HA.n; have HR := Lib.hid HA.r; have HSZ := Lib.hid HA.s
  have hN9 : (n : Int) ≤ 9223372036854775807 := by have := HA.c; have := HA.m; unfold maxLen at this; omega
  have z1 : (nm.size : Int) ≤ 140737488355328 := by omega
  have z2 : (pf.size : Int) ≤ 140737488355328 := by omega
  have z3 : (lk.size : Int) ≤ 140737488355328 := by omega
  have gE : Tryd.prog.eqGuardType Tryd.prog.depth 23 = false := by kernel_rfl
  clear V HA
  by_cases h20 : n ≤ 20
  · have hn20 : ¬ (20 : Int) < n := by omega
    have HN20 := Lib.hid h20
    go_enter Tryd.func4, Tryd.ntmps4
    go_wp2_with (first | (refine wpList_box_obj rfl 27 _ rfl (Ust.hdV T nm pf lk md sz) rfl ?_; intro w1 g1 b1; have H1 := Lib.hid g1; have B1 := Lib.hid b1; have c0 := H1.out.get 0 rfl; have c1 := H1.out.get 1 rfl; have c2 := H1.out.get 2 rfl; have c3 := H1.out.get 3 rfl; have c4 := H1.out.get 4 rfl; have c5 := H1.out.get 5 rfl; clear g1 b1))
    clear c0 c1 c2 c3 c4 c5
    go_loopw [5, 25] (fun t i wr => ∃ (j : Nat) (z : Int), i = .int .i64 j ∧ t = .int .i64 z ∧ j ≤ n ∧ Hid (z = ((nm.size + pf.size + lk.size + tot (rs.take j) : Nat) : Int)) ∧ 0 ≤ z ∧ z ≤ 20000000000000000 ∧ ObjAt wr w.heap.size 27 (Ust.hdV T nm pf lk md sz) ∧ Below w.heap.size w wr) (fun _ i _ => n - (intOf i).toNat)
    case atStart => exact ⟨0, _, rfl, rfl, Nat.zero_le _, (show _ = _ by rw [show tot (rs.take 0) = 0 from rfl]; omega), by omega, by omega, H1.out, B1.out⟩
    case round =>
      obtain ⟨j, z, rfl, rfl, hj, HJ, z0, zm, hh, hb⟩ := hrel
      have BR := Lib.hid hb; have HR3 := Lib.hid hh
      clear hb hh
      by_cases hjn : j < n
      · obtain ⟨r, hr⟩ := get_some (show j < rs.length by rw [HN.out]; exact hjn)
        have hmem : r ∈ rs := List.mem_of_getElem? hr
        have hts := tot_take_succ hr
        obtain ⟨Ke, Va⟩ := r
        obtain ⟨b1, o1, hbe, _, c0', c1'⟩ := (HR.out.below BR.out).get j _ hr
        have c0 : wr.cell? ⟨b1, o1 + j * 2, none⟩ = some (.string Ke) := c0'
        have c1 : wr.cell? ⟨b1, o1 + j * 2 + 1, none⟩ = some (.string Va) := c1'
        have j1 : (j : Int) < n := by omega
        have k1 : (Ke.size : Int) ≤ 140737488355328 := by have := (HSZ.out _ hmem).1; dsimp only at this; omega
        have k2 : (Va.size : Int) ≤ 140737488355328 := by have := (HSZ.out _ hmem).2; dsimp only at this; omega
        have HZ1 : Hid (z + ((Ke.size : Int) + (Va.size : Int)) = ((nm.size + pf.size + lk.size + tot (rs.take (j + 1)) : Nat) : Int)) := by
          show _ = _
          rw [hts, HJ.out]; dsimp only; omega
        have HZ2 : Hid (z + ((Ke.size : Int) + (Va.size : Int)) ≤ 20000000000000000) := by
          show _ ≤ _
          rw [HZ1.out]
          have := tot_le HSZ.out (j + 1)
          have := HN20.out
          omega
        clear hts
        clear c0' c1' hr hmem hjn
        subst hbe
        go_wp2_with (first | (refine wpList_alloc_obj rfl 38 rfl rz RZ.out ?_; intro w2 g2 b2; have R2 := Lib.hid g2; have A2 := Lib.hid b2; clear g2 b2) | (refine wpList_store_obj rfl 38 _ _ rfl wr.heap.size rfl [.string Ke, .string Va] rz rfl 38 R2.out RO.out.2 rfl (rec_one _ _) ?_; intro w3 g3 t3; have A3 := Lib.hid (A2.out.trans (t3.below (Nat.le_refl wr.heap.size))); have B3 := Lib.hid (belT BR.out A3.out); have H3 := Lib.hid (HR3.out.below A3.out HR3.out.lt); have d0 := g3.get 0 rfl; have d1 := g3.get 1 rfl; clear g3 t3))
        go_roundw
        case rel => exact ⟨j + 1, _, by go_num, rfl, by omega, HZ1.out, by omega, HZ2.out, H3.out, B3.out⟩
        case measure => simp [intOf]; omega
      · obtain rfl : j = n := by omega
        have j1 : ¬ (j : Int) < j := by omega
        clear hjn
        by_cases hz : 70000 < z
        · go_wp2_with fail
          refine (AL.out _ BR.out).mono ?_; rintro e w4 ⟨rfl, b4⟩
          have B4 := Lib.hid (belT BR.out b4)
          clear b4
          go_wp2
          go_ret
          exact ⟨rfl, B4.out⟩
        · have hsum : nm.size + pf.size + lk.size + tot rs ≤ 70000 := by
            have e := HJ.out
            rw [List.take_of_length_le (by rw [HN.out]; exact Nat.le_refl _)] at e
            omega
          have HVS : Hid (∀ r ∈ rs, r.2.size ≤ 281474976710656) := fun r hr => by have := tot_mem hr; omega
          have HSM := Lib.hid hsum
          have n70 : ¬ (70000 : Int) < z := hz
          clear hsum hz HJ
          have c0 := HR3.out.get 0 rfl; have c1 := HR3.out.get 1 rfl; have c2 := HR3.out.get 2 rfl; have c3 := HR3.out.get 3 rfl; have c4 := HR3.out.get 4 rfl; have c5 := HR3.out.get 5 rfl
          go_wp2_with fail
          refine (merge_any T nm pf lk md sz a j c rs wr (HV.out.go BR.out) (by have := HSM.out; omega) (by have := HSM.out; omega) (by have := HSM.out; omega) HVS.out HN.out (HR.out.below BR.out) (by have := HN20.out; omega)).mono ?_; rintro e w4 ⟨x, E, rfl, hres, b4⟩
          have HRES := Lib.hid hres
          have H4 := Lib.hid (HR3.out.below b4 HR3.out.lt)
          have B4 := Lib.hid (belT BR.out b4)
          clear b4 hres c0 c1 c2 c3 c4 c5
          go_wp2_with (first | (refine wpList_alloc_obj rfl 23 rfl (enV 0 emp 0 emp 0) EZ.out ?_; intro w5 g5 b5; have R5 := Lib.hid g5; have A5 := Lib.hid b5; clear g5 b5) | (refine wpList_store_obj rfl 23 _ _ rfl w4.heap.size rfl (enV x.k x.p x.m x.t x.s) (enV 0 emp 0 emp 0) rfl 23 R5.out EO.out.2 rfl (en_one _ _ _ _ _) ?_; intro w6 g6 t6; have X6 := Lib.hid g6; have A6 := Lib.hid (A5.out.trans (t6.below (Nat.le_refl _))); have H6 := Lib.hid (H4.out.below A6.out H4.out.lt); have B6 := Lib.hid (belT B4.out A6.out); have c0 := H6.out.get 0 rfl; have c1 := H6.out.get 1 rfl; have c2 := H6.out.get 2 rfl; have c3 := H6.out.get 3 rfl; have c4 := H6.out.get 4 rfl; have c5 := H6.out.get 5 rfl; clear g6 t6))
          refine (Ust.of_any T nm pf lk md sz w6).mono ?_; rintro e w7 ⟨rfl, b7⟩
          have X7 := Lib.hid (X6.out.below b7 X6.out.lt)
          have B7 := Lib.hid (belT B6.out b7)
          clear b7 c0 c1 c2 c3 c4 c5
          go_wp2_with fail
          refine (rmerge_any T nm pf lk md sz a j c rs w7 (by have := HSM.out; omega) (by have := HSM.out; omega) (by have := HSM.out; omega) HVS.out HN.out (HR.out.below B7.out) (by have := HN20.out; omega)).mono ?_; rintro e w8 ⟨x', E', rfl, hres', b8⟩
          obtain ⟨hxx, hEE⟩ := mg_det HRES.out hres'
          subst hxx; subst hEE
          have X8 := Lib.hid (X7.out.below b8 X7.out.lt)
          have B8 := Lib.hid (belT B7.out b8)
          clear b8 hres' HRES
          have qE : ∀ w : World, (Op.equalIn 10000 23 (.agg (enV x.k x.p x.m x.t x.s).toArray) (.agg (enV x.k x.p x.m x.t x.s).toArray)).run Tryd.prog w = .ok true w := fun w => by rw [run_eqE]; simp
          go_wp2_with (first | (refine wpList_alloc_obj rfl 23 rfl (enV 0 emp 0 emp 0) EZ.out ?_; intro y5 g5 b5; have R9 := Lib.hid g5; have A9 := Lib.hid b5; clear g5 b5) | (refine wpList_store_obj rfl 23 _ _ rfl w8.heap.size rfl (enV x.k x.p x.m x.t x.s) (enV 0 emp 0 emp 0) rfl 23 R9.out EO.out.2 rfl (en_one _ _ _ _ _) ?_; intro y6 g6 t6; have Y9 := Lib.hid g6; have A10 := Lib.hid (A9.out.trans (t6.below (Nat.le_refl _))); have X9 := Lib.hid (X8.out.below A10.out X8.out.lt); have B9 := Lib.hid (belT B8.out A10.out); clear g6 t6))
          refine (AL.out _ B9.out).mono ?_; rintro e wa ⟨rfl, ba⟩
          have Ba := Lib.hid (belT B9.out ba)
          have XA := Lib.hid (X9.out.below ba X9.out.lt)
          have YA := Lib.hid (Y9.out.below ba Y9.out.lt)
          have e0 := XA.out.get 0 rfl; have e1 := XA.out.get 1 rfl; have e2 := XA.out.get 2 rfl; have e3 := XA.out.get 3 rfl; have e4 := XA.out.get 4 rfl
          have f0 := YA.out.get 0 rfl; have f1 := YA.out.get 1 rfl; have f2 := YA.out.get 2 rfl; have f3 := YA.out.get 3 rfl; have f4 := YA.out.get 4 rfl
          clear ba
          go_wp2
          go_ret
          exact ⟨rfl, Ba.out⟩
  · have hn20 : (20 : Int) < n := by omega
    go_enter Tryd.func4, Tryd.ntmps4
    go_wp2_with (first | (refine wpList_box_obj rfl 27 _ rfl (Ust.hdV T nm pf lk md sz) rfl ?_; intro w1 g1 b1; have H1 := Lib.hid g1; have B1 := Lib.hid b1; have c0 := H1.out.get 0 rfl; have c1 := H1.out.get 1 rfl; have c2 := H1.out.get 2 rfl; have c3 := H1.out.get 3 rfl; have c4 := H1.out.get 4 rfl; have c5 := H1.out.get 5 rfl; clear g1 b1))
    clear c0 c1 c2 c3 c4 c5
    go_loopw [5, 25] (fun t i wr => ∃ (j : Nat) (z : Int), i = .int .i64 j ∧ t = .int .i64 z ∧ j ≤ n ∧ ObjAt wr w.heap.size 27 (Ust.hdV T nm pf lk md sz) ∧ Below w.heap.size w wr) (fun _ i _ => n - (intOf i).toNat)
    case atStart => exact ⟨0, _, rfl, rfl, Nat.zero_le _, H1.out, B1.out⟩
    case round =>
      obtain ⟨j, z, rfl, rfl, hj, hh, hb⟩ := hrel
      have BR := Lib.hid hb; have HR3 := Lib.hid hh
      clear hb hh
      by_cases hjn : j < n
      · obtain ⟨r, hr⟩ := get_some (show j < rs.length by rw [HN.out]; exact hjn)
        have hmem : r ∈ rs := List.mem_of_getElem? hr
        obtain ⟨Ke, Va⟩ := r
        obtain ⟨b1, o1, hbe, _, c0', c1'⟩ := (HR.out.below BR.out).get j _ hr
        have c0 : wr.cell? ⟨b1, o1 + j * 2, none⟩ = some (.string Ke) := c0'
        have c1 : wr.cell? ⟨b1, o1 + j * 2 + 1, none⟩ = some (.string Va) := c1'
        have j1 : (j : Int) < n := by omega
        have k1 : (Ke.size : Int) ≤ 140737488355328 := by have := (HSZ.out _ hmem).1; dsimp only at this; omega
        have k2 : (Va.size : Int) ≤ 140737488355328 := by have := (HSZ.out _ hmem).2; dsimp only at this; omega
        clear c0' c1' hr hmem hjn
        subst hbe
        go_wp2_with (first | (refine wpList_alloc_obj rfl 38 rfl rz RZ.out ?_; intro w2 g2 b2; have R2 := Lib.hid g2; have A2 := Lib.hid b2; clear g2 b2) | (refine wpList_store_obj rfl 38 _ _ rfl wr.heap.size rfl [.string Ke, .string Va] rz rfl 38 R2.out RO.out.2 rfl (rec_one _ _) ?_; intro w3 g3 t3; have A3 := Lib.hid (A2.out.trans (t3.below (Nat.le_refl wr.heap.size))); have B3 := Lib.hid (belT BR.out A3.out); have H3 := Lib.hid (HR3.out.below A3.out HR3.out.lt); have d0 := g3.get 0 rfl; have d1 := g3.get 1 rfl; clear g3 t3))
        go_roundw
        case rel => exact ⟨j + 1, _, by go_num, rfl, by omega, H3.out, B3.out⟩
        case measure => simp [intOf]; omega
      · have j1 : ¬ (j : Int) < n := by omega
        clear hjn
        by_cases hz : 70000 < z
        · go_wp2_with fail
          refine (AL.out _ BR.out).mono ?_; rintro e w4 ⟨rfl, b4⟩
          have B4 := Lib.hid (belT BR.out b4)
          clear b4
          go_wp2
          go_ret
          exact ⟨rfl, B4.out⟩
        · go_wp2_with fail
          refine (AL.out _ BR.out).mono ?_; rintro e w4 ⟨rfl, b4⟩
          have B4 := Lib.hid (belT BR.out b4)
          clear b4
          go_wp2
          go_ret
          exact ⟨rfl, B4.out⟩
end Go.Proofs.YtokjmehecfjhmaaDoor
