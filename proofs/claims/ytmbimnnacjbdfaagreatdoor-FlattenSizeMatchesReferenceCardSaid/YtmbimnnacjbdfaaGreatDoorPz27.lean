/-
  A slice of nodes that is being sorted in place: the worlds on the way; the comparison that Canon hands on.
-/
import Derived.Test.YtmbimnnacjbdfaaGreatDoorPz19
import Derived.Test.YtmbimnnacjbdfaaGreatDoorPz26
import Derived.Test.YtmbimnnacjbdfaaGreatDoorPz25
import Derived.Test.YtmbimnnacjbdfaaGreatDoorStabMath
import Derived.Test.YtmbimnnacjbdfaaGreatDoorPz05
import Derived.Shelf.SlSortCmp.KitK
namespace Go.Proofs.YtmbimnnacjbdfaaGreatDoor.Tre
open Go.RowKit Go.Proofs.YtmbimnnacjbdfaaGreatDoor.Fit Pnm Go.Sort

/-- an array of nodes, element i -/
theorem arr_g (ys : List NdS) (i : Nat) : ys.toArray[i]! = Stab.g ys i := by
  unfold Stab.g
  rw [List.getElem!_toArray, List.getElem!_eq_getElem?_getD]
theorem arr_swp (ys : List NdS) (i j : Nat) : Go.Sort.swp ys.toArray i j = (Stab.swl ys i j).toArray := by
  unfold Go.Sort.swp Stab.swl
  rw [arr_g, arr_g]
  simp
def keyS (y : NdS) : List Int := numsOf y.n.p

/-- the world has grown from w0; block g holds these nodes -/
def SW (w0 : World) (g : Nat) (ys : List NdS) (W : World) : Prop := SWK ndV 6 w0 g 0 ys.toArray W
theorem SW.only {w0 W : World} {g : Nat} {ys : List NdS} (h : SW w0 g ys W) : Only (fun k => k = g) w0 W := by
  obtain ⟨n, os, rfl⟩ := h
  refine ⟨rfl, rfl, rfl, ?_, fun k hk hne => ?_⟩
  · unfold sortWorldK; rw [size_grow, size_putRowK]; show w0.heap.size ≤ w0.heap.size + _; omega
  · unfold sortWorldK putRowK putRow mapBlock grow
    show ((w0.heap.modify g _) ++ os)[k]? = _
    rw [Array.getElem?_append_left (by simpa using hk), Array.getElem?_modify, if_neg (fun e => hne e.symm)]
theorem SW.nds {w0 W : World} {g : Nat} {d0 : Array NdS} {ys : List NdS} (R : RowK ndV 6 w0 g 0 d0) (h : SW w0 g ys W) (hs : ys.length = d0.size) : NdsAt W g 0 ys := fun i y hi j v hv => by
  have hH := SWK.holds h R.hblk R.hH (by simpa using hs)
  have hl : i < ys.length := (List.getElem?_eq_some_iff.mp hi).1
  have hj : j < 6 := by have := (List.getElem?_eq_some_iff.mp hv).1; simpa using this
  have hc := (hH.cell (i := i) (c := j) (by simpa using hl) hj).1
  have e : ys.toArray[i]! = y := by
    rw [arr_g]; unfold Stab.g; rw [hi]; rfl
  rw [e] at hc
  rw [hc]
  rw [← hv, List.getElem!_eq_getElem?_getD, hv]
  rfl
theorem row_of {w : World} {g : Nat} {ys : List NdS} (h : NdsAt w g 0 ys) (hf : ∀ j, w.frozen? ⟨g, j, none⟩ = false) (hg : g < w.heap.size) : RowK ndV 6 w g 0 ys.toArray := by
  refine ⟨fun _ => rfl, fun x v hv => nd_one _ _ _ _ _ _ _ _ v hv, fun t ht => ⟨?_, ?_⟩, hg⟩
  · rw [size_flatK] at ht
    rw [get_flatK _ _ _ _ ht]
    have hi : t / 6 < ys.length := by have : t < ys.length * 6 := by simpa using ht
                                      omega
    have hr : t % 6 < (ndV (Stab.g ys (t / 6))).length := by simp; omega
    have := h (t / 6) _ (Stab.g_some hi) (t % 6) _ (List.getElem?_eq_getElem hr)
    rw [show 0 + t / 6 * 6 + t % 6 = 0 + t by omega] at this
    rw [this, arr_g, id, List.getElem!_eq_getElem?_getD, List.getElem?_eq_getElem hr]
    rfl
  · rw [Nat.zero_add]; exact hf t

set_option maxHeartbeats 2000000 in
/-- Canon's comparison: it lays two blocks -/
theorem cmp_any (k : Int) (p : ByteArray) (m : Int) (t : ByteArray) (a : Option Addr) (n cap : Nat) (c : Int) (k' : Int) (p' : ByteArray) (m' : Int) (t' : ByteArray) (a' : Option Addr) (n' cap' : Nat) (c' : Int) (w : World) :
    Calls Tryz.prog 34 #[.agg (ndL k p m t a n cap c).toArray, .agg (ndL k' p' m' t' a' n' cap' c').toArray] w fun e w' => e = .returned (.int .i64 (cmpZ (numsOf p) (numsOf p'))) ∧ ∃ q os, w' = grow (w.drewN q) os := by
  obtain ⟨Z, hZ⟩ := named (cmpZ (numsOf p) (numsOf p'))
  have C : Hid (∀ w', Calls Tryz.prog 12 #[.string p, .string p'] w' fun e w'' => e = .returned (.int .i64 Z) ∧ w' = w'') := fun w' => by
    have e := Lib.hid (show Lib.compareBytes p.data.toList p'.data.toList = Z by rw [hZ.out, cmp_lib, numsOf_eq, numsOf_eq])
    rw [← e.out]
    go_enter Tryz.func12, Tryz.ntmps12
    go_wp2_with fail
    refine (Tryz.strings_Compare p p' w').mono ?_; rintro e w1 ⟨rfl, rfl⟩
    go_wp2_with fail
    go_ret
    exact ⟨rfl, rfl⟩
  rw [← hZ.out]
  clear hZ
  go_enter Tryz.func34, Tryz.ntmps34
  go_wp2_with fail
  refine (C.out _).mono ?_; rintro e w1 ⟨rfl, rfl⟩
  go_wp2_with fail
  go_ret
  refine ⟨rfl, 0, #[.cells (ndL k p m t a n cap c).toArray 50 (0, 0), .cells (ndL k' p' m' t' a' n' cap' c').toArray 50 (0, 0)], ?_⟩
  simp [alloc_eq_grow, grow_grow]
  rfl
theorem cmp_lays (g : Nat) (size : Nat) (w : World) : CmpLays Tryz.prog 34 #[] ndV 6 (fun x y => cmpZ (keyS x) (keyS y)) g 0 size w := fun m os dk _ x y => by
  exact cmp_any _ _ _ _ _ _ _ _ _ _ _ _ _ _ _ _ _
end Go.Proofs.YtmbimnnacjbdfaaGreatDoor.Tre
/-
  slices.swapRangeCmpFunc over nodes.
-/
namespace Go.Proofs.YtmbimnnacjbdfaaGreatDoor.Tre
open Go.RowKit Go.Proofs.YtmbimnnacjbdfaaGreatDoor.Fit Pnm Go.Sort

/-- what an exchange needs of the world it begins in -/
theorem SW.cells {w0 W : World} {g : Nat} {d0 : Array NdS} {ys : List NdS} (R : RowK ndV 6 w0 g 0 d0) (h : SW w0 g ys W) (hs : ys.length = d0.size) (P : Program) {i j : Nat} (hi : i < ys.length) (hj : j < ys.length) :
    ∃ ci cj : List Value, ∀ K, K = 6 → ci.length = K ∧ cj.length = K ∧ Sem.run P (loadCellsFrom ⟨g, i * K, none⟩ 0 K #[]) W.drew = .ok ci.toArray W.drew ∧ Sem.run P (loadCellsFrom ⟨g, j * K, none⟩ 0 K #[]) W.drew = .ok cj.toArray W.drew ∧
      Sem.run P (storeCells ⟨g, i * K, none⟩ cj 0) W.drew = .ok () (W.drew.setCells g (i * K) cj) ∧ Sem.run P (storeCells ⟨g, j * K, none⟩ ci 0) (W.drew.setCells g (i * K) cj) = .ok () ((W.drew.setCells g (i * K) cj).setCells g (j * K) ci) ∧
      SW w0 g (Stab.swl ys i j) ((W.drew.setCells g (i * K) cj).setCells g (j * K) ci) := by
  have hs' : ys.toArray.size = d0.size := by simpa using hs
  have hi' : i < ys.toArray.size := by simpa using hi
  have hj' : j < ys.toArray.size := by simpa using hj
  have h1 := SWK.ld1 h R hs' P i hi'
  have h2 := SWK.ld1 h R hs' P j hj'
  have h3 := SWK.st1 h R hs' P i hi' ys.toArray[j]!
  have h4 := SWK.st2 h R hs' P i j hi' hj' ys.toArray[j]! ys.toArray[i]!
  have h5 := SWK.swapped h R i j hi' hj'
  rw [Nat.zero_add] at h1 h2 h3
  rw [Nat.zero_add, Nat.zero_add] at h4 h5
  refine ⟨ndV ys.toArray[i]!, ndV ys.toArray[j]!, fun K hK => ?_⟩
  subst hK
  refine ⟨rfl, rfl, h1, h2, h3, h4, ?_⟩
  unfold SW
  rw [← arr_swp]
  exact h5

set_option maxRecDepth 100000 in
set_option maxHeartbeats 8000000 in
theorem swr_any (w0 : World) (g : Nat) (d0 : Array NdS) (R : RowK ndV 6 w0 g 0 d0) (ys : List NdS) (W : World) (hW : SW w0 g ys W) (hs : ys.length = d0.size) (cap a b n : Nat) (hab : a + n ≤ b) (hb : b + n ≤ ys.length) (hm : ys.length ≤ 1000000) (f : Value) :
    Calls Tryz.prog 138 #[.slice (some ⟨g, 0, none⟩) ys.length cap, .int .i64 a, .int .i64 b, .int .i64 n, f] W fun e w' => e = .returned (.tuple #[]) ∧ ∃ zs, Stab.Ix zs ys (Stab.swr a b n) ∧ SW w0 g zs w' := by
  have HR := Lib.hid R; have HW := Lib.hid hW; have HS := Lib.hid hs
  have aE : ∀ w, (isAgg 50).run Tryz.prog w = .ok true w := fun w => by
    unfold isAgg
    rw [Sem.run_bind, run_underlying Tryz.underlying50 w]; simp
  obtain ⟨K, hK⟩ := named 6
  have zE : ∀ w, (Go.sizeOf 50).run Tryz.prog w = .ok K w := fun w => by rw [hK.out]; rfl
  have mixed : Tryz.prog.follows .mixedOrders = true := by kernel_rfl
  obtain ⟨N, hN⟩ := named ys.length
  have HB : Hid (b + n ≤ N) := by show _ ≤ _; rw [hN.out]; exact hb
  have HAB := Lib.hid hab
  have NM : Hid (N ≤ 1000000) := by show _ ≤ _; rw [hN.out]; exact hm
  rw [← hN.out]
  have nm : (n : Int) ≤ 1000000 := by omega
  clear R hW hs hab hb hm
  go_enter Tryz.func138, Tryz.ntmps138
  go_wp2_with fail
  go_loopw [10] (fun v wr => ∃ (i : Nat) (zs : List NdS), v = .int .i64 i ∧ i ≤ n ∧ Stab.Ix zs ys (Stab.swr a b i) ∧ SW w0 g zs wr) (fun v _ => n - (intOf v).toNat)
  case atStart => exact ⟨0, ys, rfl, Nat.zero_le _, Stab.Ix.refl ys (Stab.swr_zero a b), HW.out⟩
  case round =>
    obtain ⟨i, zs, rfl, hi, hix, hsw⟩ := hrel
    have HX := Lib.hid hix; have HSW := Lib.hid hsw
    have ZL : Hid (zs.length = N) := by show _ = _; rw [hix.1, hN.out]
    clear hix hsw
    by_cases hin : i < n
    · have i1 : (i : Int) < n := by omega
      have w1 : IntKind.i64.wrap ((b : Int) + i) = ((b + i : Nat) : Int) := by rw [wrapP (by omega) (by have := HB.out; have := NM.out; omega)]; omega
      have w2 : IntKind.i64.wrap ((a : Int) + i) = ((a + i : Nat) : Int) := by rw [wrapP (by omega) (by have := HB.out; have := HAB.out; have := NM.out; omega)]; omega
      obtain ⟨A, hA⟩ := named (a + i)
      obtain ⟨B, hB⟩ := named (b + i)
      rw [← hB.out] at w1
      rw [← hA.out] at w2
      have b1 : (A : Int) < N := by have := HB.out; have := HAB.out; have := hA.out; omega
      have b2 : (B : Int) < N := by have := HB.out; have := hB.out; omega
      obtain ⟨ci, cj, hall⟩ := SW.cells HR.out HSW.out (by rw [ZL.out, ← HS.out, hN.out]) Tryz.prog (i := A) (j := B) (by rw [ZL.out]; omega) (by rw [ZL.out]; omega)
      obtain ⟨l1, l2, q1, q2, q3, q4, q5⟩ := hall K hK.out
      have Q5 := Lib.hid q5
      clear q5 hall
      have STEP : Hid (Stab.Ix (Stab.swl zs A B) ys (Stab.swr a b (i + 1))) := HX.out.trans (Stab.swl_ix (by rw [ZL.out]; omega) (by rw [ZL.out]; omega)) (fun k => by rw [hA.out, hB.out]; exact Stab.swr_step (by have := HAB.out; omega) k)
      go_wp2_with fail
      go_big_region_o
      all_goals go_wp2
      go_round
      case rel => exact ⟨i + 1, _, by go_num, by omega, STEP.out, Q5.out⟩
      case measure => simp [intOf]; omega
    · obtain rfl : i = n := by omega
      go_wp2
      go_end0
      exact ⟨rfl, zs, HX.out, HSW.out⟩
end Go.Proofs.YtmbimnnacjbdfaaGreatDoor.Tre
