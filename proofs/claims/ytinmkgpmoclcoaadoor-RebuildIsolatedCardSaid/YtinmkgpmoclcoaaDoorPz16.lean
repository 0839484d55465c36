/-
  A slice of nodes that is being sorted in place: the worlds on the way; the comparison that Canon hands on.
-/
import Derived.Test.YtinmkgpmoclcoaaDoorPz05
import Derived.Test.YtinmkgpmoclcoaaDoorPz13
import Derived.Test.YtinmkgpmoclcoaaDoorPz08
import Derived.Test.YtinmkgpmoclcoaaDoorStabMath
import Derived.Test.YtinmkgpmoclcoaaDoorPz02
import Derived.Shelf.SlSortCmp.KitK
namespace Go.Proofs.YtinmkgpmoclcoaaDoor.Tre
open Go.RowKit Go.Proofs.YtinmkgpmoclcoaaDoor.Fit Pnm Go.Sort

/-- an array of nodes, element i -/
theorem arr_g (ys : List NdS) (i : Nat) : ys.toArray[i]! = Stab.g ys i := by
  unfold Stab.g
  rw [List.getElem!_toArray, List.getElem!_eq_getElem?_getD]
theorem arr_swp (ys : List NdS) (i j : Nat) : Go.Sort.swp ys.toArray i j = (Stab.swl ys i j).toArray := by
  unfold Go.Sort.swp Stab.swl
  rw [arr_g, arr_g]
  simp
def keyS (y : NdS) : List Int := numsOf y.n.p

/-- the world has grown from w0; block g holds these nodes -/
def SW (w0 : World) (g : Nat) (ys : List NdS) (W : World) : Prop := SWK ndV 6 w0 g 0 ys.toArray W
theorem SW.only {w0 W : World} {g : Nat} {ys : List NdS} (h : SW w0 g ys W) : Only (fun k => k = g) w0 W := by
  obtain ⟨n, os, rfl⟩ := h
  refine ⟨rfl, rfl, rfl, ?_, fun k hk hne => ?_⟩
  · unfold sortWorldK; rw [size_grow, size_putRowK]; show w0.heap.size ≤ w0.heap.size + _; omega
  · unfold sortWorldK putRowK putRow mapBlock grow
    show ((w0.heap.modify g _) ++ os)[k]? = _
    rw [Array.getElem?_append_left (by simpa using hk), Array.getElem?_modify, if_neg (fun e => hne e.symm)]
theorem SW.nds {w0 W : World} {g : Nat} {d0 : Array NdS} {ys : List NdS} (R : RowK ndV 6 w0 g 0 d0) (h : SW w0 g ys W) (hs : ys.length = d0.size) : NdsAt W g 0 ys := fun i y hi j v hv => by
  have hH := SWK.holds h R.hblk R.hH (by simpa using hs)
  have hl : i < ys.length := (List.getElem?_eq_some_iff.mp hi).1
  have hj : j < 6 := by have := (List.getElem?_eq_some_iff.mp hv).1; simpa using this
  have hc := (hH.cell (i := i) (c := j) (by simpa using hl) hj).1
  have e : ys.toArray[i]! = y := by
    rw [arr_g]; unfold Stab.g; rw [hi]; rfl
  rw [e] at hc
  rw [hc]
  rw [← hv, List.getElem!_eq_getElem?_getD, hv]
  rfl
theorem row_of {w : World} {g : Nat} {ys : List NdS} (h : NdsAt w g 0 ys) (hf : ∀ j, w.frozen? ⟨g, j, none⟩ = false) (hg : g < w.heap.size) : RowK ndV 6 w g 0 ys.toArray := by
  refine ⟨fun _ => rfl, fun x v hv => nd_one _ _ _ _ _ _ _ _ v hv, fun t ht => ⟨?_, ?_⟩, hg⟩
  · rw [size_flatK] at ht
    rw [get_flatK _ _ _ _ ht]
    have hi : t / 6 < ys.length := by have : t < ys.length * 6 := by simpa using ht
                                      omega
    have hr : t % 6 < (ndV (Stab.g ys (t / 6))).length := by simp; omega
    have := h (t / 6) _ (Stab.g_some hi) (t % 6) _ (List.getElem?_eq_getElem hr)
    rw [show 0 + t / 6 * 6 + t % 6 = 0 + t by omega] at this
    rw [this, arr_g, id, List.getElem!_eq_getElem?_getD, List.getElem?_eq_getElem hr]
    rfl
  · rw [Nat.zero_add]; exact hf t

set_option maxHeartbeats 2000000 in
/-- Canon's comparison: it lays two blocks -/
theorem cmp_any (k : Int) (p : ByteArray) (m : Int) (t : ByteArray) (a : Option Addr) (n cap : Nat) (c : Int) (k' : Int) (p' : ByteArray) (m' : Int) (t' : ByteArray) (a' : Option Addr) (n' cap' : Nat) (c' : Int) (w : World) :
    Calls Tryd.prog 52 #[.agg (ndL k p m t a n cap c).toArray, .agg (ndL k' p' m' t' a' n' cap' c').toArray] w fun e w' => e = .returned (.int .i64 (cmpZ (numsOf p) (numsOf p'))) ∧ ∃ q os, w' = grow (w.drewN q) os := by
  obtain ⟨Z, hZ⟩ := named (cmpZ (numsOf p) (numsOf p'))
  have C : Hid (∀ w', Calls Tryd.prog 49 #[.string p, .string p'] w' fun e w'' => e = .returned (.int .i64 Z) ∧ w' = w'') := fun w' => by
    have e := Lib.hid (show Lib.compareBytes p.data.toList p'.data.toList = Z by rw [hZ.out, cmp_lib, numsOf_eq, numsOf_eq])
    rw [← e.out]
    go_enter Tryd.func49, Tryd.ntmps49
    go_wp2_with fail
    refine (Tryd.strings_Compare p p' w').mono ?_; rintro e w1 ⟨rfl, rfl⟩
    go_wp2_with fail
    go_ret
    exact ⟨rfl, rfl⟩
  rw [← hZ.out]
  clear hZ
  go_enter Tryd.func52, Tryd.ntmps52
  go_wp2_with fail
  refine (C.out _).mono ?_; rintro e w1 ⟨rfl, rfl⟩
  go_wp2_with fail
  go_ret
  refine ⟨rfl, 0, #[.cells (ndL k p m t a n cap c).toArray 55 (0, 0), .cells (ndL k' p' m' t' a' n' cap' c').toArray 55 (0, 0)], ?_⟩
  simp [alloc_eq_grow, grow_grow]
  rfl
theorem cmp_lays (g : Nat) (size : Nat) (w : World) : CmpLays Tryd.prog 52 #[] ndV 6 (fun x y => cmpZ (keyS x) (keyS y)) g 0 size w := fun m os dk _ x y => by
  exact cmp_any _ _ _ _ _ _ _ _ _ _ _ _ _ _ _ _ _
end Go.Proofs.YtinmkgpmoclcoaaDoor.Tre
/-
  slices.swapRangeCmpFunc over nodes.
-/
namespace Go.Proofs.YtinmkgpmoclcoaaDoor.Tre
open Go.RowKit Go.Proofs.YtinmkgpmoclcoaaDoor.Fit Pnm Go.Sort

/-- what an exchange needs of the world it begins in -/
theorem SW.cells {w0 W : World} {g : Nat} {d0 : Array NdS} {ys : List NdS} (R : RowK ndV 6 w0 g 0 d0) (h : SW w0 g ys W) (hs : ys.length = d0.size) (P : Program) {i j : Nat} (hi : i < ys.length) (hj : j < ys.length) :
    ∃ ci cj : List Value, ∀ K, K = 6 → ci.length = K ∧ cj.length = K ∧ Sem.run P (loadCellsFrom ⟨g, i * K, none⟩ 0 K #[]) W.drew = .ok ci.toArray W.drew ∧ Sem.run P (loadCellsFrom ⟨g, j * K, none⟩ 0 K #[]) W.drew = .ok cj.toArray W.drew ∧
      Sem.run P (storeCells ⟨g, i * K, none⟩ cj 0) W.drew = .ok () (W.drew.setCells g (i * K) cj) ∧ Sem.run P (storeCells ⟨g, j * K, none⟩ ci 0) (W.drew.setCells g (i * K) cj) = .ok () ((W.drew.setCells g (i * K) cj).setCells g (j * K) ci) ∧
      SW w0 g (Stab.swl ys i j) ((W.drew.setCells g (i * K) cj).setCells g (j * K) ci) := by
  have hs' : ys.toArray.size = d0.size := by simpa using hs
  have hi' : i < ys.toArray.size := by simpa using hi
  have hj' : j < ys.toArray.size := by simpa using hj
  have h1 := SWK.ld1 h R hs' P i hi'
  have h2 := SWK.ld1 h R hs' P j hj'
  have h3 := SWK.st1 h R hs' P i hi' ys.toArray[j]!
  have h4 := SWK.st2 h R hs' P i j hi' hj' ys.toArray[j]! ys.toArray[i]!
  have h5 := SWK.swapped h R i j hi' hj'
  rw [Nat.zero_add] at h1 h2 h3
  rw [Nat.zero_add, Nat.zero_add] at h4 h5
  refine ⟨ndV ys.toArray[i]!, ndV ys.toArray[j]!, fun K hK => ?_⟩
  subst hK
  refine ⟨rfl, rfl, h1, h2, h3, h4, ?_⟩
  unfold SW
  rw [← arr_swp]
  exact h5

set_option maxRecDepth 100000 in
set_option maxHeartbeats 8000000 in
theorem swr_any (w0 : World) (g : Nat) (d0 : Array NdS) (R : RowK ndV 6 w0 g 0 d0) (ys : List NdS) (W : World) (hW : SW w0 g ys W) (hs : ys.length = d0.size) (cap a b n : Nat) (hab : a + n ≤ b) (hb : b + n ≤ ys.length) (hm : ys.length ≤ 1000000) (f : Value) :
    Calls Tryd.prog 85 #[.slice (some ⟨g, 0, none⟩) ys.length cap, .int .i64 a, .int .i64 b, .int .i64 n, f] W fun e w' => e = .returned (.tuple #[]) ∧ ∃ zs, Stab.Ix zs ys (Stab.swr a b n) ∧ SW w0 g zs w' := by
  have HR := Lib.hid R; have HW := Lib.hid hW; have HS := Lib.hid hs
  have aE : ∀ w, (isAgg 55).run Tryd.prog w = .ok true w := fun w => by
    unfold isAgg
    rw [Sem.run_bind, run_underlying Tryd.underlying55 w]; simp
  obtain ⟨K, hK⟩ := named 6
  have zE : ∀ w, (Go.sizeOf 55).run Tryd.prog w = .ok K w := fun w => by rw [hK.out]; rfl
  have mixed : Tryd.prog.follows .mixedOrders = true := by kernel_rfl
  obtain ⟨N, hN⟩ := named ys.length
  have HB : Hid (b + n ≤ N) := by show _ ≤ _; rw [hN.out]; exact hb
  have HAB := Lib.hid hab
  have NM : Hid (N ≤ 1000000) := by show _ ≤ _; rw [hN.out]; exact hm
  rw [← hN.out]
  have nm : (n : Int) ≤ 1000000 := by omega
  clear R hW hs hab hb hm
  go_enter Tryd.func85, Tryd.ntmps85
  go_wp2_with fail
  go_loopw [10] (fun v wr => ∃ (i : Nat) (zs : List NdS), v = .int .i64 i ∧ i ≤ n ∧ Stab.Ix zs ys (Stab.swr a b i) ∧ SW w0 g zs wr) (fun v _ => n - (intOf v).toNat)
  case atStart => exact ⟨0, ys, rfl, Nat.zero_le _, Stab.Ix.refl ys (Stab.swr_zero a b), HW.out⟩
  case round =>
    obtain ⟨i, zs, rfl, hi, hix, hsw⟩ := hrel
    have HX := Lib.hid hix; have HSW := Lib.hid hsw
    have ZL : Hid (zs.length = N) := by show _ = _; rw [hix.1, hN.out]
    clear hix hsw
    by_cases hin : i < n
    · have i1 : (i : Int) < n := by omega
      have w1 : IntKind.i64.wrap ((b : Int) + i) = ((b + i : Nat) : Int) := by rw [wrapP (by omega) (by have := HB.out; have := NM.out; omega)]; omega
      have w2 : IntKind.i64.wrap ((a : Int) + i) = ((a + i : Nat) : Int) := by rw [wrapP (by omega) (by have := HB.out; have := HAB.out; have := NM.out; omega)]; omega
      obtain ⟨A, hA⟩ := named (a + i)
      obtain ⟨B, hB⟩ := named (b + i)
      rw [← hB.out] at w1
      rw [← hA.out] at w2
      have b1 : (A : Int) < N := by have := HB.out; have := HAB.out; have := hA.out; omega
      have b2 : (B : Int) < N := by have := HB.out; have := hB.out; omega
      obtain ⟨ci, cj, hall⟩ := SW.cells HR.out HSW.out (by rw [ZL.out, ← HS.out, hN.out]) Tryd.prog (i := A) (j := B) (by rw [ZL.out]; omega) (by rw [ZL.out]; omega)
      obtain ⟨l1, l2, q1, q2, q3, q4, q5⟩ := hall K hK.out
      have Q5 := Lib.hid q5
      clear q5 hall
      have STEP : Hid (Stab.Ix (Stab.swl zs A B) ys (Stab.swr a b (i + 1))) := HX.out.trans (Stab.swl_ix (by rw [ZL.out]; omega) (by rw [ZL.out]; omega)) (fun k => by rw [hA.out, hB.out]; exact Stab.swr_step (by have := HAB.out; omega) k)
      go_wp2_with fail
      go_big_region_o
      all_goals go_wp2
      go_round
      case rel => exact ⟨i + 1, _, by go_num, by omega, STEP.out, Q5.out⟩
      case measure => simp [intOf]; omega
    · obtain rfl : i = n := by omega
      go_wp2
      go_end0
      exact ⟨rfl, zs, HX.out, HSW.out⟩
end Go.Proofs.YtinmkgpmoclcoaaDoor.Tre
/-
  slices.insertionSortCmpFunc over nodes.
-/
namespace Go.Proofs.YtinmkgpmoclcoaaDoor.Tre
open Go.RowKit Go.Proofs.YtinmkgpmoclcoaaDoor.Fit Pnm Go.Sort

/-- what a comparison of two elements needs -/
theorem SW.test {w0 W : World} {g : Nat} {d0 : Array NdS} {ys : List NdS} (R : RowK ndV 6 w0 g 0 d0) (h : SW w0 g ys W) (hs : ys.length = d0.size) {i j : Nat} (hi : i < ys.length) (hj : j < ys.length) :
    ∃ ci cj : List Value, ∀ K, K = 6 → (∀ n os, Sem.run Tryd.prog (loadCellsFrom ⟨g, i * K, none⟩ 0 K #[]) (grow (W.drewN n) os) = .ok ci.toArray (grow (W.drewN n) os)) ∧ (∀ n os, Sem.run Tryd.prog (loadCellsFrom ⟨g, j * K, none⟩ 0 K #[]) (grow (W.drewN n) os) = .ok cj.toArray (grow (W.drewN n) os)) ∧
      (∀ n os, Calls Tryd.prog 52 #[.agg ci.toArray, .agg cj.toArray] (grow (W.drewN n) os) fun e w' => e = .returned (.int .i64 (cmpZ (keyS (Stab.g ys i)) (keyS (Stab.g ys j)))) ∧ ∃ q os', w' = grow ((grow (W.drewN n) os).drewN q) os') ∧
      (∀ n os, SW w0 g ys (grow (W.drewN n) os)) := by
  have hs' : ys.toArray.size = d0.size := by simpa using hs
  have hi' : i < ys.toArray.size := by simpa using hi
  have hj' : j < ys.toArray.size := by simpa using hj
  refine ⟨ndV ys.toArray[i]!, ndV ys.toArray[j]!, fun K hK => ?_⟩
  subst hK
  refine ⟨fun n os => ?_, fun n os => ?_, fun n os => ?_, fun n os => SWK.grown h n os⟩
  · have := SWK.ld h R hs' Tryd.prog i hi' n os
    rw [Nat.zero_add] at this; exact this
  · have := SWK.ld h R hs' Tryd.prog j hj' n os
    rw [Nat.zero_add] at this; exact this
  · have := SWK.cmp h (cmp_lays g d0.size w0) hs' ys.toArray[i]! ys.toArray[j]! n os
    rw [← arr_g, ← arr_g]
    exact this

set_option maxRecDepth 100000 in
set_option maxHeartbeats 8000000 in
theorem ins_any (w0 : World) (g : Nat) (d0 : Array NdS) (R : RowK ndV 6 w0 g 0 d0) (ys : List NdS) (W : World) (hW : SW w0 g ys W) (hs : ys.length = d0.size) (cap a b : Nat) (hab : a ≤ b) (hb : b ≤ ys.length) (hm : ys.length ≤ 1000000) :
    Calls Tryd.prog 79 #[.slice (some ⟨g, 0, none⟩) ys.length cap, .int .i64 a, .int .i64 b, .func (.func 52) #[] #[]] W fun e w' => e = .returned (.tuple #[]) ∧ ∃ zs, Stab.Mrg keyS ys zs a b ∧ SW w0 g zs w' := by
  have HR := Lib.hid R; have HW := Lib.hid hW; have HS := Lib.hid hs
  have aE : ∀ w, (isAgg 55).run Tryd.prog w = .ok true w := fun w => by
    unfold isAgg
    rw [Sem.run_bind, run_underlying Tryd.underlying55 w]; simp
  obtain ⟨K, hK⟩ := named 6
  have zE : ∀ w, (Go.sizeOf 55).run Tryd.prog w = .ok K w := fun w => by rw [hK.out]; rfl
  have mixed : Tryd.prog.follows .mixedOrders = true := by kernel_rfl
  obtain ⟨N, hN⟩ := named ys.length
  have HB : Hid (b ≤ N) := by show _ ≤ _; rw [hN.out]; exact hb
  have HAB := Lib.hid hab
  have NM : Hid (N ≤ 1000000) := by show _ ≤ _; rw [hN.out]; exact hm
  rw [← hN.out]
  have nm : (b : Int) ≤ 1000000 := by omega
  have am : (a : Int) ≤ 1000000 := by omega
  clear R hW hs hab hb hm
  go_enter Tryd.func79, Tryd.ntmps79
  go_wp2_with fail
  go_loopw [8] (fun v wr => ∃ (i : Nat) (zs : List NdS), v = .int .i64 i ∧ a + 1 ≤ i ∧ i ≤ b + 1 ∧ Stab.Win ys zs a b ∧ Stab.Stb keyS ys zs ∧ Stab.SrtOn keyS zs a i ∧ SW w0 g zs wr) (fun v _ => b + 1 - (intOf v).toNat)
  case atStart => exact ⟨a + 1, ys, by go_num, Nat.le_refl _, by have := HAB.out; omega, Stab.Win.refl _ _ _, Stab.Stb.refl _, Stab.SrtOn.one _ _ _ (Nat.le_refl _), HW.out⟩
  case round =>
    obtain ⟨i, zs, rfl, hai, hib, hwin, hstb, hsrt, hsw⟩ := hrel
    have WIN := Lib.hid hwin; have STB := Lib.hid hstb; have SRT := Lib.hid hsrt; have HSW := Lib.hid hsw
    have ZL : Hid (zs.length = N) := by show _ = _; rw [hwin.len, hN.out]
    have AI := Lib.hid hai
    clear hwin hstb hsrt hsw hai
    by_cases hlt : i < b
    · have hltz : (i : Int) < b := by omega
      have IB := Lib.hid hlt
      have im : (i : Int) ≤ 1000000 := by omega
      clear hlt
      go_wp2_with fail
      go_loopw [9] (fun v wq => ∃ (j : Nat) (us : List NdS), v = .int .i64 j ∧ a ≤ j ∧ j ≤ i ∧ Stab.Ix us zs (Stab.rot j i (i + 1)) ∧ (∀ k, j ≤ k → k < i → cmpZ (keyS (Stab.g zs i)) (keyS (Stab.g zs k)) < 0) ∧ SW w0 g us wq) (fun v _ => (intOf v).toNat)
      case atStart => exact ⟨i, zs, rfl, by have := AI.out; omega, Nat.le_refl _, Stab.Ix.refl zs (fun k => by have := Stab.rot_cases i i (i + 1) k; omega), fun k h1 h2 => by omega, HSW.out⟩
      case round =>
        obtain ⟨j, us, rfl, haj, hji, hix, hgt, hsu⟩ := hrel
        have HIX := Lib.hid hix; have HGT := Lib.hid hgt; have HSU := Lib.hid hsu
        have UL : Hid (us.length = N) := by show _ = _; rw [hix.1, ZL.out]
        have AJ := Lib.hid haj; have JI := Lib.hid hji
        have DONE : Hid ((∀ k, a ≤ k → k < j → cmpZ (keyS (Stab.g zs k)) (keyS (Stab.g zs i)) ≤ 0) → ∀ wq, SW w0 g us wq → ∃ (i' : Nat) (zs' : List NdS), (Value.int .i64 ((i : Int) + 1)) = .int .i64 i' ∧ a + 1 ≤ i' ∧ i' ≤ b + 1 ∧ Stab.Win ys zs' a b ∧ Stab.Stb keyS ys zs' ∧ Stab.SrtOn keyS zs' a i' ∧ SW w0 g zs' wq) := fun h wq hq => by
          have m := Stab.ins_mrg HIX.out AJ.out JI.out (by rw [ZL.out]; have := IB.out; have := HB.out; omega) SRT.out h HGT.out
          exact ⟨i + 1, us, by go_num, by have := AI.out; omega, by have := IB.out; omega, WIN.out.trans (m.win.wide (Nat.le_refl _) IB.out), STB.out.trans m.stb, m.srt, hq⟩
        clear hix hgt hsu haj hji
        by_cases hja : a < j
        · have hjaz : (a : Int) < j := by omega
          obtain ⟨q, rfl⟩ : ∃ q, j = q + 1 := ⟨j - 1, by omega⟩
          have hjaz' : (a : Int) < (q : Int) + 1 := by omega
          have jz : (q : Int) + 1 < N := by have := JI.out; have := IB.out; have := HB.out; omega
          have jz1 : (q : Int) < N := by omega
          have p0 : (0 : Int) ≤ (q : Int) + 1 := by omega
          have e0 : ((q : Int) + 1).toNat = q + 1 := by omega
          have hwp : IntKind.i64.wrap (q : Int) = (q : Int) := wrapP (by omega) (by have := NM.out; omega)
          have ej : Stab.g us (q + 1) = Stab.g zs i := by rw [HIX.out.g]; have := Stab.rot_cases (q + 1) i (i + 1) (q + 1); have := JI.out; congr 1; omega
          have eq' : Stab.g us q = Stab.g zs q := by rw [HIX.out.g]; have := Stab.rot_cases (q + 1) i (i + 1) q; have := JI.out; congr 1; omega
          obtain ⟨ci, cj, hall⟩ := SW.test HR.out HSU.out (by rw [UL.out, ← HS.out, hN.out]) (i := q + 1) (j := q) (by rw [UL.out]; omega) (by rw [UL.out]; omega)
          obtain ⟨q1, q2, hcg, hcls⟩ := hall K hK.out
          rw [ej, eq'] at hcg
          have CLS := Lib.hid hcls
          obtain ⟨Z, hZ⟩ := named (cmpZ (keyS (Stab.g zs i)) (keyS (Stab.g zs q)))
          rw [← hZ.out] at hcg
          clear hall hcls ej eq' hja
          by_cases hlv : Z < 0
          · go_wp2_with fail
            go_quiet_grown (first | (go_at_call 52; refine Calls.grown_of (hcg _ _)))
            go_wp2_with fail
            have hsw2 := CLS.out nq osq
            clear q1 q2 hcg
            generalize grow (_ : World) osq = wq2 at hsw2 ⊢
            obtain ⟨di, dj, hall⟩ := SW.cells HR.out hsw2 (by rw [UL.out, ← HS.out, hN.out]) Tryd.prog (i := q + 1) (j := q) (by rw [UL.out]; omega) (by rw [UL.out]; omega)
            obtain ⟨l1, l2, q1, q2, q3, q4, q5⟩ := hall K hK.out
            have Q5 := Lib.hid q5
            have STEP : Hid (Stab.Ix (Stab.swl us (q + 1) q) zs (Stab.rot q i (i + 1))) := HIX.out.trans (Stab.swl_ix (by rw [UL.out]; omega) (by rw [UL.out]; omega)) (fun k => by have := Stab.rot_back (j := q + 1) (i := i) JI.out (by omega) k; simpa using this)
            clear q5 hall hsw2
            go_big_region_o
            all_goals go_wp2
            go_round
            case rel => exact ⟨q, _, by go_num, by omega, by have := JI.out; omega, STEP.out, fun k h1 h2 => by
              by_cases e : k = q
              · subst e; rw [← hZ.out]; exact hlv
              · exact HGT.out k (by omega) h2, Q5.out⟩
            case measure => simp [intOf]
          · go_wp2_with fail
            go_quiet_grown (first | (go_at_call 52; refine Calls.grown_of (hcg _ _)))
            go_wp2
            go_round
            case rel => exact DONE.out (fun k h1 h2 => by
              have h3 : cmpZ (keyS (Stab.g zs q)) (keyS (Stab.g zs i)) ≤ 0 := Stab.lt_le (by rw [← hZ.out]; omega)
              exact cmp_trans _ _ _ (SRT.out.le h1 (show k ≤ q by omega) (by have := JI.out; omega)) h3) _ (CLS.out nq osq)
            case measure => simp [intOf]; omega
        · have hjaz : decide ((j : Int) > (a : Int)) = false := decide_eq_false (by omega)
          have hjaz' : ¬ (a : Int) < (j : Int) := by omega
          have HD := Lib.hid (DONE.out (fun k h1 h2 => by omega))
          have HDR : Hid (SW w0 g us (World.drew _)) := SWK.drew HSU.out
          clear DONE
          go_wp2_with fail
          go_big_region_o
          all_goals go_wp2
          go_round
          case rel => exact HD.out _ HDR.out
          case measure => simp [intOf]; omega
    · have hltz : ¬ (i : Int) < b := by omega
      go_wp2
      go_end0
      refine ⟨rfl, zs, ⟨WIN.out, STB.out, SRT.out.sub (Nat.le_refl _) (by omega)⟩, HSW.out⟩
end Go.Proofs.YtinmkgpmoclcoaaDoor.Tre
/-
  slices.rotateCmpFunc over nodes.
-/
namespace Go.Proofs.YtinmkgpmoclcoaaDoor.Tre
open Go.RowKit Go.Proofs.YtinmkgpmoclcoaaDoor.Fit Pnm Go.Sort

set_option maxRecDepth 100000 in
set_option maxHeartbeats 8000000 in
theorem rot_any (w0 : World) (g : Nat) (d0 : Array NdS) (R : RowK ndV 6 w0 g 0 d0) (ys : List NdS) (W : World) (hW : SW w0 g ys W) (hs : ys.length = d0.size) (cap a m b : Nat) (ham : a < m) (hmb : m < b) (hb : b ≤ ys.length) (hm : ys.length ≤ 1000000) (f : Value) :
    Calls Tryd.prog 84 #[.slice (some ⟨g, 0, none⟩) ys.length cap, .int .i64 a, .int .i64 m, .int .i64 b, f] W fun e w' => e = .returned (.tuple #[]) ∧ ∃ zs, Stab.Ix zs ys (Stab.rot a m b) ∧ SW w0 g zs w' := by
  have HR := Lib.hid R; have HW := Lib.hid hW; have HS := Lib.hid hs
  obtain ⟨N, hN⟩ := named ys.length
  have HB : Hid (b ≤ N) := by show _ ≤ _; rw [hN.out]; exact hb
  have HAM := Lib.hid ham; have HMB := Lib.hid hmb
  have NM : Hid (N ≤ 1000000) := by show _ ≤ _; rw [hN.out]; exact hm
  have SWR : Hid (∀ (zs : List NdS) (wq : World) (x y n : Nat), zs.length = N → SW w0 g zs wq → x + n ≤ y → y + n ≤ N → Calls Tryd.prog 85 #[.slice (some ⟨g, 0, none⟩) N cap, .int .i64 x, .int .i64 y, .int .i64 n, f] wq fun e w' => e = .returned (.tuple #[]) ∧ ∃ us, Stab.Ix us zs (Stab.swr x y n) ∧ SW w0 g us w') := fun zs wq x y n hl hz h1 h2 => by
    subst hl
    exact swr_any w0 g d0 HR.out zs wq hz (by rw [← HS.out, ← hN.out]) cap x y n h1 h2 NM.out f
  rw [← hN.out]
  have bm : (b : Int) ≤ 1000000 := by have := HB.out; have := NM.out; omega
  have mm : (m : Int) ≤ 1000000 := by omega
  have am : (a : Int) ≤ 1000000 := by omega
  have ami : (a : Int) < m := by omega
  have mbi : (m : Int) < b := by omega
  clear R hW hs ham hmb hb hm
  go_enter Tryd.func84, Tryd.ntmps84
  go_wp2_with fail
  go_loopw [10, 11] (fun v u wr => ∃ (i j : Nat) (zs : List NdS) (σ : Nat → Nat), v = .int .i64 i ∧ u = .int .i64 j ∧ 0 < i ∧ 0 < j ∧ i ≤ m ∧ m + j ≤ N ∧ zs.length = N ∧ Stab.Ix zs ys σ ∧ (∀ k, σ (Stab.rot (m - i) m (m + j) k) = Stab.rot a m b k) ∧ SW w0 g zs wr) (fun v u _ => (intOf v).toNat + (intOf u).toNat)
  case atStart => exact ⟨m - a, b - m, ys, id, by go_num, by go_num, by omega, by omega, by omega, by have := HB.out; omega, hN.out.symm, Stab.Ix.refl ys (fun k => rfl), fun k => by show Stab.rot _ _ _ _ = _; congr 1 <;> omega, HW.out⟩
  case round =>
    obtain ⟨i, j, zs, σ, rfl, rfl, hi, hj, him, hjn, hl, hix, hσ, hsw⟩ := hrel
    have HIX := Lib.hid hix; have HSG := Lib.hid hσ; have HSW := Lib.hid hsw; have HL := Lib.hid hl
    have HI := Lib.hid hi; have HJ := Lib.hid hj; have HIM := Lib.hid him; have HJN := Lib.hid hjn
    have ii : (i : Int) ≤ m := by omega
    have jj : (j : Int) ≤ 1000000 := by have := NM.out; omega
    clear hix hσ hsw hl
    by_cases hij : i = j
    · subst hij
      have S := SWR.out zs wr (m - i) m i HL.out HSW.out (by omega) (by omega)
      rw [show ((m - i : Nat) : Int) = (m : Int) - i by omega] at S
      have SS := Lib.hid S
      clear S hi hj him hjn
      go_wp2_with fail
      refine SS.out.mono ?_; rintro e w1 ⟨rfl, us, hix, hsw⟩
      go_wp2_with fail
      go_end0
      exact ⟨rfl, us, HIX.out.trans hix (fun k => by rw [Stab.rot_even HIM.out, HSG.out]), hsw⟩
    · have nij : ((i : Int) != (j : Int)) = true := by simp; omega
      by_cases hlt : j < i
      · have hlti : (j : Int) < i := by omega
        have S := SWR.out zs wr (m - i) m j HL.out HSW.out (by omega) (by omega)
        rw [show ((m - i : Nat) : Int) = (m : Int) - i by omega] at S
        have SS := Lib.hid S
        have IJ := Lib.hid hlt
        clear S hi hj him hjn hij hlt
        go_wp2_with fail
        refine SS.out.mono ?_; rintro e w1 ⟨rfl, us, hix, hsw⟩
        have HU := Lib.hid hsw; have HX := Lib.hid hix
        clear hix hsw
        go_wp2_with fail
        go_round
        case rel => exact ⟨i - j, j, us, fun k => σ (Stab.swr (m - i) m j k), by go_num, by go_num, by have := IJ.out; omega, HJ.out, by have := HIM.out; omega, HJN.out, HX.out.1.trans HL.out, HIX.out.trans HX.out (fun k => rfl), fun k => by
          show σ (Stab.swr (m - i) m j _) = _
          rw [Stab.rot_left HIM.out IJ.out, HSG.out], HU.out⟩
        case measure => have := HJ.out; have := IJ.out; simp [intOf]; omega
      · have hlti : (i : Int) < j := by omega
        have nlt : ¬ (j : Int) < i := by omega
        have S := SWR.out zs wr (m - i) (m + j - i) i HL.out HSW.out (by omega) (by omega)
        rw [show ((m - i : Nat) : Int) = (m : Int) - i by omega, show ((m + j - i : Nat) : Int) = (m : Int) + j - i by omega] at S
        have SS := Lib.hid S
        have IJ : Hid (i < j) := by show _ < _; omega
        clear S hi hj him hjn hij hlt
        go_wp2_with fail
        refine SS.out.mono ?_; rintro e w1 ⟨rfl, us, hix, hsw⟩
        have HU := Lib.hid hsw; have HX := Lib.hid hix
        clear hix hsw
        go_wp2_with fail
        go_round
        case rel => exact ⟨i, j - i, us, fun k => σ (Stab.swr (m - i) (m + j - i) i k), by go_num, by go_num, HI.out, by have := IJ.out; omega, HIM.out, by have := HJN.out; omega, HX.out.1.trans HL.out, HIX.out.trans HX.out (fun k => rfl), fun k => by
          show σ (Stab.swr (m - i) (m + j - i) i _) = _
          rw [Stab.rot_right HIM.out IJ.out, HSG.out], HU.out⟩
        case measure => have := HI.out; have := IJ.out; simp [intOf]; omega
end Go.Proofs.YtinmkgpmoclcoaaDoor.Tre
