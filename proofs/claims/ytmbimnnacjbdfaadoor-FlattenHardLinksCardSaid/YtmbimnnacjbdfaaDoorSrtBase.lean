/-
  A slice of nodes that is being sorted in place: the worlds on the way; the comparison that Canon hands on.
-/
import Derived.Test.YtmbimnnacjbdfaaDoorPk06
import Derived.Test.YtmbimnnacjbdfaaDoorPk12
import Derived.Test.YtmbimnnacjbdfaaDoorPk08
import Derived.Test.YtmbimnnacjbdfaaDoorStabMath
import Derived.Test.YtmbimnnacjbdfaaDoorOnly
import Derived.Shelf.SlSortCmp.KitK
namespace Go.Proofs.YtmbimnnacjbdfaaDoor.Tre
open Go.RowKit Go.Proofs.YtmbimnnacjbdfaaDoor.Fit Pnm Go.Sort

/-- an array of nodes, element i -/
theorem arr_g (ys : List NdS) (i : Nat) : ys.toArray[i]! = Stab.g ys i := by
  unfold Stab.g
  rw [List.getElem!_toArray, List.getElem!_eq_getElem?_getD]
theorem arr_swp (ys : List NdS) (i j : Nat) : Go.Sort.swp ys.toArray i j = (Stab.swl ys i j).toArray := by
  unfold Go.Sort.swp Stab.swl
  rw [arr_g, arr_g]
  simp
def keyS (y : NdS) : List Int := numsOf y.n.p

/-- the world has grown from w0; block g holds these nodes -/
def SW (w0 : World) (g : Nat) (ys : List NdS) (W : World) : Prop := SWK ndV 6 w0 g 0 ys.toArray W
theorem SW.only {w0 W : World} {g : Nat} {ys : List NdS} (h : SW w0 g ys W) : Only (fun k => k = g) w0 W := by
  obtain ⟨n, os, rfl⟩ := h
  refine ⟨rfl, rfl, rfl, ?_, fun k hk hne => ?_⟩
  · unfold sortWorldK; rw [size_grow, size_putRowK]; show w0.heap.size ≤ w0.heap.size + _; omega
  · unfold sortWorldK putRowK putRow mapBlock grow
    show ((w0.heap.modify g _) ++ os)[k]? = _
    rw [Array.getElem?_append_left (by simpa using hk), Array.getElem?_modify, if_neg (fun e => hne e.symm)]
theorem SW.nds {w0 W : World} {g : Nat} {d0 : Array NdS} {ys : List NdS} (R : RowK ndV 6 w0 g 0 d0) (h : SW w0 g ys W) (hs : ys.length = d0.size) : NdsAt W g 0 ys := fun i y hi j v hv => by
  have hH := SWK.holds h R.hblk R.hH (by simpa using hs)
  have hl : i < ys.length := (List.getElem?_eq_some_iff.mp hi).1
  have hj : j < 6 := by have := (List.getElem?_eq_some_iff.mp hv).1; simpa using this
  have hc := (hH.cell (i := i) (c := j) (by simpa using hl) hj).1
  have e : ys.toArray[i]! = y := by
    rw [arr_g]; unfold Stab.g; rw [hi]; rfl
  rw [e] at hc
  rw [hc]
  rw [← hv, List.getElem!_eq_getElem?_getD, hv]
  rfl
theorem row_of {w : World} {g : Nat} {ys : List NdS} (h : NdsAt w g 0 ys) (hf : ∀ j, w.frozen? ⟨g, j, none⟩ = false) (hg : g < w.heap.size) : RowK ndV 6 w g 0 ys.toArray := by
  refine ⟨fun _ => rfl, fun x v hv => nd_one _ _ _ _ _ _ _ _ v hv, fun t ht => ⟨?_, ?_⟩, hg⟩
  · rw [size_flatK] at ht
    rw [get_flatK _ _ _ _ ht]
    have hi : t / 6 < ys.length := by have : t < ys.length * 6 := by simpa using ht
                                      omega
    have hr : t % 6 < (ndV (Stab.g ys (t / 6))).length := by simp; omega
    have := h (t / 6) _ (Stab.g_some hi) (t % 6) _ (List.getElem?_eq_getElem hr)
    rw [show 0 + t / 6 * 6 + t % 6 = 0 + t by omega] at this
    rw [this, arr_g, id, List.getElem!_eq_getElem?_getD, List.getElem?_eq_getElem hr]
    rfl
  · rw [Nat.zero_add]; exact hf t

set_option maxHeartbeats 2000000 in
/-- Canon's comparison: it lays two blocks -/
theorem cmp_any (k : Int) (p : ByteArray) (m : Int) (t : ByteArray) (a : Option Addr) (n cap : Nat) (c : Int) (k' : Int) (p' : ByteArray) (m' : Int) (t' : ByteArray) (a' : Option Addr) (n' cap' : Nat) (c' : Int) (w : World) :
    Calls Tryd.prog 23 #[.agg (ndL k p m t a n cap c).toArray, .agg (ndL k' p' m' t' a' n' cap' c').toArray] w fun e w' => e = .returned (.int .i64 (cmpZ (numsOf p) (numsOf p'))) ∧ ∃ q os, w' = grow (w.drewN q) os := by
  obtain ⟨Z, hZ⟩ := named (cmpZ (numsOf p) (numsOf p'))
  have C : Hid (∀ w', Calls Tryd.prog 24 #[.string p, .string p'] w' fun e w'' => e = .returned (.int .i64 Z) ∧ w' = w'') := fun w' => by
    have e := Lib.hid (show Lib.compareBytes p.data.toList p'.data.toList = Z by rw [hZ.out, cmp_lib, numsOf_eq, numsOf_eq])
    rw [← e.out]
    go_enter Tryd.func24, Tryd.ntmps24
    go_wp2_with fail
    refine (Tryd.strings_Compare p p' w').mono ?_; rintro e w1 ⟨rfl, rfl⟩
    go_wp2_with fail
    go_ret
    exact ⟨rfl, rfl⟩
  rw [← hZ.out]
  clear hZ
  go_enter Tryd.func23, Tryd.ntmps23
  go_wp2_with fail
  refine (C.out _).mono ?_; rintro e w1 ⟨rfl, rfl⟩
  go_wp2_with fail
  go_ret
  refine ⟨rfl, 0, #[.cells (ndL k p m t a n cap c).toArray 32 (0, 0), .cells (ndL k' p' m' t' a' n' cap' c').toArray 32 (0, 0)], ?_⟩
  simp [alloc_eq_grow, grow_grow]
  rfl
theorem cmp_lays (g : Nat) (size : Nat) (w : World) : CmpLays Tryd.prog 23 #[] ndV 6 (fun x y => cmpZ (keyS x) (keyS y)) g 0 size w := fun m os dk _ x y => by
  exact cmp_any _ _ _ _ _ _ _ _ _ _ _ _ _ _ _ _ _
end Go.Proofs.YtmbimnnacjbdfaaDoor.Tre
