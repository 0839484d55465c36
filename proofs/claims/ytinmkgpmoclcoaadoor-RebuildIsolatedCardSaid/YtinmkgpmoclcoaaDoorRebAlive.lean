/-
  Layer 15: the statements' own example, alive.
-/
import Derived.Test.YtinmkgpmoclcoaaDoorRebPNew
import Derived.Test.YtinmkgpmoclcoaaDoorRebPAdd
import Derived.Test.YtinmkgpmoclcoaaDoorRebPNds
namespace Go.Proofs.YtinmkgpmoclcoaaDoor.Reb
open Go.RowKit Go.MapKept Go.Proofs.YtinmkgpmoclcoaaDoor.Fit Pnm Tre Flt

abbrev xA : ByteArray := { data := #[97] }
abbrev xAB : ByteArray := { data := #[97, 47, 98] }
abbrev xCD : ByteArray := { data := #[99, 47, 100] }
abbrev xC : ByteArray := { data := #[65] }
abbrev xM (k : Int) (p : ByteArray) : MbS := ⟨⟨⟨k, p, 0, emp, 0⟩, []⟩, none, 0⟩
theorem xM_fine (w : World) (k : Int) (p : ByteArray) (hk : (Lit.int .i64 k).wf = true) (hp : p.size ≤ 10) : MbF w (xM k p) := ⟨hk, by show p.size ≤ _; omega, (show (Lit.int .i64 0).wf = true by decide), by show emp.size ≤ _; decide, (show (Lit.int .i64 0).wf = true by decide), ArgInts.nil, Nat.zero_le _⟩
theorem x_ck : ckE (xM 0 xA).n.e = 0 ∧ ckE (xM 1 xAB).n.e = 0 ∧ ckE (xM 1 xCD).n.e = 0 ∧ ckE (xM 1 xC).n.e = 0 := by decide
theorem x_cmp : cmpZ (numsOf xA) (numsOf xAB) = -1 ∧ cmpZ (numsOf xAB) (numsOf xCD) = -1 ∧ cmpZ (numsOf xAB) (numsOf xC) = 1 := by decide
theorem x_par : parZ (numsOf xA) = [] ∧ parZ (numsOf xAB) = [97] ∧ parZ (numsOf xCD) = [99] := by decide
theorem x_str : strOfNums [97] = xA := by rfl
theorem x_ne : ¬ xA = strOfNums [99] ∧ ¬ xAB = strOfNums [99] := by
  constructor <;> intro h <;> exact absurd (congrArg numsOf h) (by decide)
abbrev xL : List Mb := [(xM 0 xA).n, (xM 1 xAB).n]
theorem x_1 : adR [] (xM 0 xA).n = 0 := adR_zero.mpr ⟨chR_zero.mpr ⟨x_ck.1, fun h => absurd h.1 (by decide), fun h => h.1 x_par.1, fun h => absurd h.1 (by decide)⟩, rfl⟩
theorem x_2 : adR [(xM 0 xA).n] (xM 1 xAB).n = 0 := by
  refine adR_zero.mpr ⟨chR_zero.mpr ⟨x_ck.2.1, fun h => ?_, fun h => ?_, fun h => absurd h.1 (by decide)⟩, rfl⟩
  · have h2 : 0 ≤ cmpZ (numsOf xA) (numsOf xAB) := h.2
    rw [x_cmp.1] at h2
    exact absurd h2 (by decide)
  · have h2 := h.2
    rw [show (xM 1 xAB).n.e.p = xAB from rfl, x_par.2.1, x_str] at h2
    exact fnd_none.mp h2 0 (by decide) ⟨rfl, rfl⟩
theorem x_3 : adR xL (xM 1 xCD).n = 13 := by
  have hl : ¬ Late xL (xM 1 xCD).n.e.p := fun h => by
    have h2 : 0 ≤ cmpZ (numsOf xAB) (numsOf xCD) := h.2
    rw [x_cmp.2.1] at h2
    exact absurd h2 (by decide)
  have hp : NoPar xL (xM 1 xCD).n.e.p := by
    show parZ (numsOf xCD) ≠ [] ∧ fnd xL 0 (strOfNums (parZ (numsOf xCD))) = none
    rw [x_par.2.2]
    refine ⟨by decide, fnd_none.mpr fun i hi => ?_⟩
    match i, hi with
    | 0, _ => exact fun h => x_ne.1 h.2
    | 1, _ => exact fun h => x_ne.2 h.2
  have := chR_par x_ck.2.2.1 hl hp
  rw [adR_ck (by rw [this]; decide), this]
theorem x_4 : adR xL (xM 1 xC).n = 12 := by
  have hl : Late xL (xM 1 xC).n.e.p := ⟨by decide, by
    show 0 ≤ cmpZ (numsOf xAB) (numsOf xC)
    rw [x_cmp.2.2]; decide⟩
  have := chR_late x_ck.2.2.2 hl
  rw [adR_ck (by rw [this]; decide), this]

set_option maxHeartbeats 1000000 in
theorem af_any (p : ByteArray) (w : World) : Calls Tryd.prog 32 #[.string p] w fun e w' => e = .returned (.agg (mbC 1 p 0 emp 0 none 0 0).toArray) ∧ Below w.heap.size w w' := by
  have MZ := Lib.hid zMb
  have MT := Lib.hid mbT
  go_enter Tryd.func32, Tryd.ntmps32
  go_wp2_with (first | (refine wpList_alloc_obj rfl 30 rfl (mbC 0 emp 0 emp 0 none 0 0) MZ.out ?_; intro w1 g1 b1; have G1 := Lib.hid g1; have B1 := Lib.hid b1; clear g1 b1) | (refine wpList_store_obj rfl 30 _ _ rfl w.heap.size rfl (mbC 1 p 0 emp 0 none 0 0) (mbC 0 emp 0 emp 0 none 0 0) rfl 30 G1.out MT.out.2 rfl (mb_one _ _ _ _ _ _ _ _) ?_; intro w2 g2 t2; have G2 := Lib.hid g2; have B2 := Lib.hid (B1.out.trans (t2.below (Nat.le_refl _))); clear g2 t2))
  exact bodyPost_ret (results_obj Tryd.results32 MT.out _ w.heap.size rfl _ _ G2.out rfl) rfl ⟨rfl, B2.out⟩

/-- after Add -/
theorem AddQ.go {w w' w0 : World} {S : Nat → Prop} {g : Nat} {A : List Mb} {y : Mb} {e : Ending} {X : Int} (h : AddQ w S g A y e w') (hX : adR A y = X) (hS : ∀ k, S k → w0.heap.size ≤ k) (b : Below w0.heap.size w0 w) :
    e = .returned (.int .i64 X) ∧ Only S w w' ∧ Below w0.heap.size w0 w' ∧ ∃ S', (∀ k, S' k → w0.heap.size ≤ k) ∧ (∀ k, S' k → S k ∨ w.heap.size ≤ k) ∧ PBd w' S' g (if X = 0 then A ++ [y] else A) := by
  obtain ⟨X', rfl, h1, h2, h3⟩ := h
  obtain rfl : X' = X := h1.trans hX
  exact ⟨rfl, h2, b.trans (h2.below hS b.size), _, fun k hk => hk.elim (hS k) fun h => Nat.le_trans b.size h.1, fun k hk => hk.imp id fun h => h.1, h3⟩

set_option maxRecDepth 100000 in
set_option maxHeartbeats 4000000 in
theorem alive_any (w : World) (V : FVars w) : Calls Tryd.prog 13 #[] w fun e w' => e = .returned (.bool true) ∧ Below w.heap.size w w' := by
  have HV := Lib.hid V
  clear V
  go_enter Tryd.func13, Tryd.ntmps13
  go_wp2_with fail
  refine (new_any w).mono ?_; rintro e w1 ⟨S1, g, rfl, p1, s1, b1⟩
  have P1 := Lib.hid p1; have S1' := Lib.hid s1; have B1 := Lib.hid b1
  clear p1 s1 b1
  go_wp2_with fail
  refine (pbadd_any P1.out (HV.out.go B1.out) (xM 0 xA) (xM_fine _ _ _ (by decide) (by decide)) (.inl rfl) (by decide)).mono ?_; intro e w2 hq
  obtain ⟨rfl, _, b2, S2, s2, _, p2⟩ := hq.go x_1 S1'.out B1.out
  rw [if_pos rfl] at p2
  have P2 := Lib.hid p2; have S2' := Lib.hid s2; have B2 := Lib.hid b2
  clear hq p2 s2 b2 P1
  go_wp2_with fail
  refine (af_any xAB w2).mono ?_; rintro e w3 ⟨rfl, b3⟩
  have P3 := Lib.hid (P2.out.below b3); have B3 := Lib.hid (belT B2.out b3)
  clear b3 P2
  go_wp2_with fail
  refine (pbadd_any P3.out (HV.out.go B3.out) (xM 1 xAB) (xM_fine _ _ _ (by decide) (by decide)) (.inl rfl) (by decide)).mono ?_; intro e w4 hq
  obtain ⟨rfl, _, b4, S4, s4, _, p4⟩ := hq.go x_2 S2'.out B3.out
  rw [if_pos rfl] at p4
  have P4 : Hid (PBd w4 S4 g xL) := p4
  have S4' := Lib.hid s4; have B4 := Lib.hid b4
  clear hq p4 s4 b4 P3
  go_wp2_with fail
  refine (af_any xCD w4).mono ?_; rintro e w5 ⟨rfl, b5⟩
  have P5 := Lib.hid (P4.out.below b5); have B5 := Lib.hid (belT B4.out b5)
  clear b5 P4
  go_wp2_with fail
  refine (pbadd_any P5.out (HV.out.go B5.out) (xM 1 xCD) (xM_fine _ _ _ (by decide) (by decide)) (.inl rfl) (by decide)).mono ?_; intro e w6 hq
  obtain ⟨rfl, _, b6, S6, s6, _, p6⟩ := hq.go x_3 S4'.out B5.out
  rw [if_neg (by decide)] at p6
  have P6 := Lib.hid p6; have S6' := Lib.hid s6; have B6 := Lib.hid b6
  clear hq p6 s6 b6 P5
  go_wp2_with fail
  refine (af_any xC w6).mono ?_; rintro e w7 ⟨rfl, b7⟩
  have P7 := Lib.hid (P6.out.below b7); have B7 := Lib.hid (belT B6.out b7)
  clear b7 P6
  go_wp2_with fail
  refine (pbadd_any P7.out (HV.out.go B7.out) (xM 1 xC) (xM_fine _ _ _ (by decide) (by decide)) (.inl rfl) (by decide)).mono ?_; intro e w8 hq
  obtain ⟨rfl, _, b8, S8, s8, _, p8⟩ := hq.go x_4 S6'.out B7.out
  rw [if_neg (by decide)] at p8
  have P8 := Lib.hid p8; have B8 := Lib.hid b8
  clear hq p8 s8 b8 P7
  go_wp2_with fail
  refine (pbnds_any P8.out (by decide)).mono ?_; rintro e w9 ⟨a, c, zs, rfl, ha, _, _, _, b9⟩
  have B9 := Lib.hid (belT B8.out b9)
  have hc : (2 : Int) ≤ c := by have := ha.c; simp at this; omega
  clear ha b9
  go_wp2_with fail
  go_ret
  exact ⟨rfl, B9.out⟩
end Go.Proofs.YtinmkgpmoclcoaaDoor.Reb
