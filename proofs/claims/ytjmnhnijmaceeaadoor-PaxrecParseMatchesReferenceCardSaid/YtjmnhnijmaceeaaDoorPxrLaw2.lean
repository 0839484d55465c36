/-
  Layer 9: PaxrecParseMatchesReference, walked.
-/
import Derived.Test.YtjmnhnijmaceeaaDoorPxrLib
namespace Go.Proofs.YtjmnhnijmaceeaaDoor
open Go.RowKit Pxr

theorem wf_bytes {zs : List Int} (h : ∀ z ∈ zs, (Lit.int .u8 z).wf = true) : ∀ z ∈ zs, 0 ≤ z ∧ z ≤ 255 := fun z hz => bounds_u8 (h z hz)

set_option maxHeartbeats 4000000 in
set_option maxRecDepth 100000 in
theorem walk_PaxrecParseMatchesReference (a : Option Addr) (n cap : Nat) (zs : List Int) (w : World) (V : Vars w) (h : ArgInts .u8 w a n cap zs) :
    Calls Tryd.prog 4 #[.slice a n cap] w fun e w' => e = .returned (.bool true) ∧ Below w.heap.size w w' := by
  have hB := h.bytes
  obtain ⟨h1, h2, h3, h4, _⟩ := h
  have hz := wf_bytes h4
  have HV := Lib.hid V
  by_cases hn : 270000 < n
  · have m1 : (270000 : Int) < n := by omega
    have A := Lib.hid (alive_any w V)
    clear V h1 hz h4 hB hn
    go_enter Tryd.func4, Tryd.ntmps4
    go_wp2_with fail
    refine A.out.mono ?_; rintro e w1 ⟨rfl, b1⟩
    go_wp2
    go_ret
    exact ⟨rfl, b1⟩
  · have m1 : ¬ (270000 : Int) < n := by omega
    have P := Lib.hid (parse_any a n cap zs w V h1 hz hB (by omega))
    have R := Lib.hid fun (w' : World) (hb : Below w.heap.size w w') => rparse_any a n cap zs w' h1 h2 hz (hB.below hb) (by omega)
    have L3 : Hid ((parZ zs).1.length ≤ 3) := by
      show _ ≤ _
      rcases par_says zs hz with ⟨_, p, _, _⟩ | ⟨_, p, _⟩
      · exact fmE_three p
      · rw [p]; exact Nat.zero_le _
    obtain ⟨PR, hPR⟩ := named (parZ zs).1
    obtain ⟨PN, hPN⟩ := named (parZ zs).2.1
    obtain ⟨PE, hPE⟩ := named (parZ zs).2.2
    rw [← hPR.out, ← hPN.out, ← hPE.out] at P R
    rw [← hPR.out] at L3
    clear V h1 hz h4 hB hn h2 h3 hPR hPN hPE
    go_enter Tryd.func4, Tryd.ntmps4
    go_wp2_with fail
    refine P.out.mono ?_; rintro e w1 ⟨a1, l1, c1, rfl, hl1, _, _, r1, b1⟩
    have R1 := Lib.hid r1; have B1 := Lib.hid b1; have L1 := Lib.hid hl1
    clear r1 b1 hl1
    go_wp2_with fail
    refine (R.out _ B1.out).mono ?_; rintro e w2 ⟨a2, l2, c2, rfl, hl2, _, _, r2, b2⟩
    have Q1 := Lib.hid (R1.out.below b2); have R2 := Lib.hid r2; have B2 := Lib.hid (belT B1.out b2); have L2 := Lib.hid hl2
    clear r2 b2 hl2
    go_wp2_with fail
    refine (alive_any _ (HV.out.go B2.out)).mono ?_; rintro e w3 ⟨rfl, b3⟩
    have Q3 := Lib.hid (Q1.out.below b3); have S3 := Lib.hid (R2.out.below b3); have B3 := Lib.hid (belT B2.out b3)
    clear b3
    have hl : l2 = l1 := L2.out.trans L1.out.symm
    subst hl
    go_wp2_with fail
    refine (eqr_same a1 _ c1 a2 c2 PR w3 L1.out.symm Q3.out S3.out (by have := L1.out; have := L3.out; omega)).mono ?_; rintro e w4 ⟨rfl, b4⟩
    go_wp2
    go_ret
    exact ⟨rfl, belT B3.out b4⟩
end Go.Proofs.YtjmnhnijmaceeaaDoor
