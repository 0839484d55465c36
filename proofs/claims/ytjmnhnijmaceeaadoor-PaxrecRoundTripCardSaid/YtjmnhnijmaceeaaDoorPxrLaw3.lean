/-
  Layer 9: PaxrecRoundTrip, walked.
-/
import Derived.Test.YtjmnhnijmaceeaaDoorPxrLib
import Derived.Test.YtjmnhnijmaceeaaDoorRecsArg
namespace Go.Proofs.YtjmnhnijmaceeaaDoor
open Go.RowKit Pxr

set_option maxHeartbeats 8000000 in
set_option maxRecDepth 100000 in
theorem walk_PaxrecRoundTrip (a : Option Addr) (n cap : Nat) (rs : List Rec) (a2 : Option Addr) (n2 cap2 : Nat) (zs : List Int) (w : World) (V : Vars w) (h : ArgRecs w a n cap rs) (h2 : ArgInts .u8 w a2 n2 cap2 zs) :
    Calls Tryd.prog 5 #[.slice a n cap, .slice a2 n2 cap2] w fun e w' => e = .returned (.bool true) ∧ Below w.heap.size w w' := by
  obtain ⟨hn, hc, hm, hR, hv⟩ := h
  have hB2 := h2.bytes
  obtain ⟨hn2, _, _, h4, _⟩ := h2
  have hz : ∀ z ∈ zs, 0 ≤ z ∧ z ≤ 255 := fun z hz => bounds_u8 (h4 z hz)
  have HV := Lib.hid V; have HR := Lib.hid hR; have HN := Lib.hid hn; have HB2 := Lib.hid hB2; have HN2 := Lib.hid hn2
  have HA := Lib.hid fun (w' : World) (hb : Below w.heap.size w w') => alive_any w' (V.go hb)
  by_cases h50 : 50 < n
  · have m1 : (50 : Int) < n := by omega
    clear V hR hn hv h50 hc hm hB2 hn2 h4 hz
    go_enter Tryd.func5, Tryd.ntmps5
    go_wp2_with fail
    refine (HA.out _ (Below.refl _ _)).mono ?_; rintro e w1 ⟨rfl, b1⟩
    go_wp2
    go_ret
    exact ⟨rfl, b1⟩
  · have m1 : ¬ (50 : Int) < n := by omega
    have S := Lib.hid (lsize_any a n cap rs w hv hn (by omega) hR)
    obtain ⟨t, ht⟩ := named ((tot rs : Nat) : Int)
    rw [← ht.out] at S
    by_cases htot : 200000 < tot rs
    · have m2 : (200000 : Int) < t := by rw [ht.out]; omega
      clear V hR hn hv h50 hc hm htot hB2 hn2 h4 hz
      go_enter Tryd.func5, Tryd.ntmps5
      go_wp2_with fail
      refine S.out.mono ?_; rintro e w1 ⟨rfl, b1⟩
      have B1 := Lib.hid b1; clear b1
      go_wp2_with fail
      refine (HA.out _ B1.out).mono ?_; rintro e w2 ⟨rfl, b2⟩
      go_wp2
      go_ret
      exact ⟨rfl, belT B1.out b2⟩
    · have m2 : ¬ (200000 : Int) < t := by rw [ht.out]; omega
      by_cases hb27 : 270000 < n2
      · have m3 : (270000 : Int) < n2 := by omega
        clear V hR hn hv h50 hc hm htot hB2 hn2 h4 hz hb27
        go_enter Tryd.func5, Tryd.ntmps5
        go_wp2_with fail
        refine S.out.mono ?_; rintro e w1 ⟨rfl, b1⟩
        have B1 := Lib.hid b1; clear b1
        go_wp2_with fail
        refine (HA.out _ B1.out).mono ?_; rintro e w2 ⟨rfl, b2⟩
        go_wp2
        go_ret
        exact ⟨rfl, belT B1.out b2⟩
      · have m3 : ¬ (270000 : Int) < n2 := by omega
        have hall : ∀ r ∈ rs, r.1.size + r.2.size ≤ 200000 := fun r hr => by have := tot_mem hr; omega
        have hv2 : ∀ r ∈ rs, r.2.size ≤ maxLen := fun r hr => by have := hall r hr; unfold maxLen; omega
        have F := Lib.hid fun (w' : World) (hb : Below w.heap.size w w') => format_any a n cap rs w' (V.go hb) hv2 hn hc hm (hR.below hb)
        have PB := Lib.hid fun (w' : World) (hb : Below w.heap.size w w') => parse_any a2 n2 cap2 zs w' (V.go hb) hn2 hz (hB2.below hb) (by omega)
        have SAYS := Lib.hid (par_says zs hz)
        obtain ⟨PR, hPR⟩ := named (parZ zs).1
        obtain ⟨PN, hPN⟩ := named (parZ zs).2.1
        obtain ⟨PE, hPE⟩ := named (parZ zs).2.2
        rw [← hPR.out, ← hPN.out, ← hPE.out] at PB SAYS
        have XP : Hid (fmE [] rs = 0 → (fmR rs).length ≤ 262144 → parZ (fmR rs) = (rs, (fmR rs).length, 0)) := fun h h' => by
          have e : fmR rs = fmB rs := by unfold fmR; rw [if_pos h]
          rw [e] at h' ⊢
          exact par_fm h h'
        have XB : Hid (∀ z ∈ fmR rs, 0 ≤ z ∧ z ≤ 255) := fun z hz' => by
          unfold fmR at hz'
          split at hz'
          · exact fmB_bd rs z hz'
          · cases hz'
        obtain ⟨E, hE⟩ := named (fmE [] rs)
        obtain ⟨X, hX⟩ := named (fmR rs)
        rw [← hE.out, ← hX.out] at F
        rw [← hE.out, ← hX.out] at XP
        rw [← hX.out] at XB
        have N50 := Lib.hid h50
        clear V hR hn hv h50 hc hm htot hB2 hn2 h4 hz hall hv2 hb27 hPR hPN hPE hE hX
        go_enter Tryd.func5, Tryd.ntmps5
        go_wp2_with fail
        refine S.out.mono ?_; rintro e w1 ⟨rfl, b1⟩
        have B1 := Lib.hid b1; clear b1
        go_wp2_with fail
        refine (F.out _ B1.out).mono ?_; rintro e w2 ⟨p1, l1, c1, rfl, hl1, hc1, hm1, i1, b2⟩
        have I1 := Lib.hid i1; have L1 := Lib.hid hl1; have B2 := Lib.hid (belT B1.out b2)
        clear i1 hl1 b2 hc1 hm1
        by_cases hE0 : E = 0
        · by_cases hX : l1 ≤ 262144
          · have px := XP.out hE0 (by rw [L1.out]; exact hX)
            have PX := Lib.hid fun (w' : World) (hb : Below w2.heap.size w2 w') => parse_any p1 l1 c1 X w' (HV.out.go (belT B2.out hb)) L1.out XB.out (I1.out.below hb) (by omega)
            rw [px] at PX
            have m4 : (l1 : Int) ≤ 262144 := by omega
            subst hE0
            clear hX px
            go_wp2_with fail
            refine (PX.out _ (Below.refl _ _)).mono ?_; rintro e w3 ⟨a3, l3, c3, rfl, hl3, _, _, r3, b3⟩
            have R3 := Lib.hid r3; have B3 := Lib.hid (belT B2.out b3)
            have hll : l3 = n := hl3.trans HN.out
            subst hll
            have q0 : ((X.length : Int) != (l1 : Int)) = false := by rw [L1.out]; simp
            have EQ := Lib.hid (eqr_same a l3 cap a3 c3 rs w3 HN.out (HR.out.below B3.out) R3.out (by have := N50.out; omega))
            clear r3 hl3 b3
            go_wp2_with fail
            refine EQ.out.mono ?_; rintro e w4 ⟨rfl, b4⟩
            have B4 := Lib.hid (belT B3.out b4)
            clear b4 q0
            go_wp2_with fail
            refine (PB.out _ B4.out).mono ?_; rintro e w20 ⟨a3, l3, c3, rfl, hl3, hc3, hm3, r3, b20⟩
            have R3 := Lib.hid r3; have L3 := Lib.hid hl3; have C3 := Lib.hid hc3; have M3 := Lib.hid hm3
            have B20 := Lib.hid (belT B4.out b20)
            clear r3 hl3 hc3 hm3 b20
            rcases SAYS.out with ⟨pe, pf, pb, pn⟩ | ⟨pe, pr, pn⟩
            · have hl5 : PR.length ≤ 50 := by have := fmE_three pf; omega
              have F2 := Lib.hid (format_any a3 l3 c3 PR w20 (HV.out.go B20.out) (fun r hr => by have := (fmE_good PR [] pf r hr).1.val; unfold maxLen; omega) L3.out.symm C3.out M3.out R3.out)
              have hfr : fmR PR = zs := by unfold fmR; rw [if_pos pf, pb]
              rw [hfr, pf] at F2
              have q1 : ((PN : Int) == (n2 : Int)) = true := by rw [pn, HN2.out]; simp
              subst pe
              clear pf pb pn hfr hl5
              go_wp2_with fail
              refine F2.out.mono ?_; rintro e w21 ⟨p4, l4, c4, rfl, hl4, _, _, i4, b21⟩
              have I4 := Lib.hid i4; have L4 := Lib.hid hl4; have B21 := Lib.hid (belT B20.out b21)
              clear i4 hl4 b21
              go_wp2_with fail
              refine (HA.out _ B21.out).mono ?_; rintro e w22 ⟨rfl, b22⟩
              have hcv1 := run_str_in (P := Tryd.prog) Tryd.underlying25 Tryd.underlying5 Tryd.underlying9 (I4.out.below b22) l4 c4 L4.out
              have B22 := Lib.hid (belT B21.out b22)
              have hcv2 := run_str_in (P := Tryd.prog) Tryd.underlying25 Tryd.underlying5 Tryd.underlying9 (HB2.out.below B22.out) n2 cap2 HN2.out
              obtain ⟨Y, hY⟩ := named (strOfNums zs)
              rw [← hY.out] at hcv1 hcv2
              clear b22
              go_wp2
              go_ret
              exact ⟨rfl, B22.out⟩
            · have q1 : (PE != 0) = true := by simpa using pe
              have q2 : l3 = 0 := by rw [L3.out, pr]; rfl
              have q3 : (PN : Int) ≤ n2 := by have := HN2.out; omega
              have q4 : (0 : Int) ≤ PN := by omega
              subst q2
              clear pe pr pn
              go_wp2_with fail
              refine (HA.out _ B20.out).mono ?_; rintro e w22 ⟨rfl, b22⟩
              go_wp2
              go_ret
              exact ⟨rfl, belT B20.out b22⟩
          · have m4 : ¬ (l1 : Int) ≤ 262144 := by omega
            subst hE0
            clear hX
            go_wp2_with fail
            refine (PB.out _ B2.out).mono ?_; rintro e w20 ⟨a3, l3, c3, rfl, hl3, hc3, hm3, r3, b20⟩
            have R3 := Lib.hid r3; have L3 := Lib.hid hl3; have C3 := Lib.hid hc3; have M3 := Lib.hid hm3
            have B20 := Lib.hid (belT B2.out b20)
            clear r3 hl3 hc3 hm3 b20
            rcases SAYS.out with ⟨pe, pf, pb, pn⟩ | ⟨pe, pr, pn⟩
            · have hl5 : PR.length ≤ 50 := by have := fmE_three pf; omega
              have F2 := Lib.hid (format_any a3 l3 c3 PR w20 (HV.out.go B20.out) (fun r hr => by have := (fmE_good PR [] pf r hr).1.val; unfold maxLen; omega) L3.out.symm C3.out M3.out R3.out)
              have hfr : fmR PR = zs := by unfold fmR; rw [if_pos pf, pb]
              rw [hfr, pf] at F2
              have q1 : ((PN : Int) == (n2 : Int)) = true := by rw [pn, HN2.out]; simp
              subst pe
              clear pf pb pn hfr hl5
              go_wp2_with fail
              refine F2.out.mono ?_; rintro e w21 ⟨p4, l4, c4, rfl, hl4, _, _, i4, b21⟩
              have I4 := Lib.hid i4; have L4 := Lib.hid hl4; have B21 := Lib.hid (belT B20.out b21)
              clear i4 hl4 b21
              go_wp2_with fail
              refine (HA.out _ B21.out).mono ?_; rintro e w22 ⟨rfl, b22⟩
              have hcv1 := run_str_in (P := Tryd.prog) Tryd.underlying25 Tryd.underlying5 Tryd.underlying9 (I4.out.below b22) l4 c4 L4.out
              have B22 := Lib.hid (belT B21.out b22)
              have hcv2 := run_str_in (P := Tryd.prog) Tryd.underlying25 Tryd.underlying5 Tryd.underlying9 (HB2.out.below B22.out) n2 cap2 HN2.out
              obtain ⟨Y, hY⟩ := named (strOfNums zs)
              rw [← hY.out] at hcv1 hcv2
              clear b22
              go_wp2
              go_ret
              exact ⟨rfl, B22.out⟩
            · have q1 : (PE != 0) = true := by simpa using pe
              have q2 : l3 = 0 := by rw [L3.out, pr]; rfl
              have q3 : (PN : Int) ≤ n2 := by have := HN2.out; omega
              have q4 : (0 : Int) ≤ PN := by omega
              subst q2
              clear pe pr pn
              go_wp2_with fail
              refine (HA.out _ B20.out).mono ?_; rintro e w22 ⟨rfl, b22⟩
              go_wp2
              go_ret
              exact ⟨rfl, belT B20.out b22⟩
        · have m5 : (E == 0) = false := by simpa using hE0
          clear hE0
          go_wp2_with fail
          refine (PB.out _ B2.out).mono ?_; rintro e w20 ⟨a3, l3, c3, rfl, hl3, hc3, hm3, r3, b20⟩
          have R3 := Lib.hid r3; have L3 := Lib.hid hl3; have C3 := Lib.hid hc3; have M3 := Lib.hid hm3
          have B20 := Lib.hid (belT B2.out b20)
          clear r3 hl3 hc3 hm3 b20
          rcases SAYS.out with ⟨pe, pf, pb, pn⟩ | ⟨pe, pr, pn⟩
          · have hl5 : PR.length ≤ 50 := by have := fmE_three pf; omega
            have F2 := Lib.hid (format_any a3 l3 c3 PR w20 (HV.out.go B20.out) (fun r hr => by have := (fmE_good PR [] pf r hr).1.val; unfold maxLen; omega) L3.out.symm C3.out M3.out R3.out)
            have hfr : fmR PR = zs := by unfold fmR; rw [if_pos pf, pb]
            rw [hfr, pf] at F2
            have q1 : ((PN : Int) == (n2 : Int)) = true := by rw [pn, HN2.out]; simp
            subst pe
            clear pf pb pn hfr hl5
            go_wp2_with fail
            refine F2.out.mono ?_; rintro e w21 ⟨p4, l4, c4, rfl, hl4, _, _, i4, b21⟩
            have I4 := Lib.hid i4; have L4 := Lib.hid hl4; have B21 := Lib.hid (belT B20.out b21)
            clear i4 hl4 b21
            go_wp2_with fail
            refine (HA.out _ B21.out).mono ?_; rintro e w22 ⟨rfl, b22⟩
            have hcv1 := run_str_in (P := Tryd.prog) Tryd.underlying25 Tryd.underlying5 Tryd.underlying9 (I4.out.below b22) l4 c4 L4.out
            have B22 := Lib.hid (belT B21.out b22)
            have hcv2 := run_str_in (P := Tryd.prog) Tryd.underlying25 Tryd.underlying5 Tryd.underlying9 (HB2.out.below B22.out) n2 cap2 HN2.out
            obtain ⟨Y, hY⟩ := named (strOfNums zs)
            rw [← hY.out] at hcv1 hcv2
            clear b22
            go_wp2
            go_ret
            exact ⟨rfl, B22.out⟩
          · have q1 : (PE != 0) = true := by simpa using pe
            have q2 : l3 = 0 := by rw [L3.out, pr]; rfl
            have q3 : (PN : Int) ≤ n2 := by have := HN2.out; omega
            have q4 : (0 : Int) ≤ PN := by omega
            subst q2
            clear pe pr pn
            go_wp2_with fail
            refine (HA.out _ B20.out).mono ?_; rintro e w22 ⟨rfl, b22⟩
            go_wp2
            go_ret
            exact ⟨rfl, belT B20.out b22⟩
end Go.Proofs.YtjmnhnijmaceeaaDoor
