/-
  UstarFields, walked.
-/
import Derived.Test.YtbgmhdhfcckbbaaDoorUstLawFns
import Derived.Test.YtbgmhdhfcckbbaaDoorUstDec
import Derived.Test.YtbgmhdhfcckbbaaDoorSwitch
import Derived.Deep.QuietTactic
import Derived.BigQuiet
import Derived.BigRegion
namespace Go.Proofs.YtbgmhdhfcckbbaaDoor
open Go.RowKit
open Ust Cst

theorem wrapN {z : Int} (h1 : 0 ≤ z) (h2 : z ≤ 9223372036854775807) : IntKind.i64.wrap z = z := by
  have hb : IntKind.i64.bits = 64 := rfl
  have hs : IntKind.i64.signed = true := rfl
  unfold IntKind.wrap
  simp only [hb, hs, Bool.true_and]
  have e : (2 : Int) ^ 64 = 18446744073709551616 := by decide
  have e' : (2 : Int) ^ (64 - 1) = 9223372036854775808 := by decide
  rw [e, e', Int.emod_eq_of_lt h1 (by omega), if_neg (by simp; omega)]
theorem f_ck : ckH 48 { data := #[] } { data := #[] } { data := #[] } 0 0 = 0 := by decide

set_option maxRecDepth 100000 in
set_option maxHeartbeats 16000000 in
theorem walk_UstarFields (T : Int) (nm pf lk : ByteArray) (md sz : Int) (w : World) (hT : (Lit.int .u8 T).wf = true) (hn : nm.size ≤ maxLen) (hp : pf.size ≤ maxLen) (hk : lk.size ≤ maxLen) (_ : (Lit.int .i64 md).wf = true) (_ : (Lit.int .i64 sz).wf = true) :
    Calls Tryd.prog 7 #[.agg #[.int .u8 T, .string nm, .string pf, .string lk, .int .i64 md, .int .i64 sz]] w fun e w' => e = .returned (.bool true) ∧ Below w.heap.size w w' := by
  have HN := Lib.hid hn; have HP := Lib.hid hp; have HK := Lib.hid hk; have HTB := Lib.hid (bounds_u8 hT)
  clear hn hp hk hT
  go_enter Tryd.func7, Tryd.ntmps7
  go_wp2_with (first | (refine wpList_box_obj rfl 23 _ rfl (hdV T nm pf lk md sz) rfl ?_; intro w1 h1 b1; have H1 := Lib.hid h1; have B1 := Lib.hid b1; have c0 := h1.get 0 rfl; have c1 := h1.get 1 rfl; have c2 := h1.get 2 rfl; have c3 := h1.get 3 rfl; have c4 := h1.get 4 rfl; have c5 := h1.get 5 rfl; clear h1 b1))
  clear c0 c1 c2 c3 c4 c5
  by_cases hck : ckH T nm pf lk md sz = 0
  · have HCK := Lib.hid hck
    refine (enc_ok T nm pf lk md sz w1 HN.out HP.out HK.out hck).mono ?_; rintro e w2 ⟨xb, xc, rfl, hr2, _, hlt2, hc2, hm2, b2⟩
    have B2 := Lib.hid (B1.out.trans (b2.mono B1.out.size)); have H2 := Lib.hid (H1.out.below b2 H1.out.lt); have R2 := Lib.hid hr2; have L2 := Lib.hid hlt2; have C2 := Lib.hid hc2; have M2 := Lib.hid hm2
    clear hr2 hlt2 hc2 hm2 b2 hck
    have c0 := H2.out.get 0 rfl; have c1 := H2.out.get 1 rfl; have c2 := H2.out.get 2 rfl; have c3 := H2.out.get 3 rfl; have c4 := H2.out.get 4 rfl; have c5 := H2.out.get 5 rfl
    go_wp2_with fail
    clear c0 c1 c2 c3 c4 c5
    refine (large_any T nm pf lk md sz w2 HN.out HP.out HK.out).mono ?_; rintro e w3 ⟨LB, rfl, b3⟩
    have B3 := Lib.hid (B2.out.trans (b3.mono B2.out.size)); have H3 := Lib.hid (H2.out.below b3 H2.out.lt); have R3 := Lib.hid (R2.out.below b3 L2.out); have L3 : Hid (xb < w3.heap.size) := Nat.lt_of_lt_of_le L2.out b3.size
    clear b3
    cases LB with
    | true =>
      go_wp2_with fail
      refine (alive_any w3).mono ?_; rintro e w4 ⟨rfl, b4⟩
      have B4 := Lib.hid (B3.out.trans (b4.mono B3.out.size)); clear b4
      go_wp2_with fail
      go_ret
      exact ⟨rfl, B4.out⟩
    | false =>
      go_wp2_with fail
      refine (enc_ok 48 { data := #[] } { data := #[] } { data := #[] } 0 0 w3 (by decide) (by decide) (by decide) f_ck).mono ?_; rintro e w4 ⟨yb, yc, rfl, hr4, _, hlt4, _, _, b4⟩
      have B4 := Lib.hid (B3.out.trans (b4.mono B3.out.size)); have H4 := Lib.hid (H3.out.below b4 H3.out.lt); have R4 := Lib.hid (R3.out.below b4 L3.out); have L4 : Hid (xb < w4.heap.size) := Nat.lt_of_lt_of_le L3.out b4.size
      have Q4 := Lib.hid hr4; have P4 := Lib.hid hlt4
      clear b4 hr4 hlt4
      go_wp2_with fail
      go_loopw [43, 7, 8] (fun t _ _ wr => ∃ j : Nat, j ≤ 512 ∧ t = .int .i64 j ∧ Below w4.heap.size w4 wr) (fun t _ _ _ => 513 - (intOf t).toNat)
      case atStart => exact ⟨0, Nat.zero_le _, rfl, Below.refl _ _⟩
      case round =>
        obtain ⟨j, hj, rfl, hbr⟩ := hrel
        have BR := Lib.hid hbr
        by_cases hlt : j < 512
        · have hlt' : (j : Int) < 512 := by omega
          obtain ⟨d, hd⟩ := named ((encH T nm pf lk md sz).getD j 0)
          obtain ⟨d', hd'⟩ := named ((encH 48 { data := #[] } { data := #[] } { data := #[] } 0 0).getD j 0)
          have x1 := (R4.out.below hbr L4.out).cell0 j (by rw [enc_length HCK.out]; exact hlt)
          have x2 := (Q4.out.below hbr P4.out).cell0 j (by rw [enc_length f_ck]; exact hlt)
          rw [← hd.out] at x1; rw [← hd'.out] at x2
          have cs : ((j : Int) < 108) ∨ (¬ (j : Int) < 108 ∧ (124 : Int) ≤ j ∧ (j : Int) < 136) ∨ (¬ (j : Int) < 108 ∧ (124 : Int) ≤ j ∧ ¬ (j : Int) < 136 ∧ (148 : Int) ≤ j ∧ (j : Int) < 257) ∨
            (¬ (j : Int) < 108 ∧ (124 : Int) ≤ j ∧ ¬ (j : Int) < 136 ∧ (148 : Int) ≤ j ∧ ¬ (j : Int) < 257 ∧ (345 : Int) ≤ j ∧ (j : Int) < 500) ∨
            (d = d' ∧ ¬ (j : Int) < 108 ∧ ¬ (124 : Int) ≤ j ∧ ¬ (148 : Int) ≤ j ∧ ¬ (345 : Int) ≤ j) ∨
            (d = d' ∧ ¬ (j : Int) < 108 ∧ (124 : Int) ≤ j ∧ ¬ (j : Int) < 136 ∧ ¬ (148 : Int) ≤ j ∧ ¬ (345 : Int) ≤ j) ∨
            (d = d' ∧ ¬ (j : Int) < 108 ∧ (124 : Int) ≤ j ∧ ¬ (j : Int) < 136 ∧ (148 : Int) ≤ j ∧ ¬ (j : Int) < 257 ∧ ¬ (345 : Int) ≤ j) ∨
            (d = d' ∧ ¬ (j : Int) < 108 ∧ (124 : Int) ≤ j ∧ ¬ (j : Int) < 136 ∧ (148 : Int) ≤ j ∧ ¬ (j : Int) < 257 ∧ (345 : Int) ≤ j ∧ ¬ (j : Int) < 500) := by
            have key : ¬ varyB j → d = d' := fun hv => by rw [hd.out, hd'.out]; exact enc_same HCK.out f_ck hlt hv
            have kk : (¬ (j : Int) < 108 ∧ ¬ ((124 : Int) ≤ j ∧ (j : Int) < 136) ∧ ¬ ((148 : Int) ≤ j ∧ (j : Int) < 257) ∧ ¬ ((345 : Int) ≤ j ∧ (j : Int) < 500)) → d = d' := fun h => key (by
              unfold varyB; rintro (h' | h' | h' | h')
              · exact h.1 (by omega)
              · exact h.2.1 ⟨by omega, by omega⟩
              · exact h.2.2.1 ⟨by omega, by omega⟩
              · exact h.2.2.2 ⟨by omega, by omega⟩)
            by_cases v1 : (j : Int) < 108
            · exact .inl v1
            · by_cases v2 : (124 : Int) ≤ j
              · by_cases v3 : (j : Int) < 136
                · exact .inr (.inl ⟨v1, v2, v3⟩)
                · by_cases v4 : (148 : Int) ≤ j
                  · by_cases v5 : (j : Int) < 257
                    · exact .inr (.inr (.inl ⟨v1, v2, v3, v4, v5⟩))
                    · by_cases v6 : (345 : Int) ≤ j
                      · by_cases v7 : (j : Int) < 500
                        · exact .inr (.inr (.inr (.inl ⟨v1, v2, v3, v4, v5, v6, v7⟩)))
                        · exact .inr (.inr (.inr (.inr (.inr (.inr (.inr ⟨kk ⟨v1, fun h => v3 h.2, fun h => v5 h.2, fun h => v7 h.2⟩, v1, v2, v3, v4, v5, v6, v7⟩))))))
                      · exact .inr (.inr (.inr (.inr (.inr (.inr (.inl ⟨kk ⟨v1, fun h => v3 h.2, fun h => v5 h.2, fun h => v6 h.1⟩, v1, v2, v3, v4, v5, v6⟩))))))
                  · have v6 : ¬ (345 : Int) ≤ j := by omega
                    exact .inr (.inr (.inr (.inr (.inr (.inl ⟨kk ⟨v1, fun h => v3 h.2, fun h => v4 h.1, fun h => v6 h.1⟩, v1, v2, v3, v4, v6⟩)))))
              · have v4 : ¬ (148 : Int) ≤ j := by omega
                have v6 : ¬ (345 : Int) ≤ j := by omega
                exact .inr (.inr (.inr (.inr (.inl ⟨kk ⟨v1, fun h => v2 h.1, fun h => v4 h.1, fun h => v6 h.1⟩, v1, v2, v4, v6⟩))))
          clear hbr hlt
          rcases cs with v1 | ⟨v1, v2, v3⟩ | ⟨v1, v2, v3, v4, v5⟩ | ⟨v1, v2, v3, v4, v5, v6, v7⟩ | ⟨v0, v1, v2, v4, v6⟩ | ⟨v0, v1, v2, v3, v4, v6⟩ | ⟨v0, v1, v2, v3, v4, v5, v6⟩ | ⟨v0, v1, v2, v3, v4, v5, v6, v7⟩
          iterate 4
            · go_wp2_with fail
              go_quiet (fail)
              go_wp2
              go_roundw
              case rel => exact ⟨j + 1, by omega, by go_num, BR.out.trans (drewN_below _ _ _)⟩
              case measure => simp [intOf]; omega
          all_goals
            subst v0
            go_wp2_with fail
            go_quiet (fail)
            go_wp2
            go_roundw
            case rel => exact ⟨j + 1, by omega, by go_num, BR.out.trans (drewN_below _ _ _)⟩
            case measure => simp [intOf]; omega
        · obtain rfl : j = 512 := by omega
          clear hlt hj
          have b5 := BR.out
          have R5 := Lib.hid (R4.out.below b5 L4.out); have H5 := Lib.hid (H4.out.below b5 H4.out.lt); have B5 := Lib.hid (B4.out.trans (b5.mono B4.out.size)); have L5 : Hid (xb < wr.heap.size) := Nat.lt_of_lt_of_le L4.out b5.size
          have c0 := H5.out.get 0 rfl; have c1 := H5.out.get 1 rfl; have c2 := H5.out.get 2 rfl; have c3 := H5.out.get 3 rfl; have c4 := H5.out.get 4 rfl; have c5 := H5.out.get 5 rfl
          clear b5
          go_wp2_with fail
          go_quiet (fail)
          clear c0 c1 c2 c3 c4 c5
          obtain ⟨n1, hs1⟩ : ∃ n, nm.size = n := ⟨_, rfl⟩
          obtain ⟨n2, hs2⟩ : ∃ n, lk.size = n := ⟨_, rfl⟩
          obtain ⟨n3, hs3⟩ : ∃ n, pf.size = n := ⟨_, rfl⟩
          obtain ⟨_, k2, k3, k4, _⟩ := ckH_zero.1 HCK.out
          obtain ⟨t1, t2, t3⟩ := enc_text HCK.out
          have hc2 := C2.out; have hm2 := M2.out
          have m1 : n1 ≤ 100 := by have := ce_len (k := 100) k2; rw [numsOf_length] at this; omega
          have m2 : n2 ≤ 100 := by have := ce_len (k := 100) k3; rw [numsOf_length] at this; omega
          have m3 : n3 ≤ 155 := by have := ce_len (k := 155) k4; rw [numsOf_length] at this; omega
          rw [numsOf_length, hs1] at t1; rw [numsOf_length, hs2] at t2; rw [numsOf_length, hs3] at t3
          have HT1 := Lib.hid t1; have HT2 := Lib.hid t2; have HT3 := Lib.hid t3
          have K7 : Hid (∀ w', Below wr.heap.size wr w' → (fun w' => (convert 26 9 (.slice (some ⟨xb, 0, none⟩) n1 xc)).run Tryd.prog w' = .ok (.string nm) w' ∧ (convert 26 9 (.slice (some ⟨xb, 157, none⟩) n2 (xc - 157))).run Tryd.prog w' = .ok (.string lk) w' ∧ (convert 26 9 (.slice (some ⟨xb, 345, none⟩) n3 (xc - 345))).run Tryd.prog w' = .ok (.string pf) w' ∧ w'.cell? ⟨xb, 156, none⟩ = some (.int .u8 T) ∧ w'.cell? ⟨w.heap.size, 0, none⟩ = some (.int .u8 T)) w') := fun w' hb => by
            have r := R5.out.below hb L5.out
            refine ⟨?_, ?_, ?_, ?_, (H5.out.below hb H5.out.lt).get 0 rfl⟩
            · have r1 := r.take n1
              rw [HT1.out] at r1
              have := run_str_of (P := Tryd.prog) (w := w') Tryd.underlying26 Tryd.underlying5 Tryd.underlying9 r1 n1 xc (by rw [numsOf_length]; exact hs1)
              rwa [strOfNums_numsOf] at this
            · have r1 := (r.drop 157).take n2
              rw [HT2.out, Nat.zero_add] at r1
              have := run_str_of (P := Tryd.prog) (w := w') Tryd.underlying26 Tryd.underlying5 Tryd.underlying9 r1 n2 (xc - 157) (by rw [numsOf_length]; exact hs2)
              rwa [strOfNums_numsOf] at this
            · have r1 := (r.drop 345).take n3
              rw [HT3.out, Nat.zero_add] at r1
              have := run_str_of (P := Tryd.prog) (w := w') Tryd.underlying26 Tryd.underlying5 Tryd.underlying9 r1 n3 (xc - 345) (by rw [numsOf_length]; exact hs3)
              rwa [strOfNums_numsOf] at this
            · have := r.cell0 156 (by rw [enc_length HCK.out]; decide)
              rwa [(enc_fields HCK.out).2.2.2.1] at this
          have a1 : (n1 : Int) ≤ xc := by omega
          have a1' : n1 ≤ xc := by omega
          obtain ⟨e2, he2⟩ : ∃ e, e = 157 + n2 := ⟨_, rfl⟩
          obtain ⟨e3, he3⟩ : ∃ e, e = 345 + n3 := ⟨_, rfl⟩
          have q2 : IntKind.i64.wrap (157 + (n2 : Int)) = (e2 : Int) := by rw [show (157 : Int) + (n2 : Int) = (e2 : Int) by omega]; exact wrapN (by omega) (by omega)
          have q3 : IntKind.i64.wrap (345 + (n3 : Int)) = (e3 : Int) := by rw [show (345 : Int) + (n3 : Int) = (e3 : Int) by omega]; exact wrapN (by omega) (by omega)
          have a2 : e2 ≤ xc := by omega
          have a3 : e3 ≤ xc := by omega
          have a4 : 157 ≤ e2 := by omega
          have a5 : 345 ≤ e3 := by omega
          have p2 : e2 - 157 = n2 := by omega
          have p3 : e3 - 345 = n3 := by omega
          have l2 : (e2 : Int) ≤ xc := by omega
          have l3 : (e3 : Int) ≤ xc := by omega
          have g2 : (157 : Int) ≤ (e2 : Int) := by omega
          have g3 : (345 : Int) ≤ (e3 : Int) := by omega
          have a6 : ¬ xc = 157 := by omega
          have a7 : ¬ xc = 345 := by omega
          have a8 : ¬ xc = 0 := by omega
          clear t1 t2 t3 k2 k3 k4 hc2 hm2 m1 m2 m3 he2 he3
          go_wp2_with fail
          refine wp_region_held_drew (S := (fun w' => (convert 26 9 (.slice (some ⟨xb, 0, none⟩) n1 xc)).run Tryd.prog w' = .ok (.string nm) w' ∧ (convert 26 9 (.slice (some ⟨xb, 157, none⟩) n2 (xc - 157))).run Tryd.prog w' = .ok (.string lk) w' ∧ (convert 26 9 (.slice (some ⟨xb, 345, none⟩) n3 (xc - 345))).run Tryd.prog w' = .ok (.string pf) w' ∧ w'.cell? ⟨xb, 156, none⟩ = some (.int .u8 T) ∧ w'.cell? ⟨w.heap.size, 0, none⟩ = some (.int .u8 T))) (by kernel_rfl) (K7.out _ ((drewN_below _ _ _).trans (Below.refl _ _).drew)) (fun hHeld => ?_)
          refine wpAnyH_ready (rs := [0]) (by kernel_rfl) (by simp) ?_
          refine AllReadyH.cons (o := { dst := some 92, op := Go.Op.call { callee := Go.Callee.value (Go.Operand.func 10), args := #[], argTypes := #[] }, type := 4, pos := "law.go:105", after := #[], guard := none }) rfl (fun K hK => ?_) AllReadyH.nil
          go_simp
          refine (alive_any _).mono ?_; rintro e w8 ⟨rfl, b8⟩
          have B8 : Hid (Below wr.heap.size wr w8) := ((drewN_below _ _ _).trans (Below.refl _ _).drew).trans b8; clear b8
          go_wp2_with fail
          refine hK.out _ _ (K7.out _ B8.out) (fun hHeld => ?_)
          clear hK K
          (try simp only [Act.put, List.setIfInBounds_toArray, List.set_cons_zero, List.set_cons_succ])
          refine wpAnyH_take (i := 1) (oi := { dst := some 93, op := Go.Op.move (Go.Operand.tmp 92), type := 4, pos := "law.go:105", after := #[{ on := 0, ground := Go.Ground.data }, { on := 0, ground := Go.Ground.chain }], guard := none }) (v := ?_) rfl (by kernel_rfl) (by kernel_rfl) (by kernel_rfl) (fun _ _ _ h => h) (Or.inl ⟨by rfl, ?_⟩) (by assumption) ?_
          rotate_left 1
          focus ((intro wS hSw; (try dsimp only at hSw); go_simp) <;> (try with_reducible rfl))
          simp only [Act.put, List.setIfInBounds_toArray, List.set_cons_zero, List.set_cons_succ]
          refine wpAnyH_take (i := 2) (oi := { dst := some 94, op := Go.Op.move (Go.Operand.tmp 3), type := 26, pos := "law.go:105", after := #[{ on := 1, ground := Go.Ground.guard }], guard := some (1, true) }) (v := ?_) rfl (by kernel_rfl) (by kernel_rfl) (by kernel_rfl) (fun _ _ _ h => h) (Or.inl ⟨by rfl, ?_⟩) (by assumption) ?_
          rotate_left 1
          focus ((intro wS hSw; (try dsimp only at hSw); go_simp) <;> (try with_reducible rfl))
          simp only [Act.put, List.setIfInBounds_toArray, List.set_cons_zero, List.set_cons_succ]
          refine wpAnyH_take (i := 3) (oi := { dst := some 95, op := Go.Op.move (Go.Operand.tmp 9), type := 9, pos := "law.go:105", after := #[{ on := 1, ground := Go.Ground.guard }], guard := some (1, true) }) (v := ?_) rfl (by kernel_rfl) (by kernel_rfl) (by kernel_rfl) (fun _ _ _ h => h) (Or.inl ⟨by rfl, ?_⟩) (by assumption) ?_
          rotate_left 1
          focus ((intro wS hSw; (try dsimp only at hSw); go_simp) <;> (try with_reducible rfl))
          simp only [Act.put, List.setIfInBounds_toArray, List.set_cons_zero, List.set_cons_succ]
          refine wpAnyH_take (i := 4) (oi := { dst := some 96, op := Go.Op.call { callee := Go.Callee.builtin Go.Builtin.len, args := #[Go.Operand.tmp 95], argTypes := #[9] }, type := 3, pos := "law.go:105", after := #[{ on := 3, ground := Go.Ground.data }, { on := 1, ground := Go.Ground.guard }], guard := some (1, true) }) (v := ?_) rfl (by kernel_rfl) (by kernel_rfl) (by kernel_rfl) (fun _ _ _ h => h) (Or.inl ⟨by rfl, ?_⟩) (by assumption) ?_
          rotate_left 1
          focus ((intro wS hSw; (try dsimp only at hSw); go_simp) <;> (try with_reducible rfl))
          simp only [Act.put, List.setIfInBounds_toArray, List.set_cons_zero, List.set_cons_succ]
          refine wpAnyH_take (i := 5) (oi := { dst := some 97, op := Go.Op.slice 26 (Go.Operand.tmp 94) none (some (Go.Operand.tmp 96)) none, type := 26, pos := "law.go:105", after := #[{ on := 2, ground := Go.Ground.data }, { on := 4, ground := Go.Ground.data }, { on := 1, ground := Go.Ground.guard }], guard := some (1, true) }) (v := ?_) rfl (by kernel_rfl) (by kernel_rfl) (by kernel_rfl) (fun _ _ _ h => h) (Or.inl ⟨by rfl, ?_⟩) (by assumption) ?_
          rotate_left 1
          focus ((intro wS hSw; (try dsimp only at hSw); go_simp) <;> (try with_reducible rfl))
          simp only [Act.put, List.setIfInBounds_toArray, List.set_cons_zero, List.set_cons_succ]
          refine wpAnyH_take (i := 6) (oi := { dst := some 98, op := Go.Op.convert 26 9 (Go.Operand.tmp 97), type := 9, pos := "law.go:105", after := #[{ on := 5, ground := Go.Ground.data }, { on := 1, ground := Go.Ground.guard }], guard := some (1, true) }) (v := ?_) rfl (by kernel_rfl) (by kernel_rfl) (by kernel_rfl) (fun _ _ _ h => h) (Or.inl ⟨by rfl, ?_⟩) (by assumption) ?_
          rotate_left 1
          focus ((intro wS hSw; (try dsimp only at hSw); go_simp) <;> (try with_reducible rfl))
          simp only [Act.put, List.setIfInBounds_toArray, List.set_cons_zero, List.set_cons_succ]
          refine wpAnyH_take (i := 7) (oi := { dst := some 99, op := Go.Op.move (Go.Operand.tmp 9), type := 9, pos := "law.go:105", after := #[{ on := 1, ground := Go.Ground.guard }], guard := some (1, true) }) (v := ?_) rfl (by kernel_rfl) (by kernel_rfl) (by kernel_rfl) (fun _ _ _ h => h) (Or.inl ⟨by rfl, ?_⟩) (by assumption) ?_
          rotate_left 1
          focus ((intro wS hSw; (try dsimp only at hSw); go_simp) <;> (try with_reducible rfl))
          simp only [Act.put, List.setIfInBounds_toArray, List.set_cons_zero, List.set_cons_succ]
          refine wpAnyH_take (i := 8) (oi := { dst := some 100, op := Go.Op.binOp Go.BinOp.eql 9 (Go.Operand.tmp 98) (Go.Operand.tmp 99) 9, type := 4, pos := "law.go:105", after := #[{ on := 6, ground := Go.Ground.data }, { on := 7, ground := Go.Ground.data }, { on := 1, ground := Go.Ground.guard }], guard := some (1, true) }) (v := ?_) rfl (by kernel_rfl) (by kernel_rfl) (by kernel_rfl) (fun _ _ _ h => h) (Or.inl ⟨by rfl, ?_⟩) (by assumption) ?_
          rotate_left 1
          focus ((intro wS hSw; (try dsimp only at hSw); go_simp) <;> (try with_reducible rfl))
          simp only [Act.put, List.setIfInBounds_toArray, List.set_cons_zero, List.set_cons_succ]
          refine wpAnyH_take (i := 9) (oi := { dst := some 101, op := Go.Op.pick (Go.Operand.tmp 93) (Go.Operand.tmp 100) (Go.Operand.const (Go.Value.bool false)), type := 4, pos := "law.go:105", after := #[{ on := 1, ground := Go.Ground.data }, { on := 8, ground := Go.Ground.data }], guard := none }) (v := ?_) rfl (by kernel_rfl) (by kernel_rfl) (by kernel_rfl) (fun _ _ _ h => h) (Or.inl ⟨by rfl, ?_⟩) (by assumption) ?_
          rotate_left 1
          focus ((intro wS hSw; (try dsimp only at hSw); go_simp) <;> (try with_reducible rfl))
          simp only [Act.put, List.setIfInBounds_toArray, List.set_cons_zero, List.set_cons_succ]
          refine wpAnyH_take (i := 10) (oi := { dst := some 102, op := Go.Op.move (Go.Operand.tmp 101), type := 4, pos := "law.go:105", after := #[{ on := 9, ground := Go.Ground.data }, { on := 1, ground := Go.Ground.chain }], guard := none }) (v := ?_) rfl (by kernel_rfl) (by kernel_rfl) (by kernel_rfl) (fun _ _ _ h => h) (Or.inl ⟨by rfl, ?_⟩) (by assumption) ?_
          rotate_left 1
          focus ((intro wS hSw; (try dsimp only at hSw); go_simp) <;> (try with_reducible rfl))
          simp only [Act.put, List.setIfInBounds_toArray, List.set_cons_zero, List.set_cons_succ]
          refine wpAnyH_take (i := 11) (oi := { dst := some 103, op := Go.Op.move (Go.Operand.tmp 3), type := 26, pos := "law.go:105", after := #[{ on := 10, ground := Go.Ground.guard }], guard := some (10, true) }) (v := ?_) rfl (by kernel_rfl) (by kernel_rfl) (by kernel_rfl) (fun _ _ _ h => h) (Or.inl ⟨by rfl, ?_⟩) (by assumption) ?_
          rotate_left 1
          focus ((intro wS hSw; (try dsimp only at hSw); go_simp) <;> (try with_reducible rfl))
          simp only [Act.put, List.setIfInBounds_toArray, List.set_cons_zero, List.set_cons_succ]
          refine wpAnyH_take (i := 12) (oi := { dst := some 104, op := Go.Op.move (Go.Operand.tmp 10), type := 9, pos := "law.go:105", after := #[{ on := 10, ground := Go.Ground.guard }], guard := some (10, true) }) (v := ?_) rfl (by kernel_rfl) (by kernel_rfl) (by kernel_rfl) (fun _ _ _ h => h) (Or.inl ⟨by rfl, ?_⟩) (by assumption) ?_
          rotate_left 1
          focus ((intro wS hSw; (try dsimp only at hSw); go_simp) <;> (try with_reducible rfl))
          simp only [Act.put, List.setIfInBounds_toArray, List.set_cons_zero, List.set_cons_succ]
          refine wpAnyH_take (i := 13) (oi := { dst := some 105, op := Go.Op.call { callee := Go.Callee.builtin Go.Builtin.len, args := #[Go.Operand.tmp 104], argTypes := #[9] }, type := 3, pos := "law.go:105", after := #[{ on := 12, ground := Go.Ground.data }, { on := 10, ground := Go.Ground.guard }], guard := some (10, true) }) (v := ?_) rfl (by kernel_rfl) (by kernel_rfl) (by kernel_rfl) (fun _ _ _ h => h) (Or.inl ⟨by rfl, ?_⟩) (by assumption) ?_
          rotate_left 1
          focus ((intro wS hSw; (try dsimp only at hSw); go_simp) <;> (try with_reducible rfl))
          simp only [Act.put, List.setIfInBounds_toArray, List.set_cons_zero, List.set_cons_succ]
          refine wpAnyH_take (i := 14) (oi := { dst := some 106, op := Go.Op.binOp Go.BinOp.add 3 (Go.Operand.const (Go.Value.int Go.IntKind.i64 157)) (Go.Operand.tmp 105) 3, type := 3, pos := "law.go:105", after := #[{ on := 13, ground := Go.Ground.data }, { on := 10, ground := Go.Ground.guard }], guard := some (10, true) }) (v := ?_) rfl (by kernel_rfl) (by kernel_rfl) (by kernel_rfl) (fun _ _ _ h => h) (Or.inl ⟨by rfl, ?_⟩) (by assumption) ?_
          rotate_left 1
          focus ((intro wS hSw; (try dsimp only at hSw); go_simp) <;> (try with_reducible rfl))
          simp only [Act.put, List.setIfInBounds_toArray, List.set_cons_zero, List.set_cons_succ]
          refine wpAnyH_take (i := 15) (oi := { dst := some 107, op := Go.Op.slice 26 (Go.Operand.tmp 103) (some (Go.Operand.const (Go.Value.int Go.IntKind.i64 157))) (some (Go.Operand.tmp 106)) none, type := 26, pos := "law.go:105", after := #[{ on := 11, ground := Go.Ground.data }, { on := 14, ground := Go.Ground.data }, { on := 10, ground := Go.Ground.guard }], guard := some (10, true) }) (v := ?_) rfl (by kernel_rfl) (by kernel_rfl) (by kernel_rfl) (fun _ _ _ h => h) (Or.inl ⟨by rfl, ?_⟩) (by assumption) ?_
          rotate_left 1
          focus ((intro wS hSw; (try dsimp only at hSw); go_simp) <;> (try with_reducible rfl))
          simp only [Act.put, List.setIfInBounds_toArray, List.set_cons_zero, List.set_cons_succ]
          refine wpAnyH_take (i := 16) (oi := { dst := some 108, op := Go.Op.convert 26 9 (Go.Operand.tmp 107), type := 9, pos := "law.go:105", after := #[{ on := 15, ground := Go.Ground.data }, { on := 10, ground := Go.Ground.guard }], guard := some (10, true) }) (v := ?_) rfl (by kernel_rfl) (by kernel_rfl) (by kernel_rfl) (fun _ _ _ h => h) (Or.inl ⟨by rfl, ?_⟩) (by assumption) ?_
          rotate_left 1
          focus ((intro wS hSw; (try dsimp only at hSw); go_simp) <;> (try with_reducible rfl))
          simp only [Act.put, List.setIfInBounds_toArray, List.set_cons_zero, List.set_cons_succ]
          refine wpAnyH_take (i := 17) (oi := { dst := some 109, op := Go.Op.move (Go.Operand.tmp 10), type := 9, pos := "law.go:105", after := #[{ on := 10, ground := Go.Ground.guard }], guard := some (10, true) }) (v := ?_) rfl (by kernel_rfl) (by kernel_rfl) (by kernel_rfl) (fun _ _ _ h => h) (Or.inl ⟨by rfl, ?_⟩) (by assumption) ?_
          rotate_left 1
          focus ((intro wS hSw; (try dsimp only at hSw); go_simp) <;> (try with_reducible rfl))
          simp only [Act.put, List.setIfInBounds_toArray, List.set_cons_zero, List.set_cons_succ]
          refine wpAnyH_take (i := 18) (oi := { dst := some 110, op := Go.Op.binOp Go.BinOp.eql 9 (Go.Operand.tmp 108) (Go.Operand.tmp 109) 9, type := 4, pos := "law.go:105", after := #[{ on := 16, ground := Go.Ground.data }, { on := 17, ground := Go.Ground.data }, { on := 10, ground := Go.Ground.guard }], guard := some (10, true) }) (v := ?_) rfl (by kernel_rfl) (by kernel_rfl) (by kernel_rfl) (fun _ _ _ h => h) (Or.inl ⟨by rfl, ?_⟩) (by assumption) ?_
          rotate_left 1
          focus ((intro wS hSw; (try dsimp only at hSw); go_simp) <;> (try with_reducible rfl))
          simp only [Act.put, List.setIfInBounds_toArray, List.set_cons_zero, List.set_cons_succ]
          refine wpAnyH_take (i := 19) (oi := { dst := some 111, op := Go.Op.pick (Go.Operand.tmp 102) (Go.Operand.tmp 110) (Go.Operand.const (Go.Value.bool false)), type := 4, pos := "law.go:105", after := #[{ on := 10, ground := Go.Ground.data }, { on := 18, ground := Go.Ground.data }], guard := none }) (v := ?_) rfl (by kernel_rfl) (by kernel_rfl) (by kernel_rfl) (fun _ _ _ h => h) (Or.inl ⟨by rfl, ?_⟩) (by assumption) ?_
          rotate_left 1
          focus ((intro wS hSw; (try dsimp only at hSw); go_simp) <;> (try with_reducible rfl))
          simp only [Act.put, List.setIfInBounds_toArray, List.set_cons_zero, List.set_cons_succ]
          refine wpAnyH_take (i := 20) (oi := { dst := some 112, op := Go.Op.move (Go.Operand.tmp 111), type := 4, pos := "law.go:105", after := #[{ on := 19, ground := Go.Ground.data }, { on := 10, ground := Go.Ground.chain }], guard := none }) (v := ?_) rfl (by kernel_rfl) (by kernel_rfl) (by kernel_rfl) (fun _ _ _ h => h) (Or.inl ⟨by rfl, ?_⟩) (by assumption) ?_
          rotate_left 1
          focus ((intro wS hSw; (try dsimp only at hSw); go_simp) <;> (try with_reducible rfl))
          simp only [Act.put, List.setIfInBounds_toArray, List.set_cons_zero, List.set_cons_succ]
          refine wpAnyH_take (i := 21) (oi := { dst := some 113, op := Go.Op.move (Go.Operand.tmp 3), type := 26, pos := "law.go:105", after := #[{ on := 20, ground := Go.Ground.guard }], guard := some (20, true) }) (v := ?_) rfl (by kernel_rfl) (by kernel_rfl) (by kernel_rfl) (fun _ _ _ h => h) (Or.inl ⟨by rfl, ?_⟩) (by assumption) ?_
          rotate_left 1
          focus ((intro wS hSw; (try dsimp only at hSw); go_simp) <;> (try with_reducible rfl))
          simp only [Act.put, List.setIfInBounds_toArray, List.set_cons_zero, List.set_cons_succ]
          refine wpAnyH_take (i := 22) (oi := { dst := some 114, op := Go.Op.move (Go.Operand.tmp 11), type := 9, pos := "law.go:105", after := #[{ on := 20, ground := Go.Ground.guard }], guard := some (20, true) }) (v := ?_) rfl (by kernel_rfl) (by kernel_rfl) (by kernel_rfl) (fun _ _ _ h => h) (Or.inl ⟨by rfl, ?_⟩) (by assumption) ?_
          rotate_left 1
          focus ((intro wS hSw; (try dsimp only at hSw); go_simp) <;> (try with_reducible rfl))
          simp only [Act.put, List.setIfInBounds_toArray, List.set_cons_zero, List.set_cons_succ]
          refine wpAnyH_take (i := 23) (oi := { dst := some 115, op := Go.Op.call { callee := Go.Callee.builtin Go.Builtin.len, args := #[Go.Operand.tmp 114], argTypes := #[9] }, type := 3, pos := "law.go:105", after := #[{ on := 22, ground := Go.Ground.data }, { on := 20, ground := Go.Ground.guard }], guard := some (20, true) }) (v := ?_) rfl (by kernel_rfl) (by kernel_rfl) (by kernel_rfl) (fun _ _ _ h => h) (Or.inl ⟨by rfl, ?_⟩) (by assumption) ?_
          rotate_left 1
          focus ((intro wS hSw; (try dsimp only at hSw); go_simp) <;> (try with_reducible rfl))
          simp only [Act.put, List.setIfInBounds_toArray, List.set_cons_zero, List.set_cons_succ]
          refine wpAnyH_take (i := 24) (oi := { dst := some 116, op := Go.Op.binOp Go.BinOp.add 3 (Go.Operand.const (Go.Value.int Go.IntKind.i64 345)) (Go.Operand.tmp 115) 3, type := 3, pos := "law.go:105", after := #[{ on := 23, ground := Go.Ground.data }, { on := 20, ground := Go.Ground.guard }], guard := some (20, true) }) (v := ?_) rfl (by kernel_rfl) (by kernel_rfl) (by kernel_rfl) (fun _ _ _ h => h) (Or.inl ⟨by rfl, ?_⟩) (by assumption) ?_
          rotate_left 1
          focus ((intro wS hSw; (try dsimp only at hSw); go_simp) <;> (try with_reducible rfl))
          simp only [Act.put, List.setIfInBounds_toArray, List.set_cons_zero, List.set_cons_succ]
          refine wpAnyH_take (i := 25) (oi := { dst := some 117, op := Go.Op.slice 26 (Go.Operand.tmp 113) (some (Go.Operand.const (Go.Value.int Go.IntKind.i64 345))) (some (Go.Operand.tmp 116)) none, type := 26, pos := "law.go:105", after := #[{ on := 21, ground := Go.Ground.data }, { on := 24, ground := Go.Ground.data }, { on := 20, ground := Go.Ground.guard }], guard := some (20, true) }) (v := ?_) rfl (by kernel_rfl) (by kernel_rfl) (by kernel_rfl) (fun _ _ _ h => h) (Or.inl ⟨by rfl, ?_⟩) (by assumption) ?_
          rotate_left 1
          focus ((intro wS hSw; (try dsimp only at hSw); go_simp) <;> (try with_reducible rfl))
          simp only [Act.put, List.setIfInBounds_toArray, List.set_cons_zero, List.set_cons_succ]
          refine wpAnyH_take (i := 26) (oi := { dst := some 118, op := Go.Op.convert 26 9 (Go.Operand.tmp 117), type := 9, pos := "law.go:105", after := #[{ on := 25, ground := Go.Ground.data }, { on := 20, ground := Go.Ground.guard }], guard := some (20, true) }) (v := ?_) rfl (by kernel_rfl) (by kernel_rfl) (by kernel_rfl) (fun _ _ _ h => h) (Or.inl ⟨by rfl, ?_⟩) (by assumption) ?_
          rotate_left 1
          focus ((intro wS hSw; (try dsimp only at hSw); go_simp) <;> (try with_reducible rfl))
          simp only [Act.put, List.setIfInBounds_toArray, List.set_cons_zero, List.set_cons_succ]
          refine wpAnyH_take (i := 27) (oi := { dst := some 119, op := Go.Op.move (Go.Operand.tmp 11), type := 9, pos := "law.go:105", after := #[{ on := 20, ground := Go.Ground.guard }], guard := some (20, true) }) (v := ?_) rfl (by kernel_rfl) (by kernel_rfl) (by kernel_rfl) (fun _ _ _ h => h) (Or.inl ⟨by rfl, ?_⟩) (by assumption) ?_
          rotate_left 1
          focus ((intro wS hSw; (try dsimp only at hSw); go_simp) <;> (try with_reducible rfl))
          simp only [Act.put, List.setIfInBounds_toArray, List.set_cons_zero, List.set_cons_succ]
          refine wpAnyH_take (i := 28) (oi := { dst := some 120, op := Go.Op.binOp Go.BinOp.eql 9 (Go.Operand.tmp 118) (Go.Operand.tmp 119) 9, type := 4, pos := "law.go:105", after := #[{ on := 26, ground := Go.Ground.data }, { on := 27, ground := Go.Ground.data }, { on := 20, ground := Go.Ground.guard }], guard := some (20, true) }) (v := ?_) rfl (by kernel_rfl) (by kernel_rfl) (by kernel_rfl) (fun _ _ _ h => h) (Or.inl ⟨by rfl, ?_⟩) (by assumption) ?_
          rotate_left 1
          focus ((intro wS hSw; (try dsimp only at hSw); go_simp) <;> (try with_reducible rfl))
          simp only [Act.put, List.setIfInBounds_toArray, List.set_cons_zero, List.set_cons_succ]
          refine wpAnyH_take (i := 29) (oi := { dst := some 121, op := Go.Op.pick (Go.Operand.tmp 112) (Go.Operand.tmp 120) (Go.Operand.const (Go.Value.bool false)), type := 4, pos := "law.go:105", after := #[{ on := 20, ground := Go.Ground.data }, { on := 28, ground := Go.Ground.data }], guard := none }) (v := ?_) rfl (by kernel_rfl) (by kernel_rfl) (by kernel_rfl) (fun _ _ _ h => h) (Or.inl ⟨by rfl, ?_⟩) (by assumption) ?_
          rotate_left 1
          focus ((intro wS hSw; (try dsimp only at hSw); go_simp) <;> (try with_reducible rfl))
          simp only [Act.put, List.setIfInBounds_toArray, List.set_cons_zero, List.set_cons_succ]
          refine wpAnyH_take (i := 30) (oi := { dst := some 122, op := Go.Op.move (Go.Operand.tmp 121), type := 4, pos := "law.go:105", after := #[{ on := 29, ground := Go.Ground.data }, { on := 20, ground := Go.Ground.chain }], guard := none }) (v := ?_) rfl (by kernel_rfl) (by kernel_rfl) (by kernel_rfl) (fun _ _ _ h => h) (Or.inl ⟨by rfl, ?_⟩) (by assumption) ?_
          rotate_left 1
          focus ((intro wS hSw; (try dsimp only at hSw); go_simp) <;> (try with_reducible rfl))
          simp only [Act.put, List.setIfInBounds_toArray, List.set_cons_zero, List.set_cons_succ]
          refine wpAnyH_take (i := 31) (oi := { dst := some 123, op := Go.Op.move (Go.Operand.tmp 3), type := 26, pos := "law.go:105", after := #[{ on := 30, ground := Go.Ground.guard }], guard := some (30, true) }) (v := ?_) rfl (by kernel_rfl) (by kernel_rfl) (by kernel_rfl) (fun _ _ _ h => h) (Or.inl ⟨by rfl, ?_⟩) (by assumption) ?_
          rotate_left 1
          focus ((intro wS hSw; (try dsimp only at hSw); go_simp) <;> (try with_reducible rfl))
          simp only [Act.put, List.setIfInBounds_toArray, List.set_cons_zero, List.set_cons_succ]
          refine wpAnyH_take (i := 32) (oi := { dst := some 124, op := Go.Op.indexAddr 26 (Go.Operand.tmp 123) (Go.Operand.const (Go.Value.int Go.IntKind.i64 156)), type := 0, pos := "law.go:105", after := #[{ on := 31, ground := Go.Ground.data }, { on := 30, ground := Go.Ground.guard }], guard := some (30, true) }) (v := ?_) rfl (by kernel_rfl) (by kernel_rfl) (by kernel_rfl) (fun _ _ _ h => h) (Or.inl ⟨by rfl, ?_⟩) (by assumption) ?_
          rotate_left 1
          focus ((intro wS hSw; (try dsimp only at hSw); go_simp) <;> (try with_reducible rfl))
          simp only [Act.put, List.setIfInBounds_toArray, List.set_cons_zero, List.set_cons_succ]
          refine wpAnyH_take (i := 33) (oi := { dst := some 125, op := Go.Op.load 5 (Go.Operand.tmp 124), type := 5, pos := "law.go:105", after := #[{ on := 32, ground := Go.Ground.data }, { on := 30, ground := Go.Ground.guard }], guard := some (30, true) }) (v := ?_) rfl (by kernel_rfl) (by kernel_rfl) (by kernel_rfl) (fun _ _ _ h => h) (Or.inl ⟨by rfl, ?_⟩) (by assumption) ?_
          rotate_left 1
          focus ((intro wS hSw; (try dsimp only at hSw); go_simp) <;> (try with_reducible rfl))
          simp only [Act.put, List.setIfInBounds_toArray, List.set_cons_zero, List.set_cons_succ]
          refine wpAnyH_take (i := 34) (oi := { dst := some 126, op := Go.Op.fieldAddr 23 (Go.Operand.tmp 1) 0, type := 0, pos := "law.go:105", after := #[{ on := 30, ground := Go.Ground.guard }], guard := some (30, true) }) (v := ?_) rfl (by kernel_rfl) (by kernel_rfl) (by kernel_rfl) (fun _ _ _ h => h) (Or.inl ⟨by rfl, ?_⟩) (by assumption) ?_
          rotate_left 1
          focus ((intro wS hSw; (try dsimp only at hSw); go_simp) <;> (try with_reducible rfl))
          simp only [Act.put, List.setIfInBounds_toArray, List.set_cons_zero, List.set_cons_succ]
          refine wpAnyH_take (i := 35) (oi := { dst := some 127, op := Go.Op.load 5 (Go.Operand.tmp 126), type := 5, pos := "law.go:105", after := #[{ on := 34, ground := Go.Ground.data }, { on := 30, ground := Go.Ground.guard }], guard := some (30, true) }) (v := ?_) rfl (by kernel_rfl) (by kernel_rfl) (by kernel_rfl) (fun _ _ _ h => h) (Or.inl ⟨by rfl, ?_⟩) (by assumption) ?_
          rotate_left 1
          focus ((intro wS hSw; (try dsimp only at hSw); go_simp) <;> (try with_reducible rfl))
          simp only [Act.put, List.setIfInBounds_toArray, List.set_cons_zero, List.set_cons_succ]
          refine wpAnyH_take (i := 36) (oi := { dst := some 128, op := Go.Op.binOp Go.BinOp.eql 5 (Go.Operand.tmp 125) (Go.Operand.tmp 127) 5, type := 4, pos := "law.go:105", after := #[{ on := 33, ground := Go.Ground.data }, { on := 35, ground := Go.Ground.data }, { on := 30, ground := Go.Ground.guard }], guard := some (30, true) }) (v := ?_) rfl (by kernel_rfl) (by kernel_rfl) (by kernel_rfl) (fun _ _ _ h => h) (Or.inl ⟨by rfl, ?_⟩) (by assumption) ?_
          rotate_left 1
          focus ((intro wS hSw; (try dsimp only at hSw); go_simp) <;> (try with_reducible rfl))
          simp only [Act.put, List.setIfInBounds_toArray, List.set_cons_zero, List.set_cons_succ]
          refine wpAnyH_take (i := 37) (oi := { dst := some 129, op := Go.Op.pick (Go.Operand.tmp 122) (Go.Operand.tmp 128) (Go.Operand.const (Go.Value.bool false)), type := 4, pos := "law.go:105", after := #[{ on := 30, ground := Go.Ground.data }, { on := 36, ground := Go.Ground.data }], guard := none }) (v := ?_) rfl (by kernel_rfl) (by kernel_rfl) (by kernel_rfl) (fun _ _ _ h => h) (Or.inl ⟨by rfl, ?_⟩) (by assumption) ?_
          rotate_left 1
          focus ((intro wS hSw; (try dsimp only at hSw); go_simp) <;> (try with_reducible rfl))
          simp only [Act.put, List.setIfInBounds_toArray, List.set_cons_zero, List.set_cons_succ]
          refine wpAnyH_take (i := 38) (oi := { dst := some 2, op := Go.Op.assign (Go.Operand.tmp 129), type := 4, pos := "law.go:105", after := #[{ on := 37, ground := Go.Ground.data }, { on := 30, ground := Go.Ground.chain }, { on := 0, ground := Go.Ground.phase }, { on := 1, ground := Go.Ground.phase }, { on := 2, ground := Go.Ground.phase }, { on := 3, ground := Go.Ground.phase }, { on := 4, ground := Go.Ground.phase }, { on := 5, ground := Go.Ground.phase }, { on := 6, ground := Go.Ground.phase }, { on := 7, ground := Go.Ground.phase }, { on := 8, ground := Go.Ground.phase }, { on := 9, ground := Go.Ground.phase }, { on := 10, ground := Go.Ground.phase }, { on := 11, ground := Go.Ground.phase }, { on := 12, ground := Go.Ground.phase }, { on := 13, ground := Go.Ground.phase }, { on := 14, ground := Go.Ground.phase }, { on := 15, ground := Go.Ground.phase }, { on := 16, ground := Go.Ground.phase }, { on := 17, ground := Go.Ground.phase }, { on := 18, ground := Go.Ground.phase }, { on := 19, ground := Go.Ground.phase }, { on := 20, ground := Go.Ground.phase }, { on := 21, ground := Go.Ground.phase }, { on := 22, ground := Go.Ground.phase }, { on := 23, ground := Go.Ground.phase }, { on := 24, ground := Go.Ground.phase }, { on := 25, ground := Go.Ground.phase }, { on := 26, ground := Go.Ground.phase }, { on := 27, ground := Go.Ground.phase }, { on := 28, ground := Go.Ground.phase }, { on := 29, ground := Go.Ground.phase }, { on := 30, ground := Go.Ground.phase }, { on := 31, ground := Go.Ground.phase }, { on := 32, ground := Go.Ground.phase }, { on := 33, ground := Go.Ground.phase }, { on := 34, ground := Go.Ground.phase }, { on := 35, ground := Go.Ground.phase }, { on := 36, ground := Go.Ground.phase }, { on := 37, ground := Go.Ground.phase }], guard := none }) (v := ?_) rfl (by kernel_rfl) (by kernel_rfl) (by kernel_rfl) (fun _ _ _ h => h) (Or.inl ⟨by rfl, ?_⟩) (by assumption) ?_
          rotate_left 1
          focus ((intro wS hSw; (try dsimp only at hSw); go_simp) <;> (try with_reducible rfl))
          simp only [Act.put, List.setIfInBounds_toArray, List.set_cons_zero, List.set_cons_succ]
          refine wpAnyH_done (by kernel_rfl) ?_ _
          go_wp2_with fail
          go_ret
          exact ⟨rfl, B5.out.trans (B8.out.mono B5.out.size)⟩
  · obtain ⟨E0, hE0⟩ := named (ckH T nm pf lk md sz)
    have hne0 : (E0 != 0) = true := by rw [hE0.out]; simp [hck]
    refine (enc_bad T nm pf lk md sz w1 HN.out HP.out HK.out HTB.out hck).mono ?_; rintro e w2 ⟨rfl, b2⟩
    rw [← hE0.out]
    have B2 := Lib.hid (B1.out.trans (b2.mono B1.out.size)); have H2 := Lib.hid (H1.out.below b2 H1.out.lt); clear b2 hck
    have c0 := H2.out.get 0 rfl; have c1 := H2.out.get 1 rfl; have c2 := H2.out.get 2 rfl; have c3 := H2.out.get 3 rfl; have c4 := H2.out.get 4 rfl; have c5 := H2.out.get 5 rfl
    go_wp2_with fail
    clear c0 c1 c2 c3 c4 c5
    refine (large_any T nm pf lk md sz w2 HN.out HP.out HK.out).mono ?_; rintro e w3 ⟨LB, rfl, b3⟩
    have B3 := Lib.hid (B2.out.trans (b3.mono B2.out.size)); clear b3
    have GO : Hid (Calls Tryd.prog 10 #[] w3 fun e w' => e = .returned (.bool true) ∧ Below w.heap.size w w') := (alive_any w3).mono fun e w' ⟨h1, h2⟩ => ⟨h1, B3.out.trans (h2.mono B3.out.size)⟩
    cases LB with
    | true =>
      go_wp2_with fail
      refine GO.out.mono ?_; rintro e w4 ⟨rfl, b4⟩
      have B4 := Lib.hid b4; clear b4
      go_wp2_with fail
      go_ret
      exact ⟨rfl, B4.out⟩
    | false =>
      go_wp2_with fail
      refine GO.out.mono ?_; rintro e w4 ⟨rfl, b4⟩
      have B4 := Lib.hid b4; clear b4
      go_wp2_with fail
      go_ret
      exact ⟨rfl, B4.out⟩
end Go.Proofs.YtbgmhdhfcckbbaaDoor
