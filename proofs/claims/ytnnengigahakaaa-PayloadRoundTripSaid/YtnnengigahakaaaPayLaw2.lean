/-
  PayloadRoundTrip, walked.
-/
import Derived.Test.YtnnengigahakaaaPayAlive
import Derived.Test.YtnnengigahakaaaPayRead
import Derived.Test.YtnnengigahakaaaPayMore
import Derived.Test.YtnnengigahakaaaStructArg
import Derived.Test.YtnnengigahakaaaSwitch
namespace Go.Proofs.Ytnnengigahakaaa
open Go.RowKit

theorem endN_neg (n : Nat) : endN (-1) n = n := by unfold endN; rw [if_neg (by omega)]
theorem endE_neg (n : Nat) : endE (-1) n = 4 := by unfold endE; rw [if_neg (by omega)]

set_option maxRecDepth 100000 in
set_option maxHeartbeats 8000000 in
theorem walk_PayloadRoundTrip (a : Option Addr) (len cap : Nat) (zs : List Int) (ca : Option Addr) (cl cc : Nat) (cs : List Int) (F : Int) (at_ : Int) (w : World) (hz : ArgInts .u8 w a len cap zs) (hc : ArgInts .i64 w ca cl cc cs) (_ : (Lit.int .i64 F).wf = true) (hat : (Lit.int .u16 at_).wf = true) :
    Calls Try.prog 4 #[.slice a len cap, .agg #[.slice ca cl cc, .int .i64 F], .int .u16 at_] w fun e w' => e = .returned (.bool true) ∧ Below w.heap.size w w' := by
  have HB := Lib.hid hz.bytes; have HL := Lib.hid hz.1; have HC := Lib.hid hz.2.1; have HI := Lib.hid hc.inK; have HCL := Lib.hid hc.1
  have HBA : Hid (∀ x, a = some x → zs = [] ∨ x.block < w.heap.size) := by
    intro x hx
    rcases hz.bytes with h | ⟨b', off', h1, h2, _⟩
    · exact .inl h
    · rw [h1] at hx; cases hx; exact .inr h2
  obtain ⟨t0, t1⟩ := bounds_u16 hat
  obtain ⟨t, rfl⟩ : ∃ t : Nat, at_ = t := ⟨at_.toNat, by omega⟩
  clear hz hc hat t0
  by_cases h3000 : (3000 : Int) < len
  · go_enter Try.func4, Try.ntmps4
    go_wp2_with (first | (refine wpList_box_obj rfl 25 _ rfl [.slice ca cl cc, .int .i64 F] rfl ?_; intro w1 h1 b1; have H1 := Lib.hid h1; have B1 := Lib.hid b1; have c0 := h1.get 0 rfl; have c1 := h1.get 1 rfl; clear h1 b1))
    refine (alive_any _).mono ?_; rintro e w2 ⟨rfl, b2⟩
    go_wp2
    go_ret
    exact ⟨rfl, B1.out.trans (b2.mono B1.out.size)⟩
  · by_cases h300 : (300 : Int) < cl
    · go_enter Try.func4, Try.ntmps4
      go_wp2_with (first | (refine wpList_box_obj rfl 25 _ rfl [.slice ca cl cc, .int .i64 F] rfl ?_; intro w1 h1 b1; have H1 := Lib.hid h1; have B1 := Lib.hid b1; have c0 := h1.get 0 rfl; have c1 := h1.get 1 rfl; clear h1 b1))
      refine (alive_any _).mono ?_; rintro e w2 ⟨rfl, b2⟩
      go_wp2
      go_ret
      exact ⟨rfl, B1.out.trans (b2.mono B1.out.size)⟩
    · have hz : (Try.prog.info? 25).map (·.zero) = some (some (.agg [Value.slice none 0 0, .int .i64 0].toArray)) := by kernel_rfl
      have hs : (Try.prog.info? 25).map (·.size) = some 2 := by kernel_rfl
      have HZ := Lib.hid hz; have HS := Lib.hid hs
      clear hz hs
      obtain ⟨p, hp⟩ := named (padN len)
      obtain ⟨D, hD⟩ := named (len + p)
      obtain ⟨n, hn⟩ := named (blkN len)
      have HBN : Hid (D = 512 * blkN len) := by show _ = _; rw [hD.out, hp.out]; exact padN_blk len
      have hmul : (512 : Int) * (n : Int) = D := by rw [HBN.out, ← hn.out]; omega
      have hpD : (D : Int) - len = p := by have := hD.out; omega
      have hlD : (len : Int) ≤ D := by have := hD.out; omega
      have D9 : Hid (D ≤ 4000) := by show _ ≤ _; rw [hD.out, hp.out]; unfold padN; omega
      have hD4 : (D : Int) ≤ 4000 := by have := D9.out; omega
      have ebl : blkN (len : Int).toNat = n := hn.out.symm
      obtain ⟨Y, hY⟩ := named (zs ++ zeros p)
      have YL : Hid (Y.length = D) := by show _ = _; rw [hY.out, List.length_append, HL.out, zeros_length, hD.out]
      have ZB : Hid (Bytes zs) := HB.out.bytes
      have YB : Hid (Bytes Y) := by show Bytes _; rw [hY.out]; exact ZB.out.append (zeros_bytes _)
      obtain ⟨SZ, hSZ⟩ := named (strOfNums zs)
      have HQ : Hid (rdE Y 4 0 0 len = 0 ∧ rdP Y 0 0 len = D ∧ rdD Y 0 0 len = zs) := by
        obtain ⟨e1, e2, e3, _⟩ := rd_full (Z := Y) (R := []) (y := zs) (E := 4) (o := 0) (p := p) (by rw [List.drop_zero, List.append_nil, hY.out]) (by rw [HL.out, hp.out]) (by rw [HL.out]; omega) (Nat.zero_le _)
        rw [HL.out] at e1 e2 e3
        exact ⟨e1, by rw [e2, hD.out, Nat.zero_add], e3⟩
      go_enter Try.func4, Try.ntmps4
      go_wp2_with (first | (refine wpList_box_obj rfl 25 _ rfl [.slice ca cl cc, .int .i64 F] rfl ?_; intro w1 h1 b1; have H1 := Lib.hid h1; have B1 := Lib.hid b1; have c0 := h1.get 0 rfl; have c1 := h1.get 1 rfl; clear h1 b1) | (refine wpList_alloc_obj rfl 25 rfl [.slice none 0 0, .int .i64 0] HZ.out ?_; intro w3 h3 b3; have H3 := Lib.hid h3; have B3 := Lib.hid b3; clear h3 b3) | (refine wpList_store_obj rfl 25 _ _ rfl w1.heap.size rfl [.slice ca cl cc, .int .i64 (-1)] [.slice none 0 0, .int .i64 0] rfl 25 H3.out HS.out rfl (by intro v hv; simp at hv; rcases hv with rfl | rfl <;> rfl) ?_; intro w4 h4 t4; have H4 := Lib.hid h4; have T4 := Lib.hid t4; have d0 := h4.get 0 rfl; have d1 := h4.get 1 rfl; clear h4 t4))
      have B14 : Hid (Below w1.heap.size w1 w4) := B3.out.trans (T4.out.below (Nat.le_refl _))
      have K0 : Hid (∀ w', Below w4.heap.size w4 w' → w'.cell? ⟨w1.heap.size, 0, none⟩ = some (.slice ca cl cc) ∧ w'.cell? ⟨w1.heap.size, 1, none⟩ = some (.int .i64 (-1))) := fun w' hb => ⟨(H4.out.below hb H4.out.lt).get 0 rfl, (H4.out.below hb H4.out.lt).get 1 rfl⟩
      have HB4 := Lib.hid ((HB.out.below B1.out).below B14.out); have HI4 := Lib.hid ((HI.out.below B1.out).below B14.out)
      have L4 : Hid (w.heap.size ≤ w4.heap.size) := Nat.le_trans B1.out.size B14.out.size
      clear c0 c1
      refine (snk_new ca cl cc cs (-1) w4 HI4.out HCL.out (by omega)).mono ?_; rintro e w5 ⟨m, rfl, s5, b5⟩
      have S5 := Lib.hid s5; have B5 := Lib.hid b5
      clear s5 b5 d0 d1
      go_wp2_with fail
      refine (wtr_new w5 S5.out).mono ?_; rintro e w6 ⟨q, rfl, s6, b6⟩
      have HS6 : Hid (∀ k, Grow (fun k => w4.heap.size ≤ k ∧ k < w5.heap.size) w5 w6 k → w4.heap.size ≤ k) := fun k hk => hk.elim (fun h => h.1) (fun h => Nat.le_trans B5.out.size h.1)
      obtain ⟨S6, hS6⟩ := named (Grow (fun k => w4.heap.size ≤ k ∧ k < w5.heap.size) w5 w6)
      rw [← hS6.out] at s6 HS6
      have W6 := Lib.hid s6; have B6 := Lib.hid (B5.out.trans (b6.mono B5.out.size))
      clear s6 b6 S5 hS6
      go_wp2_with fail
      refine (pwrite_any a len cap zs w6 W6.out (HB4.out.below B6.out) HL.out HC.out (by show 0 + len ≤ _; omega) (by decide) (fun x hx => (HBA.out x hx).imp id fun h hs => by have := HS6.out _ hs; have := L4.out; omega) p (by rw [hp.out, Nat.zero_add])).mono ?_; rintro e w7 ⟨rfl, s7, o7⟩
      obtain ⟨k1, k2⟩ := ww_neg (F := -1) (by decide) ([] : List Int).length (len + p)
      have et : ([] : List Int) ++ (zs ++ zeros p).take (len + p) = Y := by rw [List.nil_append, hY.out, List.take_of_length_le (by rw [List.length_append, HL.out, zeros_length]; exact Nat.le_refl _)]
      rw [k1, k2, et] at s7
      rw [k2]
      obtain ⟨S7', cs7, r7, hs7, _, _⟩ := s7.sink
      have S7 := Lib.hid hs7
      have B7 := Lib.hid (B6.out.trans (o7.below (B := w4.heap.size) HS6.out B6.out.size))
      clear s7 o7 k1 k2 et hs7 W6
      go_wp2_with fail
      refine (sbytes_any w7 S7.out).mono ?_; rintro e w8 ⟨v8, rfl, o8, b8⟩
      rw [YL.out] at o8
      have B8 := Lib.hid (B7.out.trans (b8.mono B7.out.size))
      have O8 : Hid (w8.ownsRow w4.heap.size 5 1 v8 D (Y.map (.int .u8))) := own_base o8 B7.out.size
      clear o8 b8 S7
      obtain ⟨ba, bc, hv8, x8, xc8, _, _, _⟩ := own_any O8.out
      subst hv8
      have X8 := Lib.hid x8; have XC8 := Lib.hid xc8
      obtain ⟨d0, d1⟩ := K0.out _ B8.out
      clear x8 xc8
      go_wp2_with fail
      refine (new_any ba D bc Y ca cl cc cs (-1) w8 (X8.out.bytes YB.out) YL.out XC8.out (by omega) (HI4.out.below B8.out) HCL.out (by omega)).mono ?_; rintro e w9 ⟨s, rfl, s9, b9⟩
      rw [endN_neg, endE_neg, List.take_of_length_le (by rw [YL.out]; exact Nat.le_refl _)] at s9
      have S9 := Lib.hid s9; have B9 := Lib.hid (B8.out.trans (b9.mono B8.out.size))
      have O9 := Lib.hid (own_keep O8.out b9 (Nat.le_refl _)); have Z9 : Hid (w8.heap.size ≤ w9.heap.size) := b9.size
      clear s9 b9 d0 d1
      go_wp2_with fail
      refine (rdr_new w9 S9.out).mono ?_; rintro e w10 ⟨q1, rfl, r10, b10⟩
      have R10 := Lib.hid r10; have B10 := Lib.hid (B9.out.trans (b10.mono B9.out.size))
      have O10 := Lib.hid (own_keep O9.out b10 (Nat.le_refl _)); have Z10 : Hid (w8.heap.size ≤ w10.heap.size) := Nat.le_trans Z9.out b10.size
      clear r10 b10
      go_wp2_with fail
      have Z8 : Hid (∀ x, ba = some x → x.block < w8.heap.size) := fun x hx => by
        obtain ⟨b', c', hv, _, _, _, _, h⟩ := own_any O8.out
        simp only [Value.slice.injEq, true_and] at hv
        obtain ⟨rfl, rfl⟩ := hv
        exact (h x hx).2.1
      refine (pread_any (len : Int) w10 R10.out (.inr rfl)).mono ?_; rintro e w11 ⟨⟨b11, c11, rfl, l11, i11, x11⟩, r11, u11⟩
      rw [HQ.out.2.2] at i11
      rw [HQ.out.1, HQ.out.2.1, HQ.out.2.2, HL.out]
      have B11 := Lib.hid (B10.out.trans (u11.below (B := w4.heap.size) B8.out.size B10.out.size))
      have O11 : Hid (w11.ownsRow w4.heap.size 5 1 (.slice ba D bc) D (Y.map (.int .u8))) := by
        obtain ⟨h1, h2⟩ := O10.out
        refine ⟨h1, h2.imp id ?_⟩
        rintro ⟨g, c, cur, hv, hb, hh, r⟩
        refine ⟨g, c, cur, hv, hb, ?_, r⟩
        simp only [Value.slice.injEq, true_and] at hv
        have hlt := Z8.out ⟨g, 0, none⟩ hv.1
        rw [u11.block g (Nat.lt_of_lt_of_le hlt Z10.out) (.inl hlt)]
        exact hh
      have k6 : (convert 22 9 (.slice b11 len c11)).run Try.prog w11 = .ok (.string SZ) w11 := by
        rw [hSZ.out]; exact run_str_in (P := Try.prog) Try.underlying22 Try.underlying5 Try.underlying9 (i11.bytes ZB.out) len c11 HL.out
      have k7 : (convert 22 9 (.slice a len cap)).run Try.prog w11 = .ok (.string SZ) w11 := by
        rw [hSZ.out]; exact run_str_in (P := Try.prog) Try.underlying22 Try.underlying5 Try.underlying9 (HB4.out.below B11.out) len cap HL.out
      clear l11 i11 x11 r11 u11
      go_wp2_with fail
      refine (blocks_any (len : Int) (by omega) w11).mono ?_; rintro e w12 ⟨rfl, rfl⟩
      rw [ebl]
      by_cases hD0 : D = 0
      · subst hD0
        go_wp2_with fail
        refine (alive_any _).mono ?_; rintro e x5 ⟨rfl, b5⟩
        have X5 := Lib.hid (B11.out.trans (b5.mono B11.out.size))
        clear b5
        go_wp2_with fail
        go_ret
        exact ⟨rfl, B1.out.trans ((B14.out.trans (X5.out.mono B14.out.size)).mono B1.out.size)⟩
      · obtain ⟨g, bc', hv, hg⟩ := own_shape O11.out (by omega)
        simp only [Value.slice.injEq, true_and] at hv
        obtain ⟨rfl, rfl⟩ := hv
        obtain ⟨cut, hcut⟩ : ∃ cut : Nat, (t : Int) % (D : Int) = cut := ⟨t % D, by omega⟩
        have HCUT : Hid (cut < D ∧ D ≤ bc) := by
          show _ ∧ _
          exact ⟨by have : (t : Int) % (D : Int) < D := Int.emod_lt_of_pos _ (by omega); omega, XC8.out⟩
        have hD0' : ((D : Int) == 0) = false := by simp; omega
        have hcb : (cut : Int) ≤ bc := by have := HCUT.out; omega
        have hfz := fun i => O11.out.frozenAt i
        clear k6 k7
        by_cases hp0 : p = 0
        · have HB11 : Hid (BytesIn w11 (some ⟨g, 0, none⟩) Y) := .of_own O11.out YB.out
          have hp0' : ¬ (0 : Int) < p := by omega
          clear hfz
          have HSH : Hid (rdE (Y.take cut) 4 0 0 len = 5 ∧ rdP (Y.take cut) 0 0 len = cut ∧ rdD (Y.take cut) 0 0 len = []) := by
            have hl : (Y.take cut).length = cut := by rw [List.length_take, YL.out]; have := HCUT.out; omega
            obtain ⟨e1, e2, e3⟩ := rd_short (Z := Y.take cut) (s := len) (by omega) (by rw [hl, ← HBN.out]; have := HCUT.out; omega)
            rw [hl] at e2
            exact ⟨e1, e2, e3⟩
          go_wp2_with fail
          refine wp_region_held_drew (S := (fun w' => w'.cell? ⟨w1.heap.size, 0, none⟩ = some (.slice ca cl cc) ∧ w'.cell? ⟨w1.heap.size, 1, none⟩ = some (.int .i64 (-1)))) (by kernel_rfl) (K0.out _ (B11.out.trans ((Below.refl w11.heap.size w11).drew.mono B11.out.size))) (fun hHeld => ?_)
          refine wpAnyH_take (i := 0) (oi := { dst := some 131, op := Go.Op.move (Go.Operand.tmp 9), type := 22, pos := "law.go:86", after := #[], guard := none }) (v := ?_) rfl (by kernel_rfl) (by kernel_rfl) (by kernel_rfl) (fun _ _ _ h => h) (Or.inl ⟨by rfl, ?_⟩) (by assumption) ?_
          rotate_left 1
          focus ((intro wS hSw; (try dsimp only at hSw); go_simp) <;> (try with_reducible rfl))
          simp only [Act.put, List.setIfInBounds_toArray, List.set_cons_zero, List.set_cons_succ]
          refine wpAnyH_take (i := 1) (oi := { dst := some 132, op := Go.Op.move (Go.Operand.tmp 18), type := 3, pos := "law.go:86", after := #[], guard := none }) (v := ?_) rfl (by kernel_rfl) (by kernel_rfl) (by kernel_rfl) (fun _ _ _ h => h) (Or.inl ⟨by rfl, ?_⟩) (by assumption) ?_
          rotate_left 1
          focus ((intro wS hSw; (try dsimp only at hSw); go_simp) <;> (try with_reducible rfl))
          simp only [Act.put, List.setIfInBounds_toArray, List.set_cons_zero, List.set_cons_succ]
          refine wpAnyH_take (i := 2) (oi := { dst := some 133, op := Go.Op.slice 22 (Go.Operand.tmp 131) none (some (Go.Operand.tmp 132)) none, type := 22, pos := "law.go:86", after := #[{ on := 0, ground := Go.Ground.data }, { on := 1, ground := Go.Ground.data }], guard := none }) (v := ?_) rfl (by kernel_rfl) (by kernel_rfl) (by kernel_rfl) (fun _ _ _ h => h) (Or.inl ⟨by rfl, ?_⟩) (by assumption) ?_
          rotate_left 1
          focus ((intro wS hSw; (try dsimp only at hSw); go_simp) <;> (try with_reducible rfl))
          simp only [Act.put, List.setIfInBounds_toArray, List.set_cons_zero, List.set_cons_succ]
          refine wpAnyH_take (i := 3) (oi := { dst := some 134, op := Go.Op.load 25 (Go.Operand.tmp 7), type := 25, pos := "law.go:86", after := #[], guard := none }) (v := ?_) rfl (by kernel_rfl) (by kernel_rfl) (by kernel_rfl) (fun _ _ _ h => h) (Or.inl ⟨by rfl, ?_⟩) (by assumption) ?_
          rotate_left 1
          focus ((intro wS hSw; (try dsimp only at hSw); go_simp) <;> (try with_reducible rfl))
          simp only [Act.put, List.setIfInBounds_toArray, List.set_cons_zero, List.set_cons_succ]
          refine wpAnyH_take (i := 6) (oi := { dst := some 137, op := Go.Op.move (Go.Operand.tmp 0), type := 22, pos := "law.go:86", after := #[], guard := none }) (v := ?_) rfl (by kernel_rfl) (by kernel_rfl) (by kernel_rfl) (fun _ _ _ h => h) (Or.inl ⟨by rfl, ?_⟩) (by assumption) ?_
          rotate_left 1
          focus ((intro wS hSw; (try dsimp only at hSw); go_simp) <;> (try with_reducible rfl))
          simp only [Act.put, List.setIfInBounds_toArray, List.set_cons_zero, List.set_cons_succ]
          refine wpAnyH_take (i := 7) (oi := { dst := some 138, op := Go.Op.call { callee := Go.Callee.builtin Go.Builtin.len, args := #[Go.Operand.tmp 137], argTypes := #[22] }, type := 3, pos := "law.go:86", after := #[{ on := 6, ground := Go.Ground.data }], guard := none }) (v := ?_) rfl (by kernel_rfl) (by kernel_rfl) (by kernel_rfl) (fun _ _ _ h => h) (Or.inl ⟨by rfl, ?_⟩) (by assumption) ?_
          rotate_left 1
          focus ((intro wS hSw; (try dsimp only at hSw); go_simp) <;> (try with_reducible rfl))
          simp only [Act.put, List.setIfInBounds_toArray, List.set_cons_zero, List.set_cons_succ]
          refine wpAnyH_ready (rs := [4]) (by kernel_rfl) (by simp) ?_
          refine AllReadyH.cons (o := { dst := some 135, op := Go.Op.call { callee := Go.Callee.value (Go.Operand.func 10), args := #[Go.Operand.tmp 133, Go.Operand.tmp 134], argTypes := #[22, 25] }, type := 30, pos := "law.go:86", after := #[{ on := 2, ground := Go.Ground.data }, { on := 3, ground := Go.Ground.data }], guard := none }) rfl (fun K hK => ?_) AllReadyH.nil
          go_simp
          refine (new_any (some ⟨g, 0, none⟩) cut bc (Y.take cut) ca cl cc cs (-1) w11.drew (HB11.out.take cut |>.below (Below.refl _ _).drew) (by rw [List.length_take, YL.out]; have := HCUT.out; omega) (by have := HCUT.out; omega) (by have := HCUT.out; have := D9.out; omega) (HI4.out.below (B11.out.trans ((Below.refl w11.heap.size w11).drew.mono B11.out.size))) HCL.out (by omega)).mono ?_; rintro e x2 ⟨s, rfl, s2, b2⟩
          rw [endN_neg, endE_neg, List.take_take, Nat.min_self] at s2
          have XS2 := Lib.hid s2
          have X2 : Hid (Below w4.heap.size w4 x2) := B11.out.trans (((Below.refl w11.heap.size w11).drew.trans b2).mono B11.out.size)
          clear s2 b2
          go_wp2_with fail
          refine hK.out _ _ (K0.out _ X2.out) (fun hHeld => ?_)
          clear hK K
          (try simp only [Act.put, List.setIfInBounds_toArray, List.set_cons_zero, List.set_cons_succ])
          refine wpAnyH_ready (rs := [5]) (by kernel_rfl) (by simp) ?_
          refine AllReadyH.cons (o := { dst := some 136, op := Go.Op.call { callee := Go.Callee.value (Go.Operand.func 9), args := #[Go.Operand.tmp 135], argTypes := #[30] }, type := 28, pos := "law.go:86", after := #[{ on := 4, ground := Go.Ground.data }, { on := 4, ground := Go.Ground.chain }], guard := none }) rfl (fun K hK => ?_) AllReadyH.nil
          go_simp
          refine (rdr_new x2 XS2.out).mono ?_; rintro e x3 ⟨q3, rfl, r3, b3⟩
          have XR3 := Lib.hid r3; have X3 := Lib.hid (X2.out.trans (b3.mono X2.out.size))
          clear r3 b3
          go_wp2_with fail
          refine hK.out _ _ (K0.out _ X3.out) (fun hHeld => ?_)
          clear hK K
          (try simp only [Act.put, List.setIfInBounds_toArray, List.set_cons_zero, List.set_cons_succ])
          refine wpAnyH_ready (rs := [8]) (by kernel_rfl) (by simp) ?_
          refine AllReadyH.cons (o := { dst := some 139, op := Go.Op.call { callee := Go.Callee.value (Go.Operand.func 12), args := #[Go.Operand.tmp 136, Go.Operand.tmp 138], argTypes := #[28, 2] }, type := 38, pos := "law.go:86", after := #[{ on := 5, ground := Go.Ground.data }, { on := 7, ground := Go.Ground.data }, { on := 5, ground := Go.Ground.chain }], guard := none }) rfl (fun K hK => ?_) AllReadyH.nil
          go_simp
          refine (pread_any (len : Int) x3 XR3.out (.inr rfl)).mono ?_; rintro e x4 ⟨⟨b4, c4, rfl, l4, i4, y4⟩, r4, u4⟩
          rw [HSH.out.1, HSH.out.2.1, HSH.out.2.2]
          have X4 := Lib.hid (X3.out.trans (u4.below (B := w4.heap.size) B11.out.size X3.out.size))
          clear l4 i4 y4 r4 u4
          go_wp2_with fail
          refine hK.out _ _ (K0.out _ X4.out) (fun hHeld => ?_)
          clear hK K
          (try simp only [Act.put, List.setIfInBounds_toArray, List.set_cons_zero, List.set_cons_succ])
          refine wpAnyH_take (i := 9) (oi := { dst := some 130, op := Go.Op.move (Go.Operand.tmp 139), type := 38, pos := "law.go:86", after := #[{ on := 8, ground := Go.Ground.data }], guard := none }) (v := ?_) rfl (by kernel_rfl) (by kernel_rfl) (by kernel_rfl) (fun _ _ _ h => h) (Or.inl ⟨by rfl, ?_⟩) (by assumption) ?_
          rotate_left 1
          focus ((intro wS hSw; (try dsimp only at hSw); go_simp) <;> (try with_reducible rfl))
          simp only [Act.put, List.setIfInBounds_toArray, List.set_cons_zero, List.set_cons_succ]
          refine wpAnyH_take (i := 10) (oi := { dst := some 140, op := Go.Op.extract (Go.Operand.tmp 130) 0, type := 22, pos := "law.go:86", after := #[{ on := 9, ground := Go.Ground.data }], guard := none }) (v := ?_) rfl (by kernel_rfl) (by kernel_rfl) (by kernel_rfl) (fun _ _ _ h => h) (Or.inl ⟨by rfl, ?_⟩) (by assumption) ?_
          rotate_left 1
          focus ((intro wS hSw; (try dsimp only at hSw); go_simp) <;> (try with_reducible rfl))
          simp only [Act.put, List.setIfInBounds_toArray, List.set_cons_zero, List.set_cons_succ]
          refine wpAnyH_take (i := 11) (oi := { dst := some 141, op := Go.Op.extract (Go.Operand.tmp 130) 1, type := 2, pos := "law.go:86", after := #[{ on := 9, ground := Go.Ground.data }, { on := 13, ground := Go.Ground.gcOnly Go.Departure.lateStores }], guard := none }) (v := ?_) rfl (by kernel_rfl) (by kernel_rfl) (by kernel_rfl) (fun _ _ _ h => h) (Or.inl ⟨by rfl, ?_⟩) (by assumption) ?_
          rotate_left 1
          focus ((intro wS hSw; (try dsimp only at hSw); go_simp) <;> (try with_reducible rfl))
          simp only [Act.put, List.setIfInBounds_toArray, List.set_cons_zero, List.set_cons_succ]
          refine wpAnyH_take (i := 12) (oi := { dst := some 142, op := Go.Op.extract (Go.Operand.tmp 130) 2, type := 37, pos := "law.go:86", after := #[{ on := 9, ground := Go.Ground.data }, { on := 14, ground := Go.Ground.gcOnly Go.Departure.lateStores }], guard := none }) (v := ?_) rfl (by kernel_rfl) (by kernel_rfl) (by kernel_rfl) (fun _ _ _ h => h) (Or.inl ⟨by rfl, ?_⟩) (by assumption) ?_
          rotate_left 1
          focus ((intro wS hSw; (try dsimp only at hSw); go_simp) <;> (try with_reducible rfl))
          simp only [Act.put, List.setIfInBounds_toArray, List.set_cons_zero, List.set_cons_succ]
          refine wpAnyH_take (i := 13) (oi := { dst := some 19, op := Go.Op.assign (Go.Operand.tmp 140), type := 22, pos := "law.go:86", after := #[{ on := 10, ground := Go.Ground.data }, { on := 8, ground := Go.Ground.chain }, { on := 0, ground := Go.Ground.phase }, { on := 1, ground := Go.Ground.phase }, { on := 2, ground := Go.Ground.phase }, { on := 3, ground := Go.Ground.phase }, { on := 4, ground := Go.Ground.phase }, { on := 5, ground := Go.Ground.phase }, { on := 6, ground := Go.Ground.phase }, { on := 7, ground := Go.Ground.phase }, { on := 8, ground := Go.Ground.phase }, { on := 9, ground := Go.Ground.phase }, { on := 10, ground := Go.Ground.phase }, { on := 11, ground := Go.Ground.textOnly Go.Departure.lateStores }, { on := 12, ground := Go.Ground.textOnly Go.Departure.lateStores }], guard := none }) (v := ?_) rfl (by kernel_rfl) (by kernel_rfl) (by kernel_rfl) (fun _ _ _ h => h) (Or.inl ⟨by rfl, ?_⟩) (by assumption) ?_
          rotate_left 1
          focus ((intro wS hSw; (try dsimp only at hSw); go_simp) <;> (try with_reducible rfl))
          simp only [Act.put, List.setIfInBounds_toArray, List.set_cons_zero, List.set_cons_succ]
          refine wpAnyH_take (i := 14) (oi := { dst := some 20, op := Go.Op.assign (Go.Operand.tmp 141), type := 2, pos := "law.go:86", after := #[{ on := 11, ground := Go.Ground.data }, { on := 13, ground := Go.Ground.chain }, { on := 0, ground := Go.Ground.phase }, { on := 1, ground := Go.Ground.phase }, { on := 2, ground := Go.Ground.phase }, { on := 3, ground := Go.Ground.phase }, { on := 4, ground := Go.Ground.phase }, { on := 5, ground := Go.Ground.phase }, { on := 6, ground := Go.Ground.phase }, { on := 7, ground := Go.Ground.phase }, { on := 8, ground := Go.Ground.phase }, { on := 9, ground := Go.Ground.phase }, { on := 10, ground := Go.Ground.phase }, { on := 11, ground := Go.Ground.phase }, { on := 12, ground := Go.Ground.textOnly Go.Departure.lateStores }, { on := 13, ground := Go.Ground.phase }], guard := none }) (v := ?_) rfl (by kernel_rfl) (by kernel_rfl) (by kernel_rfl) (fun _ _ _ h => h) (Or.inl ⟨by rfl, ?_⟩) (by assumption) ?_
          rotate_left 1
          focus ((intro wS hSw; (try dsimp only at hSw); go_simp) <;> (try with_reducible rfl))
          simp only [Act.put, List.setIfInBounds_toArray, List.set_cons_zero, List.set_cons_succ]
          refine wpAnyH_take (i := 15) (oi := { dst := some 21, op := Go.Op.assign (Go.Operand.tmp 142), type := 37, pos := "law.go:86", after := #[{ on := 12, ground := Go.Ground.data }, { on := 14, ground := Go.Ground.chain }, { on := 0, ground := Go.Ground.phase }, { on := 1, ground := Go.Ground.phase }, { on := 2, ground := Go.Ground.phase }, { on := 3, ground := Go.Ground.phase }, { on := 4, ground := Go.Ground.phase }, { on := 5, ground := Go.Ground.phase }, { on := 6, ground := Go.Ground.phase }, { on := 7, ground := Go.Ground.phase }, { on := 8, ground := Go.Ground.phase }, { on := 9, ground := Go.Ground.phase }, { on := 10, ground := Go.Ground.phase }, { on := 11, ground := Go.Ground.phase }, { on := 12, ground := Go.Ground.phase }, { on := 13, ground := Go.Ground.phase }, { on := 14, ground := Go.Ground.phase }], guard := none }) (v := ?_) rfl (by kernel_rfl) (by kernel_rfl) (by kernel_rfl) (fun _ _ _ h => h) (Or.inl ⟨by rfl, ?_⟩) (by assumption) ?_
          rotate_left 1
          focus ((intro wS hSw; (try dsimp only at hSw); go_simp) <;> (try with_reducible rfl))
          simp only [Act.put, List.setIfInBounds_toArray, List.set_cons_zero, List.set_cons_succ]
          refine wpAnyH_done (by kernel_rfl) ?_ _
          go_wp2_with fail
          refine (alive_any _).mono ?_; rintro e x5 ⟨rfl, b5⟩
          have X5 := Lib.hid (X4.out.trans (b5.mono X4.out.size))
          clear b5
          go_wp2_with fail
          go_ret
          exact ⟨rfl, B1.out.trans ((B14.out.trans (X5.out.mono B14.out.size)).mono B1.out.size)⟩
        · obtain ⟨i, hi⟩ : ∃ i : Nat, (t : Int) % (p : Int) = i := ⟨t % p, by omega⟩
          have hip : i < p := by have : (t : Int) % (p : Int) < p := Int.emod_lt_of_pos _ (by omega); omega
          have hp0' : (0 : Int) < p := by omega
          have hiD : (len : Int) + i < D := by have := hD.out; omega
          have hpz : ¬ (p : Int) = 0 := by omega
          have hf := hfz (len + i)
          have hcell := (InK.of_own O11.out).get (len + i) (by rw [YL.out]; have := hD.out; omega)
          rw [Nat.zero_add] at hcell
          have hlt11 := (own_lt O11.out).2
          have b12 : Below w4.heap.size w4 (w11.setCell ⟨g, len + i, none⟩ (.int .u8 1)) := B11.out.setCell (p := ⟨g, len + i, none⟩) hg _
          obtain ⟨d0, d1⟩ := K0.out _ B11.out
          have hne1 : ¬ g = w1.heap.size := by have := H4.out.lt; omega
          have hne2 : ¬ w1.heap.size = g := by omega
          have o12 := own_store O11.out (len + i) 1
          obtain ⟨Y2, hY2⟩ := named (Y.set (len + i) 1)
          rw [← hY2.out] at o12
          have Y2L : Hid (Y2.length = D) := by show _ = _; rw [hY2.out, List.length_set, YL.out]
          have Y2B : Hid (Bytes Y2) := by show Bytes _; rw [hY2.out]; exact YB.out.set _ (by decide)
          have HQ2 : Hid (rdE Y2 4 0 0 len = 10 ∧ rdP Y2 0 0 len = len + i) := by
            have h := rd_bit (Z := Y2) (y := zs) (E := 4) (p := p) (i := i) (by rw [hY2.out, hY.out, HL.out]) (by rw [HL.out, hp.out]) (by rw [HL.out]; omega) hip
            rw [HL.out] at h
            exact h
          clear hfz
          go_wp2_with fail
          obtain ⟨w12, h12⟩ := named (w11.setCell ⟨g, len + i, none⟩ (.int .u8 1))
          rw [← h12.out]
          have B12 : Hid (Below w4.heap.size w4 w12) := by show Below _ _ _; rw [h12.out]; exact b12
          have X12 : Hid (BytesIn w12 (some ⟨g, 0, none⟩) Y2) := by show BytesIn _ _ _; rw [h12.out]; exact .of_own o12 Y2B.out
          have G12 : Hid (g < w12.heap.size) := by show _ < _; rw [h12.out]; simpa [World.setCell] using hlt11
          clear d0 d1 b12 o12 h12 hf hcell hlt11 hne1 hne2
          refine (new_any (some ⟨g, 0, none⟩) D bc Y2 ca cl cc cs (-1) w12 X12.out Y2L.out HCUT.out.2 (by omega) (HI4.out.below B12.out) HCL.out (by omega)).mono ?_; rintro e w13 ⟨s', rfl, s13, b13⟩
          rw [endN_neg, endE_neg, List.take_of_length_le (by rw [Y2L.out]; exact Nat.le_refl _)] at s13
          have S13 := Lib.hid s13; have C13 := Lib.hid b13
          clear s13 b13
          go_wp2_with fail
          refine (rdr_new w13 S13.out).mono ?_; rintro e w14 ⟨q2, rfl, r14, b14⟩
          have R14 := Lib.hid r14; have C14 := Lib.hid (C13.out.trans (b14.mono C13.out.size))
          clear r14 b14
          go_wp2_with fail
          refine (pread_any (len : Int) w14 R14.out (.inr rfl)).mono ?_; rintro e w15 ⟨⟨b15, c15, rfl, l15, i15, x15⟩, r15, u15⟩
          rw [HQ2.out.1, HQ2.out.2]
          have C15 := Lib.hid (C14.out.trans (u15.below (B := w12.heap.size) (Nat.le_refl _) C14.out.size))
          have B15 := Lib.hid (B12.out.trans (C15.out.mono B12.out.size))
          have HB15 := Lib.hid (X12.out.below C15.out)
          obtain ⟨N2, hN2⟩ := named (rdD Y2 0 0 len).length
          rw [← hN2.out]
          clear l15 i15 x15 r15 u15
          have HSH : Hid (rdE (Y2.take cut) 4 0 0 len = 5 ∧ rdP (Y2.take cut) 0 0 len = cut ∧ rdD (Y2.take cut) 0 0 len = []) := by
            have hl : (Y2.take cut).length = cut := by rw [List.length_take, Y2L.out]; have := HCUT.out; omega
            obtain ⟨e1, e2, e3⟩ := rd_short (Z := Y2.take cut) (s := len) (by omega) (by rw [hl, ← HBN.out]; have := HCUT.out; omega)
            rw [hl] at e2
            exact ⟨e1, e2, e3⟩
          go_wp2_with fail
          refine wp_region_held_drew (S := (fun w' => w'.cell? ⟨w1.heap.size, 0, none⟩ = some (.slice ca cl cc) ∧ w'.cell? ⟨w1.heap.size, 1, none⟩ = some (.int .i64 (-1)))) (by kernel_rfl) (K0.out _ (B15.out.trans ((Below.refl w15.heap.size w15).drew.mono B15.out.size))) (fun hHeld => ?_)
          refine wpAnyH_take (i := 0) (oi := { dst := some 131, op := Go.Op.move (Go.Operand.tmp 9), type := 22, pos := "law.go:86", after := #[], guard := none }) (v := ?_) rfl (by kernel_rfl) (by kernel_rfl) (by kernel_rfl) (fun _ _ _ h => h) (Or.inl ⟨by rfl, ?_⟩) (by assumption) ?_
          rotate_left 1
          focus ((intro wS hSw; (try dsimp only at hSw); go_simp) <;> (try with_reducible rfl))
          simp only [Act.put, List.setIfInBounds_toArray, List.set_cons_zero, List.set_cons_succ]
          refine wpAnyH_take (i := 1) (oi := { dst := some 132, op := Go.Op.move (Go.Operand.tmp 18), type := 3, pos := "law.go:86", after := #[], guard := none }) (v := ?_) rfl (by kernel_rfl) (by kernel_rfl) (by kernel_rfl) (fun _ _ _ h => h) (Or.inl ⟨by rfl, ?_⟩) (by assumption) ?_
          rotate_left 1
          focus ((intro wS hSw; (try dsimp only at hSw); go_simp) <;> (try with_reducible rfl))
          simp only [Act.put, List.setIfInBounds_toArray, List.set_cons_zero, List.set_cons_succ]
          refine wpAnyH_take (i := 2) (oi := { dst := some 133, op := Go.Op.slice 22 (Go.Operand.tmp 131) none (some (Go.Operand.tmp 132)) none, type := 22, pos := "law.go:86", after := #[{ on := 0, ground := Go.Ground.data }, { on := 1, ground := Go.Ground.data }], guard := none }) (v := ?_) rfl (by kernel_rfl) (by kernel_rfl) (by kernel_rfl) (fun _ _ _ h => h) (Or.inl ⟨by rfl, ?_⟩) (by assumption) ?_
          rotate_left 1
          focus ((intro wS hSw; (try dsimp only at hSw); go_simp) <;> (try with_reducible rfl))
          simp only [Act.put, List.setIfInBounds_toArray, List.set_cons_zero, List.set_cons_succ]
          refine wpAnyH_take (i := 3) (oi := { dst := some 134, op := Go.Op.load 25 (Go.Operand.tmp 7), type := 25, pos := "law.go:86", after := #[], guard := none }) (v := ?_) rfl (by kernel_rfl) (by kernel_rfl) (by kernel_rfl) (fun _ _ _ h => h) (Or.inl ⟨by rfl, ?_⟩) (by assumption) ?_
          rotate_left 1
          focus ((intro wS hSw; (try dsimp only at hSw); go_simp) <;> (try with_reducible rfl))
          simp only [Act.put, List.setIfInBounds_toArray, List.set_cons_zero, List.set_cons_succ]
          refine wpAnyH_take (i := 6) (oi := { dst := some 137, op := Go.Op.move (Go.Operand.tmp 0), type := 22, pos := "law.go:86", after := #[], guard := none }) (v := ?_) rfl (by kernel_rfl) (by kernel_rfl) (by kernel_rfl) (fun _ _ _ h => h) (Or.inl ⟨by rfl, ?_⟩) (by assumption) ?_
          rotate_left 1
          focus ((intro wS hSw; (try dsimp only at hSw); go_simp) <;> (try with_reducible rfl))
          simp only [Act.put, List.setIfInBounds_toArray, List.set_cons_zero, List.set_cons_succ]
          refine wpAnyH_take (i := 7) (oi := { dst := some 138, op := Go.Op.call { callee := Go.Callee.builtin Go.Builtin.len, args := #[Go.Operand.tmp 137], argTypes := #[22] }, type := 3, pos := "law.go:86", after := #[{ on := 6, ground := Go.Ground.data }], guard := none }) (v := ?_) rfl (by kernel_rfl) (by kernel_rfl) (by kernel_rfl) (fun _ _ _ h => h) (Or.inl ⟨by rfl, ?_⟩) (by assumption) ?_
          rotate_left 1
          focus ((intro wS hSw; (try dsimp only at hSw); go_simp) <;> (try with_reducible rfl))
          simp only [Act.put, List.setIfInBounds_toArray, List.set_cons_zero, List.set_cons_succ]
          refine wpAnyH_ready (rs := [4]) (by kernel_rfl) (by simp) ?_
          refine AllReadyH.cons (o := { dst := some 135, op := Go.Op.call { callee := Go.Callee.value (Go.Operand.func 10), args := #[Go.Operand.tmp 133, Go.Operand.tmp 134], argTypes := #[22, 25] }, type := 30, pos := "law.go:86", after := #[{ on := 2, ground := Go.Ground.data }, { on := 3, ground := Go.Ground.data }], guard := none }) rfl (fun K hK => ?_) AllReadyH.nil
          go_simp
          refine (new_any (some ⟨g, 0, none⟩) cut bc (Y2.take cut) ca cl cc cs (-1) w15.drew (HB15.out.take cut |>.below (Below.refl _ _).drew) (by rw [List.length_take, Y2L.out]; have := HCUT.out; omega) (by have := HCUT.out; omega) (by have := HCUT.out; have := D9.out; omega) (HI4.out.below (B15.out.trans ((Below.refl w15.heap.size w15).drew.mono B15.out.size))) HCL.out (by omega)).mono ?_; rintro e x2 ⟨s, rfl, s2, b2⟩
          rw [endN_neg, endE_neg, List.take_take, Nat.min_self] at s2
          have XS2 := Lib.hid s2
          have X2 : Hid (Below w4.heap.size w4 x2) := B15.out.trans (((Below.refl w15.heap.size w15).drew.trans b2).mono B15.out.size)
          clear s2 b2
          go_wp2_with fail
          refine hK.out _ _ (K0.out _ X2.out) (fun hHeld => ?_)
          clear hK K
          (try simp only [Act.put, List.setIfInBounds_toArray, List.set_cons_zero, List.set_cons_succ])
          refine wpAnyH_ready (rs := [5]) (by kernel_rfl) (by simp) ?_
          refine AllReadyH.cons (o := { dst := some 136, op := Go.Op.call { callee := Go.Callee.value (Go.Operand.func 9), args := #[Go.Operand.tmp 135], argTypes := #[30] }, type := 28, pos := "law.go:86", after := #[{ on := 4, ground := Go.Ground.data }, { on := 4, ground := Go.Ground.chain }], guard := none }) rfl (fun K hK => ?_) AllReadyH.nil
          go_simp
          refine (rdr_new x2 XS2.out).mono ?_; rintro e x3 ⟨q3, rfl, r3, b3⟩
          have XR3 := Lib.hid r3; have X3 := Lib.hid (X2.out.trans (b3.mono X2.out.size))
          clear r3 b3
          go_wp2_with fail
          refine hK.out _ _ (K0.out _ X3.out) (fun hHeld => ?_)
          clear hK K
          (try simp only [Act.put, List.setIfInBounds_toArray, List.set_cons_zero, List.set_cons_succ])
          refine wpAnyH_ready (rs := [8]) (by kernel_rfl) (by simp) ?_
          refine AllReadyH.cons (o := { dst := some 139, op := Go.Op.call { callee := Go.Callee.value (Go.Operand.func 12), args := #[Go.Operand.tmp 136, Go.Operand.tmp 138], argTypes := #[28, 2] }, type := 38, pos := "law.go:86", after := #[{ on := 5, ground := Go.Ground.data }, { on := 7, ground := Go.Ground.data }, { on := 5, ground := Go.Ground.chain }], guard := none }) rfl (fun K hK => ?_) AllReadyH.nil
          go_simp
          refine (pread_any (len : Int) x3 XR3.out (.inr rfl)).mono ?_; rintro e x4 ⟨⟨b4, c4, rfl, l4, i4, y4⟩, r4, u4⟩
          rw [HSH.out.1, HSH.out.2.1, HSH.out.2.2]
          have X4 := Lib.hid (X3.out.trans (u4.below (B := w4.heap.size) B15.out.size X3.out.size))
          clear l4 i4 y4 r4 u4
          go_wp2_with fail
          refine hK.out _ _ (K0.out _ X4.out) (fun hHeld => ?_)
          clear hK K
          (try simp only [Act.put, List.setIfInBounds_toArray, List.set_cons_zero, List.set_cons_succ])
          refine wpAnyH_take (i := 9) (oi := { dst := some 130, op := Go.Op.move (Go.Operand.tmp 139), type := 38, pos := "law.go:86", after := #[{ on := 8, ground := Go.Ground.data }], guard := none }) (v := ?_) rfl (by kernel_rfl) (by kernel_rfl) (by kernel_rfl) (fun _ _ _ h => h) (Or.inl ⟨by rfl, ?_⟩) (by assumption) ?_
          rotate_left 1
          focus ((intro wS hSw; (try dsimp only at hSw); go_simp) <;> (try with_reducible rfl))
          simp only [Act.put, List.setIfInBounds_toArray, List.set_cons_zero, List.set_cons_succ]
          refine wpAnyH_take (i := 10) (oi := { dst := some 140, op := Go.Op.extract (Go.Operand.tmp 130) 0, type := 22, pos := "law.go:86", after := #[{ on := 9, ground := Go.Ground.data }], guard := none }) (v := ?_) rfl (by kernel_rfl) (by kernel_rfl) (by kernel_rfl) (fun _ _ _ h => h) (Or.inl ⟨by rfl, ?_⟩) (by assumption) ?_
          rotate_left 1
          focus ((intro wS hSw; (try dsimp only at hSw); go_simp) <;> (try with_reducible rfl))
          simp only [Act.put, List.setIfInBounds_toArray, List.set_cons_zero, List.set_cons_succ]
          refine wpAnyH_take (i := 11) (oi := { dst := some 141, op := Go.Op.extract (Go.Operand.tmp 130) 1, type := 2, pos := "law.go:86", after := #[{ on := 9, ground := Go.Ground.data }, { on := 13, ground := Go.Ground.gcOnly Go.Departure.lateStores }], guard := none }) (v := ?_) rfl (by kernel_rfl) (by kernel_rfl) (by kernel_rfl) (fun _ _ _ h => h) (Or.inl ⟨by rfl, ?_⟩) (by assumption) ?_
          rotate_left 1
          focus ((intro wS hSw; (try dsimp only at hSw); go_simp) <;> (try with_reducible rfl))
          simp only [Act.put, List.setIfInBounds_toArray, List.set_cons_zero, List.set_cons_succ]
          refine wpAnyH_take (i := 12) (oi := { dst := some 142, op := Go.Op.extract (Go.Operand.tmp 130) 2, type := 37, pos := "law.go:86", after := #[{ on := 9, ground := Go.Ground.data }, { on := 14, ground := Go.Ground.gcOnly Go.Departure.lateStores }], guard := none }) (v := ?_) rfl (by kernel_rfl) (by kernel_rfl) (by kernel_rfl) (fun _ _ _ h => h) (Or.inl ⟨by rfl, ?_⟩) (by assumption) ?_
          rotate_left 1
          focus ((intro wS hSw; (try dsimp only at hSw); go_simp) <;> (try with_reducible rfl))
          simp only [Act.put, List.setIfInBounds_toArray, List.set_cons_zero, List.set_cons_succ]
          refine wpAnyH_take (i := 13) (oi := { dst := some 19, op := Go.Op.assign (Go.Operand.tmp 140), type := 22, pos := "law.go:86", after := #[{ on := 10, ground := Go.Ground.data }, { on := 8, ground := Go.Ground.chain }, { on := 0, ground := Go.Ground.phase }, { on := 1, ground := Go.Ground.phase }, { on := 2, ground := Go.Ground.phase }, { on := 3, ground := Go.Ground.phase }, { on := 4, ground := Go.Ground.phase }, { on := 5, ground := Go.Ground.phase }, { on := 6, ground := Go.Ground.phase }, { on := 7, ground := Go.Ground.phase }, { on := 8, ground := Go.Ground.phase }, { on := 9, ground := Go.Ground.phase }, { on := 10, ground := Go.Ground.phase }, { on := 11, ground := Go.Ground.textOnly Go.Departure.lateStores }, { on := 12, ground := Go.Ground.textOnly Go.Departure.lateStores }], guard := none }) (v := ?_) rfl (by kernel_rfl) (by kernel_rfl) (by kernel_rfl) (fun _ _ _ h => h) (Or.inl ⟨by rfl, ?_⟩) (by assumption) ?_
          rotate_left 1
          focus ((intro wS hSw; (try dsimp only at hSw); go_simp) <;> (try with_reducible rfl))
          simp only [Act.put, List.setIfInBounds_toArray, List.set_cons_zero, List.set_cons_succ]
          refine wpAnyH_take (i := 14) (oi := { dst := some 20, op := Go.Op.assign (Go.Operand.tmp 141), type := 2, pos := "law.go:86", after := #[{ on := 11, ground := Go.Ground.data }, { on := 13, ground := Go.Ground.chain }, { on := 0, ground := Go.Ground.phase }, { on := 1, ground := Go.Ground.phase }, { on := 2, ground := Go.Ground.phase }, { on := 3, ground := Go.Ground.phase }, { on := 4, ground := Go.Ground.phase }, { on := 5, ground := Go.Ground.phase }, { on := 6, ground := Go.Ground.phase }, { on := 7, ground := Go.Ground.phase }, { on := 8, ground := Go.Ground.phase }, { on := 9, ground := Go.Ground.phase }, { on := 10, ground := Go.Ground.phase }, { on := 11, ground := Go.Ground.phase }, { on := 12, ground := Go.Ground.textOnly Go.Departure.lateStores }, { on := 13, ground := Go.Ground.phase }], guard := none }) (v := ?_) rfl (by kernel_rfl) (by kernel_rfl) (by kernel_rfl) (fun _ _ _ h => h) (Or.inl ⟨by rfl, ?_⟩) (by assumption) ?_
          rotate_left 1
          focus ((intro wS hSw; (try dsimp only at hSw); go_simp) <;> (try with_reducible rfl))
          simp only [Act.put, List.setIfInBounds_toArray, List.set_cons_zero, List.set_cons_succ]
          refine wpAnyH_take (i := 15) (oi := { dst := some 21, op := Go.Op.assign (Go.Operand.tmp 142), type := 37, pos := "law.go:86", after := #[{ on := 12, ground := Go.Ground.data }, { on := 14, ground := Go.Ground.chain }, { on := 0, ground := Go.Ground.phase }, { on := 1, ground := Go.Ground.phase }, { on := 2, ground := Go.Ground.phase }, { on := 3, ground := Go.Ground.phase }, { on := 4, ground := Go.Ground.phase }, { on := 5, ground := Go.Ground.phase }, { on := 6, ground := Go.Ground.phase }, { on := 7, ground := Go.Ground.phase }, { on := 8, ground := Go.Ground.phase }, { on := 9, ground := Go.Ground.phase }, { on := 10, ground := Go.Ground.phase }, { on := 11, ground := Go.Ground.phase }, { on := 12, ground := Go.Ground.phase }, { on := 13, ground := Go.Ground.phase }, { on := 14, ground := Go.Ground.phase }], guard := none }) (v := ?_) rfl (by kernel_rfl) (by kernel_rfl) (by kernel_rfl) (fun _ _ _ h => h) (Or.inl ⟨by rfl, ?_⟩) (by assumption) ?_
          rotate_left 1
          focus ((intro wS hSw; (try dsimp only at hSw); go_simp) <;> (try with_reducible rfl))
          simp only [Act.put, List.setIfInBounds_toArray, List.set_cons_zero, List.set_cons_succ]
          refine wpAnyH_done (by kernel_rfl) ?_ _
          go_wp2_with fail
          refine (alive_any _).mono ?_; rintro e x5 ⟨rfl, b5⟩
          have X5 := Lib.hid (X4.out.trans (b5.mono X4.out.size))
          clear b5
          go_wp2_with fail
          go_ret
          exact ⟨rfl, B1.out.trans ((B14.out.trans (X5.out.mono B14.out.size)).mono B1.out.size)⟩
end Go.Proofs.Ytnnengigahakaaa
