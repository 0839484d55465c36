/-
  The statement EntryReadsItsEncoding: a walk.
-/
import Derived.Test.YtbbaleambgaanaaGreatDoorPk20
import Derived.Test.YtbbaleambgaanaaGreatDoorEtrEnd
import Derived.Test.YtbbaleambgaanaaGreatDoorEtrPDec
import Derived.Test.YtbbaleambgaanaaGreatDoorPk17
import Derived.Test.YtbbaleambgaanaaGreatDoorPk09
namespace Go.Proofs.YtbbaleambgaanaaGreatDoor
open Go.RowKit Go.Proofs.YtbbaleambgaanaaGreatDoor.Fit Pxr Pnm Etr

set_option maxRecDepth 100000 in
set_option maxHeartbeats 16000000 in
theorem walk_EntryReadsItsEncoding (a : Option Addr) (len cap : Nat) (zs : List Int) (w : World) (V : MVars w) (hz : ArgInts .u8 w a len cap zs) :
    Calls Tryz.prog 6 #[.slice a len cap] w fun e w' => e = .returned (.bool true) ∧ Below w.heap.size w w' := by
  have HB := Lib.hid hz.bytes; have HL := Lib.hid hz.1; have HC := Lib.hid hz.2.1; have HM := Lib.hid hz.2.2.1
  have V0 := Lib.hid (MV.of V)
  have EO := Lib.hid enT; have EZ := Lib.hid zEn
  clear hz V
  by_cases h2 : (20000 : Int) < len
  · go_enter Tryz.func6, Tryz.ntmps6
    go_wp2_with fail
    refine (Etr.alive_any _ V0.out.f.v).mono ?_; rintro e w2 ⟨rfl, b2⟩
    go_wp2
    go_ret
    exact ⟨rfl, b2⟩
  · obtain ⟨dl, hdl⟩ := named (len / 512 + 1)
    have hdl1 : (len : Int) / 512 + 1 = (dl : Int) := by have := hdl.out; omega
    have hdl8 : (dl : Int) ≤ 100 := by omega
    have len8 : (len : Int) ≤ 20000 := by omega
    have ZB : Hid (Bytes zs) := HB.out.bytes
    have ET : Hid (zs.take (endN (-1) len) = zs ∧ endE (-1) len = 4) := by
      refine ⟨?_, ?_⟩
      · unfold endN; rw [if_neg (by omega)]; exact List.take_of_length_le (by rw [HL.out]; exact Nat.le_refl _)
      · unfold endE; rw [if_neg (by omega)]
    clear h2
    go_enter Tryz.func6, Tryz.ntmps6
    go_wp2_with fail
    refine (new_any a len cap zs none 0 0 [] (-1) w HB.out HL.out HC.out (by omega) (.inl rfl) rfl (by omega)).mono ?_; rintro e w2 ⟨s, rfl, s2, b2⟩
    rw [ET.out.1, ET.out.2] at s2
    have S2 := Lib.hid s2; have B2 := Lib.hid b2
    clear s2 b2
    go_wp2_with fail
    refine (rdr_new w2 S2.out).mono ?_; rintro e w3 ⟨q, rfl, r3, b3⟩
    obtain ⟨lo, hlo⟩ := named w.heap.size
    obtain ⟨hi, hhi⟩ := named w3.heap.size
    have R3 : Hid (Rdr w3 lo hi q zs 4 0 0) := by show Rdr _ _ _ _ _ _ _ _; rw [hlo.out, hhi.out]; exact r3
    have B3 := Lib.hid (B2.out.trans (b3.mono B2.out.size))
    clear r3 b3 S2
    go_wp2_with fail
    go_loopw [4, 23] (fun at_ i wr => ∃ (j o : Nat), j ≤ dl ∧ i = .int .i64 j ∧ at_ = .int .i64 o ∧ Rdr wr lo hi q zs 4 o 0 ∧ Below w.heap.size w wr) (fun _ i _ => dl - (intOf i).toNat)
    case atStart => exact ⟨0, 0, Nat.zero_le _, rfl, rfl, R3.out, B3.out⟩
    case round =>
      obtain ⟨j, o, hj, rfl, rfl, hr, hbel⟩ := hrel
      have RR := Lib.hid hr; have BR := Lib.hid hbel
      have VR := Lib.hid (V0.out.below hbel)
      have HS := Lib.hid hr.size
      clear hr hbel
      by_cases hlt : j < dl
      · have hlt' : (j : Int) < dl := by omega
        have hsay := dcd_says (E := 4) (err := 0) ZB.out (.inr rfl) HS.out.2.2.2
        obtain ⟨d, hd⟩ := named (dcd zs 4 o 0)
        have PD := pdecd_any wr RR.out (.inr rfl) VR.out (Nat.le_of_eq hlo.out.symm)
        rw [← hd.out] at PD hsay
        obtain ⟨⟨xk, xp, xm, xt, xs⟩, P, XE, O, S⟩ := d
        have PD' : Hid (Calls Tryz.prog 18 #[.pointer (some ⟨q, 0, none⟩)] wr fun e w' => e = .returned (.tuple #[.agg (enV xk xp xm xt xs).toArray, .int .i64 P, .int .i64 XE]) ∧ Rdr w' lo hi q zs 4 O S ∧ Out lo hi wr w') := PD
        clear PD
        go_wp2_with fail
        refine PD'.out.mono ?_; rintro e w6 ⟨rfl, r6, u6⟩
        have R6 := Lib.hid r6
        have B6 := Lib.hid (BR.out.trans (u6.below (B := w.heap.size) (Nat.le_of_eq hlo.out.symm) BR.out.size))
        clear r6 u6
        rcases hsay with ⟨q1, q2, q3, q4, q5, q6, q7⟩ | ⟨q1, q2, q3, q4, q5⟩
        · dsimp only at q1 q2 q3 q4 q5 q6 q7
          subst q1; subst q3; subst q6
          rw [HL.out] at q5
          have ESZ := Lib.hid (en_sizes q2)
          have EN := Lib.hid fun w' (hb : Below w.heap.size w w') => penc_any ⟨xk, xp, xm, xt, xs⟩ w' (V0.out.below hb).v.f (Nat.le_trans ESZ.out.1 (by decide)) (Nat.le_trans ESZ.out.2 (by decide))
          have CK := Lib.hid fun w' (hb : Below w.heap.size w w') => pcheck_any xk xp xm xt xs w' (V0.out.below hb).v.f (Nat.le_trans ESZ.out.1 (by decide)) (Nat.le_trans ESZ.out.2 (by decide))
          rw [q2] at EN CK
          have Q7 := Lib.hid q7
          obtain ⟨ab, aoff, rfl, hab, hrow⟩ : ∃ ab aoff, a = some ⟨ab, aoff, none⟩ ∧ ab < w.heap.size ∧ RowAt w ab aoff zs := by
            rcases HB.out with h | h
            · have := HL.out; rw [h] at this; simp at this; omega
            · exact h
          have HROW := Lib.hid hrow; have HAB := Lib.hid hab
          have o1 : ¬ (O : Int) ≤ P := by omega
          have o1' : decide ((O : Int) ≤ P) = false := decide_eq_false o1
          have o2 : ¬ (len : Int) < O := by omega
          have o2' : decide ((len : Int) < (O : Int)) = false := decide_eq_false o2
          have o3 : ¬ cap = P := by have := HC.out; omega
          have o4 : (O : Int) ≤ cap := by have := HC.out; omega
          have o5 : (P : Int) ≤ O := by omega
          have o6 : (O : Int) ≤ 20000 := by omega
          have o4' : O ≤ cap := by have := HC.out; omega
          have o5' : P ≤ O := by omega
          have o1n : ¬ O ≤ P := by omega
          have o2n : ¬ len < O := by omega
          have o1d : decide (O ≤ P) = false := decide_eq_false o1n
          have o2d : decide (len < O) = false := decide_eq_false o2n
          have O7 : Hid (P < O ∧ O ≤ len ∧ O ≤ cap) := ⟨q4, q5, o4'⟩
          have ZT : Hid (((zs.drop P).take (O - P)).length = O - P) := by show _ = _; rw [List.length_take, List.length_drop, HL.out]; omega
          obtain ⟨SZ, hSZ⟩ := named (strOfNums (enZ ⟨xk, xp, xm, xt, xs⟩))
          clear q2 q4 q5 q7 hab hrow hlt
          go_wp2_with (first | (refine wpList_alloc_obj rfl 23 rfl (enV 0 emp 0 emp 0) EZ.out ?_; intro w7 ga ba; have X7 := Lib.hid ga; have B7 := Lib.hid ba; clear ga ba) | (refine wpList_store_obj rfl 23 _ _ rfl w6.heap.size rfl (enV xk xp xm xt xs) (enV 0 emp 0 emp 0) rfl 23 X7.out EO.out.2 rfl (en_one _ _ _ _ _) ?_; intro w8 gb tb; have X8 := Lib.hid gb; have A8 := Lib.hid (B7.out.trans (tb.below (Nat.le_refl _))); have B8 := Lib.hid (B6.out.trans (A8.out.mono B6.out.size)); have e0 := X8.out.get 0 rfl; have e1 := X8.out.get 1 rfl; have e2 := X8.out.get 2 rfl; have e3 := X8.out.get 3 rfl; have e4 := X8.out.get 4 rfl; clear gb tb))
          have R8 := Lib.hid (R6.out.below A8.out)
          refine (rdr_off w8 R8.out).mono ?_; rintro e wz ⟨rfl, rfl⟩
          go_wp2_with fail
          refine (EN.out w8 B8.out).mono ?_; rintro e w9 ⟨b9, n9, c9, rfl, l9, hc9, hm9, i9, _, bb9⟩
          have I9 := Lib.hid i9; have L9 := Lib.hid l9; have R9 := Lib.hid (R8.out.below bb9); have X9 := Lib.hid (X8.out.below bb9 X8.out.lt); have BN := Lib.hid (B8.out.trans (bb9.mono B8.out.size))
          clear l9 hc9 hm9 i9 bb9 e0 e1 e2 e3 e4
          obtain ⟨g1, hg1⟩ := named w6.heap.size
          rw [← hg1.out] at X9
          rw [← hg1.out]
          have KS : Hid (∀ w', Below w9.heap.size w9 w' → (fun w' => (w'.cell? ⟨g1, 0, none⟩ = some (.int .i64 xk) ∧ w'.cell? ⟨g1, 1, none⟩ = some (.string xp) ∧ w'.cell? ⟨g1, 2, none⟩ = some (.int .i64 xm) ∧ w'.cell? ⟨g1, 3, none⟩ = some (.string xt) ∧ w'.cell? ⟨g1, 4, none⟩ = some (.int .i64 xs)) ∧ (convert 24 9 (.slice b9 n9 c9)).run Tryz.prog w' = .ok (.string SZ) w' ∧ (convert 24 9 (.slice (some ⟨ab, aoff + P, none⟩) (O - P) (cap - P))).run Tryz.prog w' = .ok (.string SZ) w') w') := fun w' hb => by
            have h1 := X9.out.below hb X9.out.lt
            refine ⟨⟨h1.get 0 rfl, h1.get 1 rfl, h1.get 2 rfl, h1.get 3 rfl, h1.get 4 rfl⟩, ?_, ?_⟩
            · rw [hSZ.out]; exact run_str_in (P := Tryz.prog) Tryz.underlying24 Tryz.underlying5 Tryz.underlying9 (I9.out.below hb) n9 c9 L9.out
            · have hrow' := (HROW.out.below ((BN.out).trans (hb.mono BN.out.size)) HAB.out)
              have := run_str_of (P := Tryz.prog) Tryz.underlying24 Tryz.underlying5 Tryz.underlying9 ((hrow'.drop P).take (O - P)) (O - P) (cap - P) ZT.out
              rw [Q7.out, ← hSZ.out] at this
              exact this
          clear hSZ
          go_wp2_with fail
          refine wp_region_held_drew (S := (fun w' => (w'.cell? ⟨g1, 0, none⟩ = some (.int .i64 xk) ∧ w'.cell? ⟨g1, 1, none⟩ = some (.string xp) ∧ w'.cell? ⟨g1, 2, none⟩ = some (.int .i64 xm) ∧ w'.cell? ⟨g1, 3, none⟩ = some (.string xt) ∧ w'.cell? ⟨g1, 4, none⟩ = some (.int .i64 xs)) ∧ (convert 24 9 (.slice b9 n9 c9)).run Tryz.prog w' = .ok (.string SZ) w' ∧ (convert 24 9 (.slice (some ⟨ab, aoff + P, none⟩) (O - P) (cap - P))).run Tryz.prog w' = .ok (.string SZ) w')) (by kernel_rfl) (KS.out _ (Below.refl _ _).drew) (fun hHeld => ?_)
          refine wpAnyH_take (i := 0) (oi := { dst := some 59, op := Go.Op.move (Go.Operand.tmp 10), type := 27, pos := "law.go:87", after := #[], guard := none }) (v := ?_) rfl (by kernel_rfl) (by kernel_rfl) (by kernel_rfl) (fun _ _ _ h => h) (Or.inl ⟨by rfl, ?_⟩) (by assumption) ?_
          rotate_left 1
          focus ((intro wS hSw; (try dsimp only at hSw); go_simp) <;> (try with_reducible rfl))
          simp only [Act.put, List.setIfInBounds_toArray, List.set_cons_zero, List.set_cons_succ]
          refine wpAnyH_take (i := 1) (oi := { dst := some 60, op := Go.Op.binOp Go.BinOp.neq 27 (Go.Operand.tmp 59) (Go.Operand.const (Go.Value.int Go.IntKind.i64 0)) 27, type := 4, pos := "law.go:87", after := #[{ on := 0, ground := Go.Ground.data }], guard := none }) (v := ?_) rfl (by kernel_rfl) (by kernel_rfl) (by kernel_rfl) (fun _ _ _ h => h) (Or.inl ⟨by rfl, ?_⟩) (by assumption) ?_
          rotate_left 1
          focus ((intro wS hSw; (try dsimp only at hSw); go_simp) <;> (try with_reducible rfl))
          simp only [Act.put, List.setIfInBounds_toArray, List.set_cons_zero, List.set_cons_succ]
          refine wpAnyH_take (i := 2) (oi := { dst := some 61, op := Go.Op.move (Go.Operand.tmp 60), type := 4, pos := "law.go:87", after := #[{ on := 1, ground := Go.Ground.data }], guard := none }) (v := ?_) rfl (by kernel_rfl) (by kernel_rfl) (by kernel_rfl) (fun _ _ _ h => h) (Or.inl ⟨by rfl, ?_⟩) (by assumption) ?_
          rotate_left 1
          focus ((intro wS hSw; (try dsimp only at hSw); go_simp) <;> (try with_reducible rfl))
          simp only [Act.put, List.setIfInBounds_toArray, List.set_cons_zero, List.set_cons_succ]
          refine wpAnyH_take (i := 3) (oi := { dst := some 62, op := Go.Op.move (Go.Operand.tmp 6), type := 2, pos := "law.go:87", after := #[{ on := 2, ground := Go.Ground.guard }], guard := some (2, false) }) (v := ?_) rfl (by kernel_rfl) (by kernel_rfl) (by kernel_rfl) (fun _ _ _ h => h) (Or.inl ⟨by rfl, ?_⟩) (by assumption) ?_
          rotate_left 1
          focus ((intro wS hSw; (try dsimp only at hSw); go_simp) <;> (try with_reducible rfl))
          simp only [Act.put, List.setIfInBounds_toArray, List.set_cons_zero, List.set_cons_succ]
          refine wpAnyH_take (i := 4) (oi := { dst := some 63, op := Go.Op.move (Go.Operand.tmp 4), type := 2, pos := "law.go:87", after := #[{ on := 2, ground := Go.Ground.guard }], guard := some (2, false) }) (v := ?_) rfl (by kernel_rfl) (by kernel_rfl) (by kernel_rfl) (fun _ _ _ h => h) (Or.inl ⟨by rfl, ?_⟩) (by assumption) ?_
          rotate_left 1
          focus ((intro wS hSw; (try dsimp only at hSw); go_simp) <;> (try with_reducible rfl))
          simp only [Act.put, List.setIfInBounds_toArray, List.set_cons_zero, List.set_cons_succ]
          refine wpAnyH_take (i := 5) (oi := { dst := some 64, op := Go.Op.binOp Go.BinOp.neq 2 (Go.Operand.tmp 62) (Go.Operand.tmp 63) 2, type := 4, pos := "law.go:87", after := #[{ on := 3, ground := Go.Ground.data }, { on := 4, ground := Go.Ground.data }, { on := 2, ground := Go.Ground.guard }], guard := some (2, false) }) (v := ?_) rfl (by kernel_rfl) (by kernel_rfl) (by kernel_rfl) (fun _ _ _ h => h) (Or.inl ⟨by rfl, ?_⟩) (by assumption) ?_
          rotate_left 1
          focus ((intro wS hSw; (try dsimp only at hSw); go_simp) <;> (try with_reducible rfl))
          simp only [Act.put, List.setIfInBounds_toArray, List.set_cons_zero, List.set_cons_succ]
          refine wpAnyH_take (i := 6) (oi := { dst := some 65, op := Go.Op.pick (Go.Operand.tmp 61) (Go.Operand.const (Go.Value.bool true)) (Go.Operand.tmp 64), type := 4, pos := "law.go:87", after := #[{ on := 2, ground := Go.Ground.data }, { on := 5, ground := Go.Ground.data }], guard := none }) (v := ?_) rfl (by kernel_rfl) (by kernel_rfl) (by kernel_rfl) (fun _ _ _ h => h) (Or.inl ⟨by rfl, ?_⟩) (by assumption) ?_
          rotate_left 1
          focus ((intro wS hSw; (try dsimp only at hSw); go_simp) <;> (try with_reducible rfl))
          simp only [Act.put, List.setIfInBounds_toArray, List.set_cons_zero, List.set_cons_succ]
          refine wpAnyH_take (i := 7) (oi := { dst := some 66, op := Go.Op.move (Go.Operand.tmp 65), type := 4, pos := "law.go:87", after := #[{ on := 6, ground := Go.Ground.data }, { on := 2, ground := Go.Ground.chain }], guard := none }) (v := ?_) rfl (by kernel_rfl) (by kernel_rfl) (by kernel_rfl) (fun _ _ _ h => h) (Or.inl ⟨by rfl, ?_⟩) (by assumption) ?_
          rotate_left 1
          focus ((intro wS hSw; (try dsimp only at hSw); go_simp) <;> (try with_reducible rfl))
          simp only [Act.put, List.setIfInBounds_toArray, List.set_cons_zero, List.set_cons_succ]
          refine wpAnyH_take (i := 8) (oi := { dst := some 67, op := Go.Op.move (Go.Operand.tmp 8), type := 2, pos := "law.go:87", after := #[{ on := 7, ground := Go.Ground.guard }], guard := some (7, false) }) (v := ?_) rfl (by kernel_rfl) (by kernel_rfl) (by kernel_rfl) (fun _ _ _ h => h) (Or.inl ⟨by rfl, ?_⟩) (by assumption) ?_
          rotate_left 1
          focus ((intro wS hSw; (try dsimp only at hSw); go_simp) <;> (try with_reducible rfl))
          simp only [Act.put, List.setIfInBounds_toArray, List.set_cons_zero, List.set_cons_succ]
          refine wpAnyH_take (i := 9) (oi := { dst := some 68, op := Go.Op.move (Go.Operand.tmp 4), type := 2, pos := "law.go:87", after := #[{ on := 7, ground := Go.Ground.guard }], guard := some (7, false) }) (v := ?_) rfl (by kernel_rfl) (by kernel_rfl) (by kernel_rfl) (fun _ _ _ h => h) (Or.inl ⟨by rfl, ?_⟩) (by assumption) ?_
          rotate_left 1
          focus ((intro wS hSw; (try dsimp only at hSw); go_simp) <;> (try with_reducible rfl))
          simp only [Act.put, List.setIfInBounds_toArray, List.set_cons_zero, List.set_cons_succ]
          refine wpAnyH_take (i := 10) (oi := { dst := some 69, op := Go.Op.binOp Go.BinOp.leq 2 (Go.Operand.tmp 67) (Go.Operand.tmp 68) 2, type := 4, pos := "law.go:87", after := #[{ on := 8, ground := Go.Ground.data }, { on := 9, ground := Go.Ground.data }, { on := 7, ground := Go.Ground.guard }], guard := some (7, false) }) (v := ?_) rfl (by kernel_rfl) (by kernel_rfl) (by kernel_rfl) (fun _ _ _ h => h) (Or.inl ⟨by rfl, ?_⟩) (by assumption) ?_
          rotate_left 1
          focus ((intro wS hSw; (try dsimp only at hSw); go_simp) <;> (try with_reducible rfl))
          simp only [Act.put, List.setIfInBounds_toArray, List.set_cons_zero, List.set_cons_succ]
          refine wpAnyH_take (i := 11) (oi := { dst := some 70, op := Go.Op.pick (Go.Operand.tmp 66) (Go.Operand.const (Go.Value.bool true)) (Go.Operand.tmp 69), type := 4, pos := "law.go:87", after := #[{ on := 7, ground := Go.Ground.data }, { on := 10, ground := Go.Ground.data }], guard := none }) (v := ?_) rfl (by kernel_rfl) (by kernel_rfl) (by kernel_rfl) (fun _ _ _ h => h) (Or.inl ⟨by rfl, ?_⟩) (by assumption) ?_
          rotate_left 1
          focus ((intro wS hSw; (try dsimp only at hSw); go_simp) <;> (try with_reducible rfl))
          simp only [Act.put, List.setIfInBounds_toArray, List.set_cons_zero, List.set_cons_succ]
          refine wpAnyH_take (i := 12) (oi := { dst := some 71, op := Go.Op.move (Go.Operand.tmp 70), type := 4, pos := "law.go:87", after := #[{ on := 11, ground := Go.Ground.data }, { on := 7, ground := Go.Ground.chain }], guard := none }) (v := ?_) rfl (by kernel_rfl) (by kernel_rfl) (by kernel_rfl) (fun _ _ _ h => h) (Or.inl ⟨by rfl, ?_⟩) (by assumption) ?_
          rotate_left 1
          focus ((intro wS hSw; (try dsimp only at hSw); go_simp) <;> (try with_reducible rfl))
          simp only [Act.put, List.setIfInBounds_toArray, List.set_cons_zero, List.set_cons_succ]
          refine wpAnyH_take (i := 13) (oi := { dst := some 72, op := Go.Op.move (Go.Operand.tmp 8), type := 2, pos := "law.go:87", after := #[{ on := 12, ground := Go.Ground.guard }], guard := some (12, false) }) (v := ?_) rfl (by kernel_rfl) (by kernel_rfl) (by kernel_rfl) (fun _ _ _ h => h) (Or.inl ⟨by rfl, ?_⟩) (by assumption) ?_
          rotate_left 1
          focus ((intro wS hSw; (try dsimp only at hSw); go_simp) <;> (try with_reducible rfl))
          simp only [Act.put, List.setIfInBounds_toArray, List.set_cons_zero, List.set_cons_succ]
          refine wpAnyH_take (i := 14) (oi := { dst := some 73, op := Go.Op.move (Go.Operand.tmp 0), type := 24, pos := "law.go:87", after := #[{ on := 12, ground := Go.Ground.guard }], guard := some (12, false) }) (v := ?_) rfl (by kernel_rfl) (by kernel_rfl) (by kernel_rfl) (fun _ _ _ h => h) (Or.inl ⟨by rfl, ?_⟩) (by assumption) ?_
          rotate_left 1
          focus ((intro wS hSw; (try dsimp only at hSw); go_simp) <;> (try with_reducible rfl))
          simp only [Act.put, List.setIfInBounds_toArray, List.set_cons_zero, List.set_cons_succ]
          refine wpAnyH_take (i := 15) (oi := { dst := some 74, op := Go.Op.call { callee := Go.Callee.builtin Go.Builtin.len, args := #[Go.Operand.tmp 73], argTypes := #[24] }, type := 3, pos := "law.go:87", after := #[{ on := 14, ground := Go.Ground.data }, { on := 12, ground := Go.Ground.guard }], guard := some (12, false) }) (v := ?_) rfl (by kernel_rfl) (by kernel_rfl) (by kernel_rfl) (fun _ _ _ h => h) (Or.inl ⟨by rfl, ?_⟩) (by assumption) ?_
          rotate_left 1
          focus ((intro wS hSw; (try dsimp only at hSw); go_simp) <;> (try with_reducible rfl))
          simp only [Act.put, List.setIfInBounds_toArray, List.set_cons_zero, List.set_cons_succ]
          refine wpAnyH_take (i := 16) (oi := { dst := some 75, op := Go.Op.binOp Go.BinOp.gtr 2 (Go.Operand.tmp 72) (Go.Operand.tmp 74) 2, type := 4, pos := "law.go:87", after := #[{ on := 13, ground := Go.Ground.data }, { on := 15, ground := Go.Ground.data }, { on := 12, ground := Go.Ground.guard }], guard := some (12, false) }) (v := ?_) rfl (by kernel_rfl) (by kernel_rfl) (by kernel_rfl) (fun _ _ _ h => h) (Or.inl ⟨by rfl, ?_⟩) (by assumption) ?_
          rotate_left 1
          focus ((intro wS hSw; (try dsimp only at hSw); go_simp) <;> (try with_reducible rfl))
          simp only [Act.put, List.setIfInBounds_toArray, List.set_cons_zero, List.set_cons_succ]
          refine wpAnyH_take (i := 17) (oi := { dst := some 76, op := Go.Op.pick (Go.Operand.tmp 71) (Go.Operand.const (Go.Value.bool true)) (Go.Operand.tmp 75), type := 4, pos := "law.go:87", after := #[{ on := 12, ground := Go.Ground.data }, { on := 16, ground := Go.Ground.data }], guard := none }) (v := ?_) rfl (by kernel_rfl) (by kernel_rfl) (by kernel_rfl) (fun _ _ _ h => h) (Or.inl ⟨by rfl, ?_⟩) (by assumption) ?_
          rotate_left 1
          focus ((intro wS hSw; (try dsimp only at hSw); go_simp) <;> (try with_reducible rfl))
          simp only [Act.put, List.setIfInBounds_toArray, List.set_cons_zero, List.set_cons_succ]
          refine wpAnyH_take (i := 18) (oi := { dst := some 77, op := Go.Op.move (Go.Operand.tmp 76), type := 4, pos := "law.go:87", after := #[{ on := 17, ground := Go.Ground.data }, { on := 12, ground := Go.Ground.chain }], guard := none }) (v := ?_) rfl (by kernel_rfl) (by kernel_rfl) (by kernel_rfl) (fun _ _ _ h => h) (Or.inl ⟨by rfl, ?_⟩) (by assumption) ?_
          rotate_left 1
          focus ((intro wS hSw; (try dsimp only at hSw); go_simp) <;> (try with_reducible rfl))
          simp only [Act.put, List.setIfInBounds_toArray, List.set_cons_zero, List.set_cons_succ]
          refine wpAnyH_take (i := 19) (oi := { dst := some 78, op := Go.Op.move (Go.Operand.tmp 9), type := 24, pos := "law.go:87", after := #[{ on := 18, ground := Go.Ground.guard }], guard := some (18, false) }) (v := ?_) rfl (by kernel_rfl) (by kernel_rfl) (by kernel_rfl) (fun _ _ _ h => h) (Or.inl ⟨by rfl, ?_⟩) (by assumption) ?_
          rotate_left 1
          focus ((intro wS hSw; (try dsimp only at hSw); go_simp) <;> (try with_reducible rfl))
          simp only [Act.put, List.setIfInBounds_toArray, List.set_cons_zero, List.set_cons_succ]
          refine wpAnyH_take (i := 20) (oi := { dst := some 79, op := Go.Op.convert 24 9 (Go.Operand.tmp 78), type := 9, pos := "law.go:87", after := #[{ on := 19, ground := Go.Ground.data }, { on := 18, ground := Go.Ground.guard }], guard := some (18, false) }) (v := ?_) rfl (by kernel_rfl) (by kernel_rfl) (by kernel_rfl) (fun _ _ _ h => h) (Or.inl ⟨by rfl, ?_⟩) (by assumption) ?_
          rotate_left 1
          focus ((intro wS hSw; (try dsimp only at hSw); go_simp) <;> (try with_reducible rfl))
          simp only [Act.put, List.setIfInBounds_toArray, List.set_cons_zero, List.set_cons_succ]
          refine wpAnyH_take (i := 21) (oi := { dst := some 80, op := Go.Op.move (Go.Operand.tmp 0), type := 24, pos := "law.go:87", after := #[{ on := 18, ground := Go.Ground.guard }], guard := some (18, false) }) (v := ?_) rfl (by kernel_rfl) (by kernel_rfl) (by kernel_rfl) (fun _ _ _ h => h) (Or.inl ⟨by rfl, ?_⟩) (by assumption) ?_
          rotate_left 1
          focus ((intro wS hSw; (try dsimp only at hSw); go_simp) <;> (try with_reducible rfl))
          simp only [Act.put, List.setIfInBounds_toArray, List.set_cons_zero, List.set_cons_succ]
          refine wpAnyH_take (i := 22) (oi := { dst := some 81, op := Go.Op.move (Go.Operand.tmp 4), type := 2, pos := "law.go:87", after := #[{ on := 18, ground := Go.Ground.guard }], guard := some (18, false) }) (v := ?_) rfl (by kernel_rfl) (by kernel_rfl) (by kernel_rfl) (fun _ _ _ h => h) (Or.inl ⟨by rfl, ?_⟩) (by assumption) ?_
          rotate_left 1
          focus ((intro wS hSw; (try dsimp only at hSw); go_simp) <;> (try with_reducible rfl))
          simp only [Act.put, List.setIfInBounds_toArray, List.set_cons_zero, List.set_cons_succ]
          refine wpAnyH_take (i := 23) (oi := { dst := some 82, op := Go.Op.move (Go.Operand.tmp 8), type := 2, pos := "law.go:87", after := #[{ on := 18, ground := Go.Ground.guard }], guard := some (18, false) }) (v := ?_) rfl (by kernel_rfl) (by kernel_rfl) (by kernel_rfl) (fun _ _ _ h => h) (Or.inl ⟨by rfl, ?_⟩) (by assumption) ?_
          rotate_left 1
          focus ((intro wS hSw; (try dsimp only at hSw); go_simp) <;> (try with_reducible rfl))
          simp only [Act.put, List.setIfInBounds_toArray, List.set_cons_zero, List.set_cons_succ]
          refine wpAnyH_take (i := 24) (oi := { dst := some 83, op := Go.Op.slice 24 (Go.Operand.tmp 80) (some (Go.Operand.tmp 81)) (some (Go.Operand.tmp 82)) none, type := 24, pos := "law.go:87", after := #[{ on := 21, ground := Go.Ground.data }, { on := 22, ground := Go.Ground.data }, { on := 23, ground := Go.Ground.data }, { on := 18, ground := Go.Ground.guard }], guard := some (18, false) }) (v := ?_) rfl (by kernel_rfl) (by kernel_rfl) (by kernel_rfl) (fun _ _ _ h => h) (Or.inl ⟨by rfl, ?_⟩) (by assumption) ?_
          rotate_left 1
          focus ((intro wS hSw; (try dsimp only at hSw); go_simp) <;> (try with_reducible rfl))
          simp only [Act.put, List.setIfInBounds_toArray, List.set_cons_zero, List.set_cons_succ]
          refine wpAnyH_take (i := 25) (oi := { dst := some 84, op := Go.Op.convert 24 9 (Go.Operand.tmp 83), type := 9, pos := "law.go:87", after := #[{ on := 24, ground := Go.Ground.data }, { on := 18, ground := Go.Ground.guard }], guard := some (18, false) }) (v := ?_) rfl (by kernel_rfl) (by kernel_rfl) (by kernel_rfl) (fun _ _ _ h => h) (Or.inl ⟨by rfl, ?_⟩) (by assumption) ?_
          rotate_left 1
          focus ((intro wS hSw; (try dsimp only at hSw); go_simp) <;> (try with_reducible rfl))
          simp only [Act.put, List.setIfInBounds_toArray, List.set_cons_zero, List.set_cons_succ]
          refine wpAnyH_take (i := 26) (oi := { dst := some 85, op := Go.Op.binOp Go.BinOp.neq 9 (Go.Operand.tmp 79) (Go.Operand.tmp 84) 9, type := 4, pos := "law.go:87", after := #[{ on := 20, ground := Go.Ground.data }, { on := 25, ground := Go.Ground.data }, { on := 18, ground := Go.Ground.guard }], guard := some (18, false) }) (v := ?_) rfl (by kernel_rfl) (by kernel_rfl) (by kernel_rfl) (fun _ _ _ h => h) (Or.inl ⟨by rfl, ?_⟩) (by assumption) ?_
          rotate_left 1
          focus ((intro wS hSw; (try dsimp only at hSw); go_simp) <;> (try with_reducible rfl))
          simp only [Act.put, List.setIfInBounds_toArray, List.set_cons_zero, List.set_cons_succ]
          refine wpAnyH_take (i := 27) (oi := { dst := some 86, op := Go.Op.pick (Go.Operand.tmp 77) (Go.Operand.const (Go.Value.bool true)) (Go.Operand.tmp 85), type := 4, pos := "law.go:87", after := #[{ on := 18, ground := Go.Ground.data }, { on := 26, ground := Go.Ground.data }], guard := none }) (v := ?_) rfl (by kernel_rfl) (by kernel_rfl) (by kernel_rfl) (fun _ _ _ h => h) (Or.inl ⟨by rfl, ?_⟩) (by assumption) ?_
          rotate_left 1
          focus ((intro wS hSw; (try dsimp only at hSw); go_simp) <;> (try with_reducible rfl))
          simp only [Act.put, List.setIfInBounds_toArray, List.set_cons_zero, List.set_cons_succ]
          refine wpAnyH_take (i := 28) (oi := { dst := some 87, op := Go.Op.move (Go.Operand.tmp 86), type := 4, pos := "law.go:87", after := #[{ on := 27, ground := Go.Ground.data }, { on := 18, ground := Go.Ground.chain }], guard := none }) (v := ?_) rfl (by kernel_rfl) (by kernel_rfl) (by kernel_rfl) (fun _ _ _ h => h) (Or.inl ⟨by rfl, ?_⟩) (by assumption) ?_
          rotate_left 1
          focus ((intro wS hSw; (try dsimp only at hSw); go_simp) <;> (try with_reducible rfl))
          simp only [Act.put, List.setIfInBounds_toArray, List.set_cons_zero, List.set_cons_succ]
          refine wpAnyH_take (i := 29) (oi := { dst := some 88, op := Go.Op.load 23 (Go.Operand.tmp 5), type := 23, pos := "law.go:87", after := #[{ on := 28, ground := Go.Ground.guard }], guard := some (28, false) }) (v := ?_) rfl (by kernel_rfl) (by kernel_rfl) (by kernel_rfl) (fun _ _ _ h => h) (Or.inl ⟨by rfl, ?_⟩) (by assumption) ?_
          rotate_left 1
          focus ((intro wS hSw; (try dsimp only at hSw); go_simp) <;> (try with_reducible rfl))
          simp only [Act.put, List.setIfInBounds_toArray, List.set_cons_zero, List.set_cons_succ]
          refine wpAnyH_ready (rs := [30]) (by kernel_rfl) (by simp) ?_
          refine AllReadyH.cons (o := { dst := some 89, op := Go.Op.call { callee := Go.Callee.value (Go.Operand.func 21), args := #[Go.Operand.tmp 88], argTypes := #[23] }, type := 27, pos := "law.go:87", after := #[{ on := 29, ground := Go.Ground.data }, { on := 28, ground := Go.Ground.chain }, { on := 28, ground := Go.Ground.guard }], guard := some (28, false) }) rfl (fun K hK => ?_) AllReadyH.nil
          go_simp
          refine (CK.out _ (BN.out.drew)).mono ?_; rintro e wC ⟨rfl, bC⟩
          have BC := Lib.hid ((Below.refl w9.heap.size w9).drew.trans bC)
          clear bC
          go_wp2_with fail
          refine hK.out _ _ (KS.out _ BC.out) (fun hHeld => ?_)
          clear hK K
          (try simp only [Act.put, List.setIfInBounds_toArray, List.set_cons_zero, List.set_cons_succ])
          refine wpAnyH_take (i := 31) (oi := { dst := some 90, op := Go.Op.binOp Go.BinOp.neq 27 (Go.Operand.tmp 89) (Go.Operand.const (Go.Value.int Go.IntKind.i64 0)) 27, type := 4, pos := "law.go:87", after := #[{ on := 30, ground := Go.Ground.data }, { on := 28, ground := Go.Ground.guard }], guard := some (28, false) }) (v := ?_) rfl (by kernel_rfl) (by kernel_rfl) (by kernel_rfl) (fun _ _ _ h => h) (Or.inl ⟨by rfl, ?_⟩) (by assumption) ?_
          rotate_left 1
          focus ((intro wS hSw; (try dsimp only at hSw); go_simp) <;> (try with_reducible rfl))
          simp only [Act.put, List.setIfInBounds_toArray, List.set_cons_zero, List.set_cons_succ]
          refine wpAnyH_take (i := 32) (oi := { dst := some 91, op := Go.Op.pick (Go.Operand.tmp 87) (Go.Operand.const (Go.Value.bool true)) (Go.Operand.tmp 90), type := 4, pos := "law.go:87", after := #[{ on := 28, ground := Go.Ground.data }, { on := 31, ground := Go.Ground.data }], guard := none }) (v := ?_) rfl (by kernel_rfl) (by kernel_rfl) (by kernel_rfl) (fun _ _ _ h => h) (Or.inl ⟨by rfl, ?_⟩) (by assumption) ?_
          rotate_left 1
          focus ((intro wS hSw; (try dsimp only at hSw); go_simp) <;> (try with_reducible rfl))
          simp only [Act.put, List.setIfInBounds_toArray, List.set_cons_zero, List.set_cons_succ]
          refine wpAnyH_done (by kernel_rfl) ?_ _
          go_wp2_with fail
          go_roundw
          case rel => exact ⟨j + 1, O, by omega, by go_num, rfl, R9.out.below BC.out, BN.out.trans (BC.out.mono BN.out.size)⟩
          case measure => simp [intOf]; omega
        · dsimp only at q1 q2 q3 q4 q5
          have n0 : (XE != 0) = true := by simp [q1]
          rw [HL.out] at q3 q4
          have p1 : (o : Int) ≤ P := by omega
          have p2 : (P : Int) ≤ len := by omega
          have p3 : (O : Int) ≤ len := by omega
          clear q1 q2 q3 q4 q5 hlt
          go_wp2_with (first | (refine wpList_alloc_obj rfl 23 rfl (enV 0 emp 0 emp 0) EZ.out ?_; intro w7 ga ba; have X7 := Lib.hid ga; have B7 := Lib.hid ba; clear ga ba) | (refine wpList_store_obj rfl 23 _ _ rfl w6.heap.size rfl (enV xk xp xm xt xs) (enV 0 emp 0 emp 0) rfl 23 X7.out EO.out.2 rfl (en_one _ _ _ _ _) ?_; intro w8 gb tb; have A8 := Lib.hid (B7.out.trans (tb.below (Nat.le_refl _))); have B8 := Lib.hid (B6.out.trans (A8.out.mono B6.out.size)); clear gb tb))
          have R8 := Lib.hid (R6.out.below A8.out)
          refine (Etr.alive_any _ (V0.out.below B8.out).v.f).mono ?_; rintro e w9 ⟨rfl, b9⟩
          have R9 := Lib.hid (R8.out.below b9)
          have B9 := Lib.hid (B8.out.trans (b9.mono B8.out.size))
          clear b9
          go_wp2_with fail
          refine (rdr_off w9 R9.out).mono ?_; rintro e wz ⟨rfl, rfl⟩
          go_wp2
          go_ret
          exact ⟨rfl, B9.out⟩
      · obtain rfl : j = dl := by omega
        go_wp2_with fail
        refine (Etr.alive_any _ VR.out.v.f).mono ?_; rintro e w9 ⟨rfl, b9⟩
        go_wp2
        go_ret
        exact ⟨rfl, BR.out.trans (b9.mono BR.out.size)⟩
end Go.Proofs.YtbbaleambgaanaaGreatDoor
