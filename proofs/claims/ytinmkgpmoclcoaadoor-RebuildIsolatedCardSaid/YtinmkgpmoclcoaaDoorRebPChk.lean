/-
  Layer 15: the program's Check.
-/
import Derived.Test.YtinmkgpmoclcoaaDoorRebPSm
import Derived.Test.YtinmkgpmoclcoaaDoorRebRChk
import Derived.Test.YtinmkgpmoclcoaaDoorPz10
namespace Go.Proofs.YtinmkgpmoclcoaaDoor.Reb
open Go.RowKit Go.MapKept Go.Proofs.YtinmkgpmoclcoaaDoor.Fit Pnm Tre Flt

set_option maxHeartbeats 1000000 in
theorem pbchk_nil (k : Int) (p : ByteArray) (m : Int) (t : ByteArray) (s : Int) (w : World) :
    Calls Tryd.prog 10 #[.pointer none, .agg (enV k p m t s).toArray] w fun e w' => e = .returned (.int .i64 1) ∧ Below w.heap.size w w' := by
  go_enter Tryd.func10, Tryd.ntmps10
  go_wp2_with (first | (refine wpList_box_obj rfl 27 _ rfl (enV k p m t s) rfl ?_; intro w1 g1 b1; have B1 := Lib.hid b1; clear g1 b1))
  go_ret
  exact ⟨rfl, B1.out⟩

section
variable {w : World} {g cap gd gf Nd Nf : Nat} {a : Option Addr} {Fd Ff : Value → Option Value} {us : List NdS} {A : List Mb}
set_option maxRecDepth 100000 in
set_option maxHeartbeats 8000000 in
theorem pbchk_any (hb : PB w g a cap gd gf Nd Nf Fd Ff us A) (V : FVars w) (k : Int) (p : ByteArray) (m : Int) (t : ByteArray) (s : Int) (hp : p.size ≤ maxLen) (ht : t.size ≤ maxLen) :
    Calls Tryd.prog 10 #[.pointer (some ⟨g, 0, none⟩), .agg (enV k p m t s).toArray] w fun e w' => e = .returned (.int .i64 (chR A ⟨k, p, m, t, s⟩)) ∧ Below w.heap.size w w' := by
  obtain ⟨R, hR⟩ := named (chR A ⟨k, p, m, t, s⟩)
  obtain ⟨X, hX⟩ := named (ckE ⟨k, p, m, t, s⟩)
  obtain ⟨P, hP⟩ := named (strOfNums (parZ (numsOf p)))
  rw [← hR.out]
  have HB := Lib.hid hb
  have HV := Lib.hid V
  have HP := Lib.hid hp
  have EO := Lib.hid enT
  have ZB : Hid ((Tryd.prog.info? 4).map (·.zero) = some (some (.bool false))) := by show _ = _; kernel_rfl
  have C1 : Hid (∀ w', Below w.heap.size w w' → Calls Tryd.prog 26 #[.agg (enV k p m t s).toArray] w' fun e w'' => e = .returned (.int .i64 X) ∧ Below w'.heap.size w' w'') := fun w' h => by rw [hX.out]; exact pcheck_any k p m t s w' (HV.out.go h) hp ht
  have C2 : Hid (∀ w', Calls Tryd.prog 27 #[.string p] w' fun e w'' => e = .returned (.string P) ∧ Below w'.heap.size w' w'') := fun w' => by rw [hP.out]; exact pparent p w' hp
  have NP : Hid (NoPar A p ↔ ¬ P = emp ∧ fnd A 0 P = none) := by
    show _ ↔ _
    unfold NoPar
    rw [hP.out, str_emp']
  have NF : Hid (NoFile A ⟨k, p, m, t, s⟩ ↔ k = 3 ∧ ¬ ∃ r, fnd A 1 t = some r ∧ (ma A r).e.m = m) := by
    show _ ↔ _
    unfold NoFile
    exact and_congr_right fun _ => ⟨fun h ⟨r, h1, h2⟩ => h r h1 h2, fun h r h1 h2 => h ⟨r, h1, h2⟩⟩
  clear hb V hp ht hP
  go_enter Tryd.func10, Tryd.ntmps10
  go_wp2_with (first | (refine wpList_box_obj rfl 27 _ rfl (enV k p m t s) rfl ?_; intro w1 g1 b1; have G1 := Lib.hid g1; have B1 := Lib.hid b1; clear g1 b1) | (refine wpList_load_obj rfl 27 5 EO.out _ rfl w.heap.size rfl 27 (enV k p m t s) G1.out rfl ?_))
  refine (C1.out w1 B1.out).mono ?_; rintro e w2 ⟨rfl, b2⟩
  have G2 := Lib.hid (G1.out.below b2 G1.out.lt)
  have B2 := Lib.hid (belT B1.out b2)
  clear b2 G1 B1 C1
  by_cases x0 : ¬ X = 0
  · have nx : (X != 0) = true := by simpa using x0
    obtain rfl : R = X := by rw [hR.out, hX.out]; exact chR_ck (by rw [← hX.out]; exact x0)
    go_wp2_with fail
    go_ret
    exact ⟨rfl, B2.out⟩
  obtain rfl : X = 0 := Decidable.not_not.mp x0
  have CK := Lib.hid hX.out.symm
  clear x0 hX
  have e1 := G2.out.get 1 rfl
  go_wp2_with fail
  refine (C2.out w2).mono ?_; rintro e w3 ⟨rfl, b3⟩
  have G3 := Lib.hid (G2.out.below b3 G2.out.lt)
  have B3 := Lib.hid (belT B2.out b3)
  have HB3 := Lib.hid (HB.out.below B3.out)
  clear b3 e1 G2 B2 C2
  have e1 := G3.out.get 1 rfl
  go_wp2_with fail
  refine (follows_any HB3.out p HP.out).mono ?_; rintro e w4 ⟨R1, rfl, h1, b4⟩
  have H1 := Lib.hid h1
  have G4 := Lib.hid (G3.out.below b4 G3.out.lt)
  have B4 := Lib.hid (belT B3.out b4)
  have HB4 := Lib.hid (HB.out.below B4.out)
  clear b4 e1 G3 B3 HB3 h1
  cases R1 with
  | false =>
    have LT : Hid (Late A p) := Classical.byContradiction fun h => by have := H1.out.mpr h; cases this
    obtain rfl : R = 12 := by rw [hR.out]; exact chR_late CK.out LT.out
    go_wp2_with fail
    go_ret
    exact ⟨rfl, B4.out⟩
  | true =>
  have LT : Hid (¬ Late A p) := H1.out.mp rfl
  clear H1
  have d1 : w4.cell? ⟨g, 1, none⟩ = some (.map (some gd)) := HB4.out.o.get 1 rfl
  have e0 := G4.out.get 0 rfl; have e2 := G4.out.get 2 rfl; have e3 := G4.out.get 3 rfl
  have ways : Hid ((P = emp ∨ (¬ P = emp ∧ ∃ r, fnd A 0 P = some r)) ∨ (¬ P = emp ∧ fnd A 0 P = none)) := by
    show _ ∨ _
    by_cases h : P = emp
    · exact .inl (.inl h)
    · cases hf : fnd A 0 P with
      | none => exact .inr ⟨h, rfl⟩
      | some r => exact .inl (.inr ⟨h, r, rfl⟩)
  have LD : Hid ((Instr.lookup 57 (.map (some gd)) (.string P) false).run Tryd.prog w4 = .ok ((Option.map (fun _ => Value.bool true) (fnd A 0 P)).getD (.bool false)) w4) := by
    have lk := (run_lookF (P := Tryd.prog) (w := w4) 57 9 4 Tryd.underlying57 .string Tryd.underlying9 (.bool false) ZB.out gd Nd (.string P) (show IsKey .string (.string P) from trivial) Fd HB4.out.md).2
    rw [HB4.out.fd P] at lk
    exact lk
  rcases ways.out with hgood | ⟨hne, hf⟩
  · have NPN : Hid (¬ NoPar A p) := fun h => by
      obtain ⟨h1, h2⟩ := NP.out.mp h
      rcases hgood with h3 | ⟨_, r, h3⟩
      · exact h1 h3
      · rw [h2] at h3; cases h3
    have ld : P = emp ∨ (¬ P = emp ∧ (Instr.lookup 57 (.map (some gd)) (.string P) false).run Tryd.prog w4 = .ok (.bool true) w4) := by
      rcases hgood with h3 | ⟨h3, r, h4⟩
      · exact .inl h3
      · refine .inr ⟨h3, ?_⟩
        have := LD.out
        rw [h4] at this
        exact this
    clear hgood ways LD NP
    by_cases k3 : k = 3
    · subst k3
      rcases ld with rfl | ⟨hne, ld⟩
      · go_wp2_with fail
        refine (linkable_any HB4.out t m).mono ?_; rintro e w5 ⟨R2, rfl, h2, rfl⟩
        cases R2 with
        | false =>
          obtain rfl : R = 15 := by rw [hR.out]; exact chR_file CK.out LT.out NPN.out (NF.out.mpr ⟨trivial, fun h => by have := h2.mpr h; cases this⟩)
          clear h2 hR
          go_wp2_with fail
          go_ret
          exact ⟨rfl, B4.out⟩
        | true =>
          obtain rfl : R = 0 := by rw [hR.out]; exact chR_zero.mpr ⟨CK.out, LT.out, NPN.out, fun h => (NF.out.mp h).2 (h2.mp rfl)⟩
          clear h2 hR
          go_wp2_with fail
          go_ret
          exact ⟨rfl, B4.out⟩
      · have pe := empty_no hne
        clear hne
        go_wp2_with fail
        refine (linkable_any HB4.out t m).mono ?_; rintro e w5 ⟨R2, rfl, h2, rfl⟩
        cases R2 with
        | false =>
          obtain rfl : R = 15 := by rw [hR.out]; exact chR_file CK.out LT.out NPN.out (NF.out.mpr ⟨trivial, fun h => by have := h2.mpr h; cases this⟩)
          clear h2 hR
          go_wp2_with fail
          go_ret
          exact ⟨rfl, B4.out⟩
        | true =>
          obtain rfl : R = 0 := by rw [hR.out]; exact chR_zero.mpr ⟨CK.out, LT.out, NPN.out, fun h => (NF.out.mp h).2 (h2.mp rfl)⟩
          clear h2 hR
          go_wp2_with fail
          go_ret
          exact ⟨rfl, B4.out⟩
    · have n3 : (k == 3) = false := by simpa using k3
      obtain rfl : R = 0 := by rw [hR.out]; exact chR_zero.mpr ⟨CK.out, LT.out, NPN.out, fun h => k3 (NF.out.mp h).1⟩
      clear k3 hR
      rcases ld with rfl | ⟨hne, ld⟩
      · go_wp2_with fail
        go_ret
        exact ⟨rfl, B4.out⟩
      · have pe := empty_no hne
        clear hne
        go_wp2_with fail
        go_ret
        exact ⟨rfl, B4.out⟩
  · have NPY : Hid (NoPar A p) := NP.out.mpr ⟨hne, hf⟩
    obtain rfl : R = 13 := by rw [hR.out]; exact chR_par CK.out LT.out NPY.out
    have ld : (Instr.lookup 57 (.map (some gd)) (.string P) false).run Tryd.prog w4 = .ok (.bool false) w4 := by
      have := LD.out
      rw [hf] at this
      exact this
    have pe := empty_no hne
    clear hne hf ways LD NP hR
    go_wp2_with fail
    go_ret
    exact ⟨rfl, B4.out⟩
end
end Go.Proofs.YtinmkgpmoclcoaaDoor.Reb
