/-
  Layer 9: PaxrecSizeIsLeast, walked.
-/
import Derived.Test.YtjmnhnijmaceeaaDoorPxrLib
import Derived.Test.YtjmnhnijmaceeaaDoorStrRep
namespace Go.Proofs.YtjmnhnijmaceeaaDoor
open Go.RowKit Pxr

theorem rep_size (x : UInt8) (c : Nat) : (⟨(Lib.repeatL [x] c).toArray⟩ : ByteArray).size = c := by
  rw [← numsOf_length, nums_rep, List.length_replicate]

set_option maxHeartbeats 8000000 in
set_option maxRecDepth 100000 in
theorem walk_PaxrecSizeIsLeast (ka va : Int) (w : World) (V : Vars w) (h1 : (Lit.int .u16 ka).wf = true) (h2 : (Lit.int .u16 va).wf = true) :
    Calls Tryd.prog 6 #[.int .u16 ka, .int .u16 va] w fun e w' => e = .returned (.bool true) ∧ Below w.heap.size w w' := by
  obtain ⟨k0, k1⟩ := bounds_u16 h1
  obtain ⟨v0, v1⟩ := bounds_u16 h2
  obtain ⟨c, hc⟩ : ∃ c : Nat, ka % 300 = (c : Int) := ⟨(ka % 300).toNat, by omega⟩
  obtain ⟨d, hd⟩ : ∃ d : Nat, va % 2000 = (d : Int) := ⟨(va % 2000).toNat, by omega⟩
  have hcl : c < 300 := by omega
  have hdl : d < 2000 := by omega
  obtain ⟨K, hK⟩ := named (⟨(Lib.repeatL [107] c).toArray⟩ : ByteArray)
  obtain ⟨D, hD⟩ := named (⟨(Lib.repeatL [118] d).toArray⟩ : ByteArray)
  have hKs : K.size = c := by rw [hK.out, rep_size]
  have hDs : D.size = d := by rw [hD.out, rep_size]
  have RK : Hid (∀ w', Calls Tryd.prog 23 #[.string { data := #[107] }, .int .i64 (ka % 300)] w' fun e w'' => e = .returned (.string K) ∧ Below w'.heap.size w' w'') := fun w' => by
    rw [hc, hK.out]; exact Tryd.strings_Repeat { data := #[107] } c w' (by omega) (by show 1 * c ≤ _; omega)
  have RD : Hid (∀ w', Calls Tryd.prog 23 #[.string { data := #[118] }, .int .i64 (va % 2000)] w' fun e w'' => e = .returned (.string D) ∧ Below w'.heap.size w' w'') := fun w' => by
    rw [hd, hD.out]; exact Tryd.strings_Repeat { data := #[118] } d w' (by omega) (by show 1 * d ≤ _; omega)
  have ks : (K.size : Int) ≤ 300 := by omega
  have ds : (D.size : Int) ≤ 2000 := by omega
  obtain ⟨O, hO⟩ := named (oth (K, D))
  have hOv : (O : Int) = (K.size : Int) + (D.size : Int) + 3 := by rw [hO.out]; unfold oth; dsimp only; omega
  have ho : O ≤ 1000000 := by omega
  have hbd := szN_bd ho
  have hfix := szN_fix ho
  have hleast : ∀ m, Lib.nDigits m + O = m → szN O ≤ m := fun m h => szN_least ho h
  obtain ⟨z, hz⟩ := named ((szR (K, D) : Nat) : Int)
  have hzv : z = ((szN O : Nat) : Int) := by rw [hz.out]; unfold szR; rw [← hO.out]
  have SZ := Lib.hid fun (w' : World) (hb : Below w.heap.size w w') => size_any K D w' (V.go hb) (by rw [← hO.out]; exact ho)
  rw [← hz.out] at SZ
  obtain ⟨T, hT⟩ := named (strOfNums (decD (szR (K, D))))
  have hTs : (T.size : Int) + (O : Int) = z := by
    rw [hT.out, strD_size, hzv]; unfold szR; rw [← hO.out]; omega
  have IT := Lib.hid fun (w' : World) (hb : Below w.heap.size w w') => itoa_any (szR (K, D)) (by unfold szR; rw [← hO.out]; omega) w' (V.go hb)
  rw [← hT.out, ← hz.out] at IT
  have q1 : ((T.size : Int) + ((K.size : Int) + (D.size : Int) + 3) != z) = false := by rw [← hOv]; simp; omega
  have ts : (T.size : Int) ≤ 1000 := by omega
  have z0 : 0 ≤ z := by omega
  have z1 : z ≤ 10000 := by omega
  have HV := Lib.hid V; have HOV := Lib.hid hOv; have HZV := Lib.hid hzv; have HBD := Lib.hid hbd; have HLE := Lib.hid hleast; have HO9 := Lib.hid ho
  have HZ := Lib.hid recZ; have HO := Lib.hid recO
  clear V h1 h2 hc hd hKs hDs hOv ho hbd hfix hleast hzv hTs hcl hdl
  go_enter Tryd.func6, Tryd.ntmps6
  go_wp2_with fail
  refine (RK.out _).mono ?_; rintro e w1 ⟨rfl, b1⟩
  have B1 := Lib.hid b1; clear b1
  go_wp2_with fail
  refine (RD.out _).mono ?_; rintro e w2 ⟨rfl, b2⟩
  have B2 := Lib.hid (belT B1.out b2); clear b2
  go_wp2_with (first | (refine wpList_alloc_obj rfl 32 rfl rz HZ.out ?_; intro w3 g3 b3; have R3 := Lib.hid g3; have A3 := Lib.hid b3; clear g3 b3) | (refine wpList_store_obj rfl 32 _ _ rfl w2.heap.size rfl [.string K, .string D] rz rfl 32 R3.out HO.out.2 rfl (rec_one _ _) ?_; intro w4 g4 t4; have B4 := Lib.hid (belT B2.out (A3.out.trans (t4.below (Nat.le_refl w2.heap.size)))); have c0 := g4.get 0 rfl; have c1 := g4.get 1 rfl; clear g4 t4))
  refine (SZ.out _ B4.out).mono ?_; rintro e w5 ⟨rfl, b5⟩
  have B5 := Lib.hid (belT B4.out b5); clear b5 c0 c1
  go_wp2_with fail
  refine (IT.out _ B5.out).mono ?_; rintro e w6 ⟨rfl, b6⟩
  have B6 := Lib.hid (belT B5.out b6); clear b6
  go_wp2_with fail
  clear q1 ts
  go_loopw [8] (fun y wr => ∃ (x : Int) (m : Nat), y = .int .i64 x ∧ Hid (x = m ∧ O + 1 ≤ m ∧ m ≤ szN O) ∧ 0 ≤ x ∧ x ≤ 10000 ∧ Below w.heap.size w wr) (fun y _ => 10001 - (intOf y).toNat)
  case atStart => exact ⟨_, O + 1, rfl, ⟨by have := HOV.out; omega, Nat.le_refl _, HBD.out.1⟩, by omega, by omega, B6.out⟩
  case round =>
    obtain ⟨x, m, rfl, hm, x0, x1, hb⟩ := hrel
    have HL := Lib.hid hb
    clear hb
    have x2 : x ≤ z := by have := hm.out; have := HZV.out; omega
    by_cases hlt : x < z
    · have q3 : x < (K.size : Int) + (D.size : Int) + 3 + 10 := by have := HZV.out; have := HBD.out; have := HOV.out; omega
      have I := itoa_any m (by have := hm.out; omega) wr (HV.out.go HL.out)
      rw [← hm.out.1] at I
      obtain ⟨U, hU⟩ := named (strOfNums (decD m))
      rw [← hU.out] at I
      have HI := Lib.hid I
      have q4 : ((U.size : Int) + ((K.size : Int) + (D.size : Int) + 3) == x) = false := by
        have h1 := HOV.out
        rw [← h1]
        have e : U.size = Lib.nDigits m := by rw [hU.out, strD_size]
        have h2 := HLE.out m
        have h3 := hm.out.1
        have h4 := HZV.out
        simp
        intro h
        have := h2 (by omega)
        omega
      have us : (U.size : Int) ≤ 100 := by
        rw [hU.out, strD_size]
        have := nDigits_le 6 m (by have : (10 : Nat) ^ (6 + 1) = 10000000 := by decide
                                   have := hm.out.1
                                   omega)
        omega
      have HM : Hid (x + 1 = ((m + 1 : Nat) : Int) ∧ O + 1 ≤ m + 1 ∧ m + 1 ≤ szN O) := by
        have h := hm.out; have := HZV.out
        exact ⟨by omega, by omega, by omega⟩
      have x3 : x + 1 ≤ 10000 := by omega
      clear I hU
      go_wp2_with fail
      refine HI.out.mono ?_; rintro e w7 ⟨rfl, b7⟩
      have B7 := Lib.hid (belT HL.out b7); clear b7
      go_wp2
      go_roundw
      case rel => exact ⟨x + 1, m + 1, rfl, HM, by omega, x3, B7.out⟩
      case measure => simp [intOf]; omega
    · have q3 : ¬ x < z := hlt
      have A := Lib.hid (alive_any wr (HV.out.go HL.out))
      clear hlt
      go_wp2_with fail
      refine A.out.mono ?_; rintro e w7 ⟨rfl, b7⟩
      have B7 := Lib.hid (belT HL.out b7); clear b7
      go_wp2
      go_ret
      exact ⟨rfl, B7.out⟩
end Go.Proofs.YtjmnhnijmaceeaaDoor
