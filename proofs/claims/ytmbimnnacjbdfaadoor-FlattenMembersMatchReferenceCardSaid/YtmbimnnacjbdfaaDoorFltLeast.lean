/-
  Layer 14: the reference's least.
-/
import Derived.Test.YtmbimnnacjbdfaaDoorFltMath
import Derived.Test.YtmbimnnacjbdfaaDoorPk04
import Derived.Test.YtmbimnnacjbdfaaDoorPk07
import Derived.Test.YtmbimnnacjbdfaaDoorPk08
namespace Go.Proofs.YtmbimnnacjbdfaaDoor.Flt
open Go.RowKit Go.Proofs.YtmbimnnacjbdfaaDoor.Fit Pnm Tre

/-- node j is of node i's class -/
def Mt (C : List Nd) (i j : Nat) : Prop := 0 < (nd C i).c ∧ (nd C j).c = (nd C i).c
/-- the first node of the class of node i, if it has one -/
structure Lea (C : List Nd) (i b : Nat) : Prop where
  le : b ≤ i
  m : b < i → Mt C i b
  no : ∀ j, j < b → ¬ Mt C i j
theorem Lea.fr {C : List Nd} {i b : Nat} (h : Lea C i b) (hi : i < C.length) : (b = i → fr C i (nd C i).c = none) ∧ (b < i → fr C i (nd C i).c = some (nd C b)) := by
  have no : ∀ j, j < b → ¬ (0 < (nd C j).c ∧ (nd C j).c = (nd C i).c) := fun j hj hm => h.no j hj ⟨by omega, hm.2⟩
  constructor
  · rintro rfl
    exact (fr_none (Nat.le_of_lt hi)).mpr no
  · intro hb
    have hm := h.m hb
    unfold Mt at hm
    exact fr_of (Nat.le_of_lt hi) hb (by omega) hm.2 ((fr_none (by omega)).mpr no)

set_option maxRecDepth 100000 in
set_option maxHeartbeats 8000000 in
theorem rleast_any (a : Option Addr) (n cap : Nat) (zs : List NdS) (i : Nat) (w : World) (ha : ArgNds w a n cap zs) (hC : Can (nds zs)) (hi : i < n) (h40 : n ≤ 40) :
    Calls Tryd.prog 37 #[.slice a n cap, .int .i64 (i : Int)] w fun e w' => ∃ b : Nat, e = .returned (.int .i64 (b : Int)) ∧ Lea (nds zs) i b ∧ Below w.heap.size w w' := by
  have HA := Lib.hid ha
  have CAN : Hid (Can (nds zs)) := hC
  have HI := Lib.hid hi
  have HN : Hid ((nds zs).length = n) := by show _ = _; rw [nds_len]; exact ha.n
  have nc : (n : Int) ≤ cap := by have := ha.c; omega
  have n40 : (n : Int) ≤ 40 := by omega
  have i1 : (i : Int) < n := by omega
  obtain ⟨b, off, yi, rfl, hb, hyi, hfi, hat⟩ := ha.get i hi
  have AT := Lib.hid hat; have BL := Lib.hid hb
  have EI : Hid (nd (nds zs) i = yi.n) := nd_y hyi
  have YI := Lib.hid fun (q : Of fun w' => Below w.heap.size w w') => (hat.below q.h hb).c hyi
  clear ha hC hi hb hyi hfi hat
  obtain ⟨ci, hci⟩ : ∃ ci, ci = yi.n.c := ⟨_, rfl⟩
  have CI : Hid ((nd (nds zs) i).c = ci) := by show _ = _; rw [EI.out, hci]
  have x5 : ∀ q : Of (fun w' => Below w.heap.size w w'), q.w.cell? ⟨b, off + i * 6 + 5, none⟩ = some (.int .i64 ci) := fun q => by rw [hci]; exact (YI.out q).2.2.2.2.2
  clear hci EI YI
  go_enter Tryd.func37, Tryd.ntmps37
  go_wp2_with fail
  go_loopw [6, 5] (fun s t wr => ∃ k u : Nat, s = .int .i64 k ∧ t = .int .i64 u ∧ k ≤ n ∧ u ≤ i ∧ (u < i → u < k ∧ Mt (nds zs) i u) ∧ (∀ j, j < k → j < u → ¬ Mt (nds zs) i j) ∧ Below w.heap.size w wr) (fun s _ _ => n - (intOf s).toNat)
  case atStart => exact ⟨0, i, rfl, rfl, Nat.zero_le _, Nat.le_refl _, fun h => absurd h (Nat.lt_irrefl _), fun j h => absurd h (Nat.not_lt_zero j), Below.refl _ _⟩
  case round =>
    obtain ⟨k, u, rfl, rfl, hk, hu, hm, hno, hW⟩ := hrel
    have HM := Lib.hid hm; have HNO := Lib.hid hno; have HW := Lib.hid hW; have HU := Lib.hid hu
    clear hm hno hW
    by_cases hkn : k < n
    · have k1 : (k : Int) < n := by omega
      have u1 : (u : Int) < n := by have := HI.out; omega
      have KN := Lib.hid hkn
      clear hkn hk hu
      obtain ⟨yk, hyk⟩ : ∃ y, zs[k]? = some y := ⟨_, List.getElem?_eq_getElem (by have := HN.out; rw [nds_len] at this; have := KN.out; omega)⟩
      obtain ⟨yu, hyu⟩ : ∃ y, zs[u]? = some y := ⟨_, List.getElem?_eq_getElem (by have := HN.out; rw [nds_len] at this; have := HU.out; have := HI.out; omega)⟩
      have EK : Hid (nd (nds zs) k = yk.n) := nd_y hyk
      have EU : Hid (nd (nds zs) u = yu.n) := nd_y hyu
      have YK := Lib.hid fun (q : Of fun w' => Below w.heap.size w w') => (AT.out.below q.h BL.out).c hyk
      have YU := Lib.hid fun (q : Of fun w' => Below w.heap.size w w') => (AT.out.below q.h BL.out).c hyu
      have PK := Lib.hid (Nat.le_trans (HA.out.s yk (List.mem_of_getElem? hyk)).p (show 140737488355328 ≤ maxLen by decide))
      clear hyk hyu
      obtain ⟨ck, hck⟩ : ∃ ck, ck = yk.n.c := ⟨_, rfl⟩
      obtain ⟨pk, hpk⟩ : ∃ pk, pk = yk.n.p := ⟨_, rfl⟩
      obtain ⟨pu, hpu⟩ : ∃ pu, pu = yu.n.p := ⟨_, rfl⟩
      have CK : Hid ((nd (nds zs) k).c = ck) := by show _ = _; rw [EK.out, hck]
      have PKK : Hid (key (nd (nds zs) k) = numsOf pk) := by show _ = _; rw [EK.out, hpk]; rfl
      have PUU : Hid (key (nd (nds zs) u) = numsOf pu) := by show _ = _; rw [EU.out, hpu]; rfl
      have k5 : ∀ q : Of (fun w' => Below w.heap.size w w'), q.w.cell? ⟨b, off + k * 6 + 5, none⟩ = some (.int .i64 ck) := fun q => by rw [hck]; exact (YK.out q).2.2.2.2.2
      have k2 : ∀ q : Of (fun w' => Below w.heap.size w w'), q.w.cell? ⟨b, off + k * 6 + 1, none⟩ = some (.string pk) := fun q => by rw [hpk]; exact (YK.out q).2.1
      have u2 : ∀ q : Of (fun w' => Below w.heap.size w w'), q.w.cell? ⟨b, off + u * 6 + 1, none⟩ = some (.string pu) := fun q => by rw [hpu]; exact (YU.out q).2.1
      have PKL : Hid (pk.size ≤ maxLen) := by show _ ≤ _; rw [hpk]; exact PK.out
      clear hck hpk hpu EK EU YK YU PK
      by_cases hc : 0 < ci
      · have d1 : decide (0 < ci) = true := decide_eq_true hc
        by_cases he : ck = ci
        · have ne : (ck == ci) = true := by simpa using he
          have MK : Hid (Mt (nds zs) i k) := ⟨by rw [CI.out]; exact hc, by rw [CK.out, CI.out, he]⟩
          obtain ⟨Z, hZ⟩ := named (cmpZ (numsOf pk) (numsOf pu))
          have RC : Hid (∀ q : World, Calls Tryd.prog 32 #[.string pk, .string pu] q fun e w' => e = .returned (.int .i64 Z) ∧ Below q.heap.size q w') := fun q => by rw [hZ.out]; exact rcmp_any pk pu q PKL.out
          have ZK : Hid (Z < 0 ↔ k < u) := by
            show _ ↔ _
            rw [hZ.out, ← PKK.out, ← PUU.out]
            rcases Nat.lt_trichotomy k u with l | l | l
            · have := CAN.out.lt l (by rw [HN.out]; have := HU.out; have := HI.out; omega)
              rw [this]; simp [l]
            · subst l; rw [(cmp_eq _ _).mpr rfl]; simp
            · have := CAN.out.lt l (by rw [HN.out]; exact KN.out)
              rw [cmp_neg, this]; simp; omega
          clear hZ he
          by_cases hku : k < u
          · have d2 : decide (Z < 0) = true := decide_eq_true (ZK.out.mpr hku)
            have z0 : Z < 0 := ZK.out.mpr hku
            go_wp2_with fail
            refine wp_region_class (S := fun w' => Below w.heap.size w w') (by kernel_rfl) (by kernel_rfl) HW.out.drew ?_
            intro hne'
            repeat (go_big_quiet_step ((go_at_call 32; exact Calls.in_class (RC.out _) fun w' hb q => q.trans (hb.mono q.size))))
            refine wpQuiet_nil ?_
            rintro wq ⟨q, rfl⟩
            go_wp2
            go_round
            case rel => exact ⟨k + 1, k, by go_num, rfl, by have := KN.out; omega, by have := HU.out; omega, fun _ => ⟨by omega, MK.out⟩, fun j hj hj' => HNO.out j hj' (by omega), q.h⟩
            case measure => simp [intOf]; have := KN.out; omega
          · have z0 : ¬ Z < 0 := fun h => hku (ZK.out.mp h)
            have d2 : decide (Z < 0) = false := decide_eq_false z0
            go_wp2_with fail
            refine wp_region_class (S := fun w' => Below w.heap.size w w') (by kernel_rfl) (by kernel_rfl) HW.out.drew ?_
            intro hne'
            repeat (go_big_quiet_step ((go_at_call 32; exact Calls.in_class (RC.out _) fun w' hb q => q.trans (hb.mono q.size))))
            refine wpQuiet_nil ?_
            rintro wq ⟨q, rfl⟩
            go_wp2
            go_round
            case rel => exact ⟨k + 1, u, by go_num, rfl, by have := KN.out; omega, HU.out, fun h => ⟨by have := (HM.out h).1; omega, (HM.out h).2⟩, fun j hj hj' => HNO.out j (by omega) hj', q.h⟩
            case measure => simp [intOf]; have := KN.out; omega
        · have ne : (ck == ci) = false := by simpa using he
          have NK : Hid (¬ Mt (nds zs) i k) := fun h => he (by have := h.2; rw [CK.out, CI.out] at this; exact this)
          clear he k2 u2
          go_wp2_with fail
          refine wp_region_class (S := fun w' => Below w.heap.size w w') (by kernel_rfl) (by kernel_rfl) HW.out.drew ?_
          intro hne'
          repeat (go_big_quiet_step (fail))
          refine wpQuiet_nil ?_
          rintro wq ⟨q, rfl⟩
          go_wp2
          go_round
          case rel => exact ⟨k + 1, u, by go_num, rfl, by have := KN.out; omega, HU.out, fun h => ⟨by have := (HM.out h).1; omega, (HM.out h).2⟩, fun j hj hj' => by
            by_cases e : j = k
            · rw [e]; exact NK.out
            · exact HNO.out j (by omega) hj', q.h⟩
          case measure => simp [intOf]; have := KN.out; omega
      · have d1 : decide (0 < ci) = false := decide_eq_false hc
        have NK : Hid (∀ j, ¬ Mt (nds zs) i j) := fun j h => hc (by have := h.1; rw [CI.out] at this; exact this)
        clear k2 u2 k5
        go_wp2_with fail
        refine wp_region_class (S := fun w' => Below w.heap.size w w') (by kernel_rfl) (by kernel_rfl) HW.out.drew ?_
        intro hne'
        repeat (go_big_quiet_step (fail))
        refine wpQuiet_nil ?_
        rintro wq ⟨q, rfl⟩
        go_wp2
        go_round
        case rel => exact ⟨k + 1, u, by go_num, rfl, by have := KN.out; omega, HU.out, fun h => absurd (HM.out h).2 (NK.out u), fun j _ _ => NK.out j, q.h⟩
        case measure => simp [intOf]; have := KN.out; omega
    · obtain rfl : k = n := by omega
      have LE : Hid (Lea (nds zs) i u) := ⟨hu, fun h => (HM.out h).2, fun j hj => HNO.out j (by have := HI.out; omega) hj⟩
      go_wp2
      go_ret
      exact ⟨u, rfl, LE.out, HW.out⟩
end Go.Proofs.YtmbimnnacjbdfaaDoor.Flt
