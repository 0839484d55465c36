/-
  slices.symMergeCmpFunc over nodes.
-/
import Derived.Test.YtmbimnnacjbdfaaDoorSrtRot
namespace Go.Proofs.YtmbimnnacjbdfaaDoor.Tre
open Go.RowKit Go.Proofs.YtmbimnnacjbdfaaDoor.Fit Pnm Go.Sort

/-- the contract of a merge of rows no longer than L -/
def SymOk (w0 : World) (g : Nat) (N cap L : Nat) : Prop := ∀ (ys : List NdS) (W : World) (a m b : Nat), ys.length = N → SW w0 g ys W → a < m → m < b → b ≤ N → b - a ≤ L → Stab.SrtOn keyS ys a m → Stab.SrtOn keyS ys m b →
  Calls Tryd.prog 51 #[.slice (some ⟨g, 0, none⟩) N cap, .int .i64 a, .int .i64 m, .int .i64 b, .func (.func 23) #[] #[]] W fun e w' => e = .returned (.tuple #[]) ∧ ∃ zs, Stab.Mrg keyS ys zs a b ∧ SW w0 g zs w'

set_option maxRecDepth 1000000 in
set_option maxHeartbeats 16000000 in
theorem sym_left (w0 : World) (g : Nat) (d0 : Array NdS) (R : RowK ndV 6 w0 g 0 d0) (ys : List NdS) (W : World) (hW : SW w0 g ys W) (N : Nat) (hN : ys.length = N) (hs : N = d0.size) (cap a m b : Nat) (ham : a < m) (hmb : m < b) (hb : b ≤ N) (hm : N ≤ 1000000) (s1 : Stab.SrtOn keyS ys a m) (s2 : Stab.SrtOn keyS ys m b) (h1 : m = a + 1) :
    Calls Tryd.prog 51 #[.slice (some ⟨g, 0, none⟩) N cap, .int .i64 a, .int .i64 m, .int .i64 b, .func (.func 23) #[] #[]] W fun e w' => e = .returned (.tuple #[]) ∧ ∃ zs, Stab.Mrg keyS ys zs a b ∧ SW w0 g zs w' := by
  have HR := Lib.hid R; have HW := Lib.hid hW; have HS := Lib.hid hs; have HN := Lib.hid hN
  have S1 := Lib.hid s1; have S2 := Lib.hid s2; have HAM := Lib.hid ham; have HMB := Lib.hid hmb; have HB := Lib.hid hb; have NM := Lib.hid hm
  have aE : ∀ w, (isAgg 32).run Tryd.prog w = .ok true w := fun w => by
    unfold isAgg
    rw [Sem.run_bind, run_underlying Tryd.underlying32 w]; simp
  obtain ⟨K, hK⟩ := named 6
  have zE : ∀ w, (Go.sizeOf 32).run Tryd.prog w = .ok K w := fun w => by rw [hK.out]; rfl
  have mixed : Tryd.prog.follows .mixedOrders = true := by kernel_rfl
  have bi : (b : Int) ≤ 1000000 := by omega
  have mi : (m : Int) ≤ 1000000 := by omega
  have ai : (a : Int) ≤ 1000000 := by omega
  have bN : (b : Int) ≤ N := by omega
  have mN : (m : Int) < N := by omega
  have aN : (a : Int) < N := by omega
  have M1 := Lib.hid h1
  have S2' : Hid (Stab.SrtOn keyS ys (a + 1) b) := by show Stab.SrtOn _ _ _ _; rw [← h1]; exact s2
  have m1 : (m : Int) - a = 1 := by omega
  clear R hW hs hN s1 s2 ham hmb hb hm h1
  go_enter Tryd.func51, Tryd.ntmps51
  go_wp2_with fail
  go_loopw [10, 11] (fun v u wr => ∃ (i j : Nat), v = .int .i64 i ∧ u = .int .i64 j ∧ a + 1 ≤ i ∧ i ≤ j ∧ j ≤ b ∧ (∀ k, a + 1 ≤ k → k < i → cmpZ (keyS (Stab.g ys k)) (keyS (Stab.g ys a)) < 0) ∧ (∀ k, j ≤ k → k < b → cmpZ (keyS (Stab.g ys a)) (keyS (Stab.g ys k)) ≤ 0) ∧ SW w0 g ys wr) (fun v u _ => (intOf u).toNat - (intOf v).toNat)
  case atStart => exact ⟨m, b, rfl, rfl, by have := M1.out; omega, by have := HMB.out; omega, Nat.le_refl _, fun k h h' => by have := M1.out; omega, fun k h h' => by omega, HW.out⟩
  case round =>
    obtain ⟨i, j, rfl, rfl, hi, hij, hj, hlo, hhi, hsw⟩ := hrel
    have LO := Lib.hid hlo; have HI := Lib.hid hhi; have HSW := Lib.hid hsw; have AI := Lib.hid hi; have JB := Lib.hid hj
    have jj : (j : Int) ≤ 1000000 := by omega
    have ii : (i : Int) ≤ 1000000 := by omega
    clear hlo hhi hsw
    by_cases hlt : i < j
    · have hlti : (i : Int) < j := by omega
      obtain ⟨h, hh⟩ := named ((i + j) / 2)
      have hhi : ((i : Int) + j) / 2 = (h : Int) := by have := hh.out; omega
      have hN1 : (h : Int) < N := by have := hh.out; have := HB.out; omega
      have HH : Hid (i ≤ h ∧ h < j) := by show _ ∧ _; have := hh.out; omega
      obtain ⟨ci, cj, hall⟩ := SW.test HR.out HSW.out (by rw [HN.out, HS.out]) (i := h) (j := a) (by rw [HN.out]; omega) (by rw [HN.out]; omega)
      obtain ⟨q1, q2, hcg, hcls⟩ := hall K hK.out
      have CLS := Lib.hid hcls
      obtain ⟨Z, hZ⟩ := named (cmpZ (keyS (Stab.g ys h)) (keyS (Stab.g ys a)))
      rw [← hZ.out] at hcg
      have IJ := Lib.hid hlt
      clear hall hcls hi hij hj hh hlt
      by_cases hlv : Z < 0
      · have HLV := Lib.hid hlv
        go_wp2_with fail
        go_quiet_grown (first | (go_at_call 23; refine Calls.grown_of (hcg _ _)))
        go_wp2
        (all_goals (try (exfalso; omega)))
        go_round
        case rel => exact ⟨h + 1, j, by go_num, rfl, by have := AI.out; have := HH.out; omega, by have := HH.out; omega, JB.out, fun k h1 h2 => by
          have h3 : cmpZ (keyS (Stab.g ys h)) (keyS (Stab.g ys a)) < 0 := by rw [← hZ.out]; exact HLV.out
          exact Stab.le_lt (S2'.out.le h1 (show k ≤ h by omega) (by have := HH.out; have := JB.out; omega)) h3, HI.out, CLS.out _ _⟩
        case measure => have := HH.out; simp [intOf]; omega
      · have HLV : Hid (¬ Z < 0) := hlv
        have hzd : decide (Z < 0) = false := decide_eq_false hlv
        go_wp2_with fail
        go_quiet_grown (first | (go_at_call 23; refine Calls.grown_of (hcg _ _)))
        go_wp2
        (all_goals (try (exfalso; omega)))
        go_round
        case rel => exact ⟨i, h, rfl, rfl, AI.out, HH.out.1, by have := HH.out; have := JB.out; omega, LO.out, fun k h1 h2 => by
          have h3 : cmpZ (keyS (Stab.g ys a)) (keyS (Stab.g ys h)) ≤ 0 := Stab.lt_le (by rw [← hZ.out]; have := HLV.out; omega)
          exact cmp_trans _ _ _ h3 (S2'.out.le (by have := AI.out; have := HH.out; omega) h1 h2), CLS.out _ _⟩
        case measure => have := HH.out; simp [intOf]; omega
    · obtain rfl : i = j := by omega
      have nlt : ¬ (i : Int) < i := by omega
      have i1 : (1 : Int) ≤ i := by omega
      have FIN : Hid (∀ us wq, Stab.Ix us ys (Stab.rot a (a + 1) i) → SW w0 g us wq → ∃ zs, Stab.Mrg keyS ys zs a b ∧ SW w0 g zs wq) := fun us wq hx hq => ⟨us, Stab.fwd_mrg hx AI.out JB.out (by rw [HN.out]; exact HB.out) S2'.out LO.out HI.out, hq⟩
      clear hij hi hj hlt
      go_wp2_with fail
      go_loopw [13] (fun v wr => ∃ (k : Nat) (us : List NdS), v = .int .i64 k ∧ a ≤ k ∧ k + 1 ≤ i ∧ Stab.Ix us ys (Stab.rot a (a + 1) (k + 1)) ∧ SW w0 g us wr) (fun v _ => i - (intOf v).toNat)
      case atStart => exact ⟨a, ys, rfl, Nat.le_refl _, AI.out, Stab.Ix.refl ys (fun k => by have := Stab.rot_cases a (a + 1) (a + 1) k; omega), HSW.out⟩
      case round =>
        obtain ⟨k, us, rfl, hak, hki, hix, hsu⟩ := hrel
        have HX := Lib.hid hix; have HU := Lib.hid hsu; have AK := Lib.hid hak; have KI := Lib.hid hki
        have UL : Hid (us.length = N) := by show _ = _; rw [hix.1, HN.out]
        have kk : (k : Int) ≤ 1000000 := by omega
        clear hix hsu hak
        by_cases hlt : k + 1 < i
        · have hlti : (k : Int) < (i : Int) - 1 := by omega
          have k1 : (k : Int) + 1 < N := by have := JB.out; have := HB.out; omega
          have k2 : (k : Int) < N := by omega
          have p0 : (0 : Int) ≤ (k : Int) + 1 := by omega
          have e0 : ((k : Int) + 1).toNat = k + 1 := by omega
          obtain ⟨di, dj, hall⟩ := SW.cells HR.out HU.out (by rw [UL.out, HS.out]) Tryd.prog (i := k) (j := k + 1) (by rw [UL.out]; omega) (by rw [UL.out]; omega)
          obtain ⟨l1, l2, q1, q2, q3, q4, q5⟩ := hall K hK.out
          have Q5 := Lib.hid q5
          have STEP : Hid (Stab.Ix (Stab.swl us k (k + 1)) ys (Stab.rot a (a + 1) (k + 2))) := HX.out.trans (Stab.swl_ix (by rw [UL.out]; omega) (by rw [UL.out]; omega)) (fun q => Stab.rot_forth AK.out q)
          have LT := Lib.hid hlt
          clear q5 hall hlt hki
          go_wp2_with fail
          go_big_region_o
          all_goals go_wp2
          go_round
          case rel => exact ⟨k + 1, _, by go_num, by have := AK.out; omega, by have := LT.out; omega, STEP.out, Q5.out⟩
          case measure => have := LT.out; simp [intOf]; omega
        · obtain rfl : i = k + 1 := by omega
          have nlt2 : ¬ (k : Int) < ((k + 1 : Nat) : Int) - 1 := by omega
          have F := Lib.hid (FIN.out us _ HX.out HU.out)
          clear FIN hlt hki
          go_wp2
          exact bodyPost_ret (results_none rfl _ _ _) rfl ⟨rfl, F.out⟩

set_option maxRecDepth 1000000 in
set_option maxHeartbeats 16000000 in
theorem sym_right (w0 : World) (g : Nat) (d0 : Array NdS) (R : RowK ndV 6 w0 g 0 d0) (ys : List NdS) (W : World) (hW : SW w0 g ys W) (N : Nat) (hN : ys.length = N) (hs : N = d0.size) (cap a m b : Nat) (ham : a < m) (hmb : m < b) (hb : b ≤ N) (hm : N ≤ 1000000) (s1 : Stab.SrtOn keyS ys a m) (s2 : Stab.SrtOn keyS ys m b) (h0 : m ≠ a + 1) (h1 : b = m + 1) :
    Calls Tryd.prog 51 #[.slice (some ⟨g, 0, none⟩) N cap, .int .i64 a, .int .i64 m, .int .i64 b, .func (.func 23) #[] #[]] W fun e w' => e = .returned (.tuple #[]) ∧ ∃ zs, Stab.Mrg keyS ys zs a b ∧ SW w0 g zs w' := by
  have HR := Lib.hid R; have HW := Lib.hid hW; have HS := Lib.hid hs; have HN := Lib.hid hN
  have S1 := Lib.hid s1; have S2 := Lib.hid s2; have HAM := Lib.hid ham; have HMB := Lib.hid hmb; have HB := Lib.hid hb; have NM := Lib.hid hm
  have aE : ∀ w, (isAgg 32).run Tryd.prog w = .ok true w := fun w => by
    unfold isAgg
    rw [Sem.run_bind, run_underlying Tryd.underlying32 w]; simp
  obtain ⟨K, hK⟩ := named 6
  have zE : ∀ w, (Go.sizeOf 32).run Tryd.prog w = .ok K w := fun w => by rw [hK.out]; rfl
  have mixed : Tryd.prog.follows .mixedOrders = true := by kernel_rfl
  have bi : (b : Int) ≤ 1000000 := by omega
  have mi : (m : Int) ≤ 1000000 := by omega
  have ai : (a : Int) ≤ 1000000 := by omega
  have bN : (b : Int) ≤ N := by omega
  have mN : (m : Int) < N := by omega
  have aN : (a : Int) < N := by omega
  have M1 := Lib.hid h1
  have m0 : ((m : Int) - a == 1) = false := by simp; omega
  have m1 : (b : Int) - m = 1 := by omega
  clear R hW hs hN s1 s2 ham hmb hb hm h0 h1
  go_enter Tryd.func51, Tryd.ntmps51
  go_wp2_with fail
  go_loopw [14, 15] (fun v u wr => ∃ (i j : Nat), v = .int .i64 i ∧ u = .int .i64 j ∧ a ≤ i ∧ i ≤ j ∧ j ≤ m ∧ (∀ k, a ≤ k → k < i → cmpZ (keyS (Stab.g ys k)) (keyS (Stab.g ys m)) ≤ 0) ∧ (∀ k, j ≤ k → k < m → cmpZ (keyS (Stab.g ys m)) (keyS (Stab.g ys k)) < 0) ∧ SW w0 g ys wr) (fun v u _ => (intOf u).toNat - (intOf v).toNat)
  case atStart => exact ⟨a, m, rfl, rfl, Nat.le_refl _, by have := HAM.out; omega, Nat.le_refl _, fun k h h' => by omega, fun k h h' => by omega, HW.out⟩
  case round =>
    obtain ⟨i, j, rfl, rfl, hi, hij, hj, hlo, hhi, hsw⟩ := hrel
    have LO := Lib.hid hlo; have HI := Lib.hid hhi; have HSW := Lib.hid hsw; have AI := Lib.hid hi; have JB := Lib.hid hj
    have jj : (j : Int) ≤ 1000000 := by omega
    have ii : (i : Int) ≤ 1000000 := by omega
    clear hlo hhi hsw
    by_cases hlt : i < j
    · have hlti : (i : Int) < j := by omega
      obtain ⟨h, hh⟩ := named ((i + j) / 2)
      have hhi : ((i : Int) + j) / 2 = (h : Int) := by have := hh.out; omega
      have hN1 : (h : Int) < N := by have := hh.out; have := HB.out; omega
      have HH : Hid (i ≤ h ∧ h < j) := by show _ ∧ _; have := hh.out; omega
      obtain ⟨ci, cj, hall⟩ := SW.test HR.out HSW.out (by rw [HN.out, HS.out]) (i := m) (j := h) (by rw [HN.out]; omega) (by rw [HN.out]; omega)
      obtain ⟨q1, q2, hcg, hcls⟩ := hall K hK.out
      have CLS := Lib.hid hcls
      obtain ⟨Z, hZ⟩ := named (cmpZ (keyS (Stab.g ys m)) (keyS (Stab.g ys h)))
      rw [← hZ.out] at hcg
      clear hall hcls hi hij hj hh hlt
      by_cases hlv : Z < 0
      · have HLV := Lib.hid hlv
        go_wp2_with fail
        go_quiet_grown (first | (go_at_call 23; refine Calls.grown_of (hcg _ _)))
        go_wp2
        (all_goals (try (exfalso; omega)))
        go_round
        case rel => exact ⟨i, h, rfl, rfl, AI.out, HH.out.1, by have := HH.out; have := JB.out; omega, LO.out, fun k h1 h2 => by
          have h3 : cmpZ (keyS (Stab.g ys m)) (keyS (Stab.g ys h)) < 0 := by rw [← hZ.out]; exact HLV.out
          exact Stab.lt_le_lt h3 (S1.out.le (by have := AI.out; have := HH.out; omega) h1 h2), CLS.out _ _⟩
        case measure => have := HH.out; simp [intOf]; omega
      · have HLV : Hid (¬ Z < 0) := hlv
        have hzd : decide (Z < 0) = false := decide_eq_false hlv
        go_wp2_with fail
        go_quiet_grown (first | (go_at_call 23; refine Calls.grown_of (hcg _ _)))
        go_wp2
        (all_goals (try (exfalso; omega)))
        go_round
        case rel => exact ⟨h + 1, j, by go_num, rfl, by have := AI.out; have := HH.out; omega, by have := HH.out; omega, JB.out, fun k h1 h2 => by
          have h3 : cmpZ (keyS (Stab.g ys h)) (keyS (Stab.g ys m)) ≤ 0 := Stab.lt_le (by rw [← hZ.out]; have := HLV.out; omega)
          exact cmp_trans _ _ _ (S1.out.le h1 (show k ≤ h by omega) (by have := HH.out; have := JB.out; omega)) h3, HI.out, CLS.out _ _⟩
        case measure => have := HH.out; simp [intOf]; omega
    · obtain rfl : i = j := by omega
      have nlt : ¬ (i : Int) < i := by omega
      have FIN : Hid (∀ us wq, Stab.Ix us ys (Stab.rot i m (m + 1)) → SW w0 g us wq → ∃ zs, Stab.Mrg keyS ys zs a b ∧ SW w0 g zs wq) := fun us wq hx hq => ⟨us, by rw [M1.out]; exact Stab.ins_mrg hx AI.out JB.out (by rw [HN.out]; have := HB.out; have := M1.out; omega) S1.out LO.out HI.out, hq⟩
      clear hij hi hj hlt
      go_wp2_with fail
      go_loopw [17] (fun v wr => ∃ (k : Nat) (us : List NdS), v = .int .i64 k ∧ i ≤ k ∧ k ≤ m ∧ Stab.Ix us ys (Stab.rot k m (m + 1)) ∧ SW w0 g us wr) (fun v _ => (intOf v).toNat)
      case atStart => exact ⟨m, ys, rfl, JB.out, Nat.le_refl _, Stab.Ix.refl ys (fun k => by have := Stab.rot_cases m m (m + 1) k; omega), HSW.out⟩
      case round =>
        obtain ⟨k, us, rfl, hak, hki, hix, hsu⟩ := hrel
        have HX := Lib.hid hix; have HU := Lib.hid hsu; have AK := Lib.hid hak; have KI := Lib.hid hki
        have UL : Hid (us.length = N) := by show _ = _; rw [hix.1, HN.out]
        have kk : (k : Int) ≤ 1000000 := by omega
        clear hix hsu hki
        by_cases hlt : i < k
        · obtain ⟨q, rfl⟩ : ∃ q, k = q + 1 := ⟨k - 1, by omega⟩
          have hlti : (i : Int) < (q : Int) + 1 := by omega
          have k1 : (q : Int) + 1 < N := by have := KI.out; have := HB.out; have := M1.out; omega
          have k2 : (q : Int) < N := by omega
          have p0 : (0 : Int) ≤ (q : Int) + 1 := by omega
          have e0 : ((q : Int) + 1).toNat = q + 1 := by omega
          have hwp : IntKind.i64.wrap (q : Int) = (q : Int) := wrapP (by omega) (by have := NM.out; omega)
          obtain ⟨di, dj, hall⟩ := SW.cells HR.out HU.out (by rw [UL.out, HS.out]) Tryd.prog (i := q + 1) (j := q) (by rw [UL.out]; omega) (by rw [UL.out]; omega)
          obtain ⟨l1, l2, q1, q2, q3, q4, q5⟩ := hall K hK.out
          have Q5 := Lib.hid q5
          have STEP : Hid (Stab.Ix (Stab.swl us (q + 1) q) ys (Stab.rot q m (m + 1))) := HX.out.trans (Stab.swl_ix (by rw [UL.out]; omega) (by rw [UL.out]; omega)) (fun x => by have := Stab.rot_back (j := q + 1) (i := m) KI.out (by omega) x; simpa using this)
          have LT := Lib.hid hlt
          clear q5 hall hlt hak
          go_wp2_with fail
          go_big_region_o
          all_goals go_wp2
          go_round
          case rel => exact ⟨q, _, by go_num, by have := LT.out; omega, by have := KI.out; omega, STEP.out, Q5.out⟩
          case measure => simp [intOf]
        · obtain rfl : i = k := by omega
          have nlt2 : ¬ (i : Int) < (i : Int) := by omega
          have F := Lib.hid (FIN.out us _ HX.out HU.out)
          clear FIN hlt hak
          go_wp2
          exact bodyPost_ret (results_none rfl _ _ _) rfl ⟨rfl, F.out⟩
end Go.Proofs.YtmbimnnacjbdfaaDoor.Tre
