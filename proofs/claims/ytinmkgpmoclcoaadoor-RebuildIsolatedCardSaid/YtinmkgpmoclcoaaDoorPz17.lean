/-
  slices.symMergeCmpFunc over nodes.
-/
import Derived.Test.YtinmkgpmoclcoaaDoorPz16
import Derived.Deep.CutRange
import Derived.Test.YtinmkgpmoclcoaaDoorPz03
namespace Go.Proofs.YtinmkgpmoclcoaaDoor.Tre
open Go.RowKit Go.Proofs.YtinmkgpmoclcoaaDoor.Fit Pnm Go.Sort

/-- the contract of a merge of rows no longer than L -/
def SymOk (w0 : World) (g : Nat) (N cap L : Nat) : Prop := ∀ (ys : List NdS) (W : World) (a m b : Nat), ys.length = N → SW w0 g ys W → a < m → m < b → b ≤ N → b - a ≤ L → Stab.SrtOn keyS ys a m → Stab.SrtOn keyS ys m b →
  Calls Tryd.prog 80 #[.slice (some ⟨g, 0, none⟩) N cap, .int .i64 a, .int .i64 m, .int .i64 b, .func (.func 52) #[] #[]] W fun e w' => e = .returned (.tuple #[]) ∧ ∃ zs, Stab.Mrg keyS ys zs a b ∧ SW w0 g zs w'

set_option maxRecDepth 1000000 in
set_option maxHeartbeats 16000000 in
theorem sym_left (w0 : World) (g : Nat) (d0 : Array NdS) (R : RowK ndV 6 w0 g 0 d0) (ys : List NdS) (W : World) (hW : SW w0 g ys W) (N : Nat) (hN : ys.length = N) (hs : N = d0.size) (cap a m b : Nat) (ham : a < m) (hmb : m < b) (hb : b ≤ N) (hm : N ≤ 1000000) (s1 : Stab.SrtOn keyS ys a m) (s2 : Stab.SrtOn keyS ys m b) (h1 : m = a + 1) :
    Calls Tryd.prog 80 #[.slice (some ⟨g, 0, none⟩) N cap, .int .i64 a, .int .i64 m, .int .i64 b, .func (.func 52) #[] #[]] W fun e w' => e = .returned (.tuple #[]) ∧ ∃ zs, Stab.Mrg keyS ys zs a b ∧ SW w0 g zs w' := by
  have HR := Lib.hid R; have HW := Lib.hid hW; have HS := Lib.hid hs; have HN := Lib.hid hN
  have S1 := Lib.hid s1; have S2 := Lib.hid s2; have HAM := Lib.hid ham; have HMB := Lib.hid hmb; have HB := Lib.hid hb; have NM := Lib.hid hm
  have aE : ∀ w, (isAgg 55).run Tryd.prog w = .ok true w := fun w => by
    unfold isAgg
    rw [Sem.run_bind, run_underlying Tryd.underlying55 w]; simp
  obtain ⟨K, hK⟩ := named 6
  have zE : ∀ w, (Go.sizeOf 55).run Tryd.prog w = .ok K w := fun w => by rw [hK.out]; rfl
  have mixed : Tryd.prog.follows .mixedOrders = true := by kernel_rfl
  have bi : (b : Int) ≤ 1000000 := by omega
  have mi : (m : Int) ≤ 1000000 := by omega
  have ai : (a : Int) ≤ 1000000 := by omega
  have bN : (b : Int) ≤ N := by omega
  have mN : (m : Int) < N := by omega
  have aN : (a : Int) < N := by omega
  have M1 := Lib.hid h1
  have S2' : Hid (Stab.SrtOn keyS ys (a + 1) b) := by show Stab.SrtOn _ _ _ _; rw [← h1]; exact s2
  have m1 : (m : Int) - a = 1 := by omega
  clear R hW hs hN s1 s2 ham hmb hb hm h1
  go_enter Tryd.func80, Tryd.ntmps80
  go_wp2_with fail
  go_loopw [10, 11] (fun v u wr => ∃ (i j : Nat), v = .int .i64 i ∧ u = .int .i64 j ∧ a + 1 ≤ i ∧ i ≤ j ∧ j ≤ b ∧ (∀ k, a + 1 ≤ k → k < i → cmpZ (keyS (Stab.g ys k)) (keyS (Stab.g ys a)) < 0) ∧ (∀ k, j ≤ k → k < b → cmpZ (keyS (Stab.g ys a)) (keyS (Stab.g ys k)) ≤ 0) ∧ SW w0 g ys wr) (fun v u _ => (intOf u).toNat - (intOf v).toNat)
  case atStart => exact ⟨m, b, rfl, rfl, by have := M1.out; omega, by have := HMB.out; omega, Nat.le_refl _, fun k h h' => by have := M1.out; omega, fun k h h' => by omega, HW.out⟩
  case round =>
    obtain ⟨i, j, rfl, rfl, hi, hij, hj, hlo, hhi, hsw⟩ := hrel
    have LO := Lib.hid hlo; have HI := Lib.hid hhi; have HSW := Lib.hid hsw; have AI := Lib.hid hi; have JB := Lib.hid hj
    have jj : (j : Int) ≤ 1000000 := by omega
    have ii : (i : Int) ≤ 1000000 := by omega
    clear hlo hhi hsw
    by_cases hlt : i < j
    · have hlti : (i : Int) < j := by omega
      obtain ⟨h, hh⟩ := named ((i + j) / 2)
      have hhi : ((i : Int) + j) / 2 = (h : Int) := by have := hh.out; omega
      have hN1 : (h : Int) < N := by have := hh.out; have := HB.out; omega
      have HH : Hid (i ≤ h ∧ h < j) := by show _ ∧ _; have := hh.out; omega
      obtain ⟨ci, cj, hall⟩ := SW.test HR.out HSW.out (by rw [HN.out, HS.out]) (i := h) (j := a) (by rw [HN.out]; omega) (by rw [HN.out]; omega)
      obtain ⟨q1, q2, hcg, hcls⟩ := hall K hK.out
      have CLS := Lib.hid hcls
      obtain ⟨Z, hZ⟩ := named (cmpZ (keyS (Stab.g ys h)) (keyS (Stab.g ys a)))
      rw [← hZ.out] at hcg
      have IJ := Lib.hid hlt
      clear hall hcls hi hij hj hh hlt
      by_cases hlv : Z < 0
      · have HLV := Lib.hid hlv
        go_wp2_with fail
        go_quiet_grown (first | (go_at_call 52; refine Calls.grown_of (hcg _ _)))
        go_wp2
        (all_goals (try (exfalso; omega)))
        go_round
        case rel => exact ⟨h + 1, j, by go_num, rfl, by have := AI.out; have := HH.out; omega, by have := HH.out; omega, JB.out, fun k h1 h2 => by
          have h3 : cmpZ (keyS (Stab.g ys h)) (keyS (Stab.g ys a)) < 0 := by rw [← hZ.out]; exact HLV.out
          exact Stab.le_lt (S2'.out.le h1 (show k ≤ h by omega) (by have := HH.out; have := JB.out; omega)) h3, HI.out, CLS.out _ _⟩
        case measure => have := HH.out; simp [intOf]; omega
      · have HLV : Hid (¬ Z < 0) := hlv
        have hzd : decide (Z < 0) = false := decide_eq_false hlv
        go_wp2_with fail
        go_quiet_grown (first | (go_at_call 52; refine Calls.grown_of (hcg _ _)))
        go_wp2
        (all_goals (try (exfalso; omega)))
        go_round
        case rel => exact ⟨i, h, rfl, rfl, AI.out, HH.out.1, by have := HH.out; have := JB.out; omega, LO.out, fun k h1 h2 => by
          have h3 : cmpZ (keyS (Stab.g ys a)) (keyS (Stab.g ys h)) ≤ 0 := Stab.lt_le (by rw [← hZ.out]; have := HLV.out; omega)
          exact cmp_trans _ _ _ h3 (S2'.out.le (by have := AI.out; have := HH.out; omega) h1 h2), CLS.out _ _⟩
        case measure => have := HH.out; simp [intOf]; omega
    · obtain rfl : i = j := by omega
      have nlt : ¬ (i : Int) < i := by omega
      have i1 : (1 : Int) ≤ i := by omega
      have FIN : Hid (∀ us wq, Stab.Ix us ys (Stab.rot a (a + 1) i) → SW w0 g us wq → ∃ zs, Stab.Mrg keyS ys zs a b ∧ SW w0 g zs wq) := fun us wq hx hq => ⟨us, Stab.fwd_mrg hx AI.out JB.out (by rw [HN.out]; exact HB.out) S2'.out LO.out HI.out, hq⟩
      clear hij hi hj hlt
      go_wp2_with fail
      go_loopw [13] (fun v wr => ∃ (k : Nat) (us : List NdS), v = .int .i64 k ∧ a ≤ k ∧ k + 1 ≤ i ∧ Stab.Ix us ys (Stab.rot a (a + 1) (k + 1)) ∧ SW w0 g us wr) (fun v _ => i - (intOf v).toNat)
      case atStart => exact ⟨a, ys, rfl, Nat.le_refl _, AI.out, Stab.Ix.refl ys (fun k => by have := Stab.rot_cases a (a + 1) (a + 1) k; omega), HSW.out⟩
      case round =>
        obtain ⟨k, us, rfl, hak, hki, hix, hsu⟩ := hrel
        have HX := Lib.hid hix; have HU := Lib.hid hsu; have AK := Lib.hid hak; have KI := Lib.hid hki
        have UL : Hid (us.length = N) := by show _ = _; rw [hix.1, HN.out]
        have kk : (k : Int) ≤ 1000000 := by omega
        clear hix hsu hak
        by_cases hlt : k + 1 < i
        · have hlti : (k : Int) < (i : Int) - 1 := by omega
          have k1 : (k : Int) + 1 < N := by have := JB.out; have := HB.out; omega
          have k2 : (k : Int) < N := by omega
          have p0 : (0 : Int) ≤ (k : Int) + 1 := by omega
          have e0 : ((k : Int) + 1).toNat = k + 1 := by omega
          obtain ⟨di, dj, hall⟩ := SW.cells HR.out HU.out (by rw [UL.out, HS.out]) Tryd.prog (i := k) (j := k + 1) (by rw [UL.out]; omega) (by rw [UL.out]; omega)
          obtain ⟨l1, l2, q1, q2, q3, q4, q5⟩ := hall K hK.out
          have Q5 := Lib.hid q5
          have STEP : Hid (Stab.Ix (Stab.swl us k (k + 1)) ys (Stab.rot a (a + 1) (k + 2))) := HX.out.trans (Stab.swl_ix (by rw [UL.out]; omega) (by rw [UL.out]; omega)) (fun q => Stab.rot_forth AK.out q)
          have LT := Lib.hid hlt
          clear q5 hall hlt hki
          go_wp2_with fail
          go_big_region_o
          all_goals go_wp2
          go_round
          case rel => exact ⟨k + 1, _, by go_num, by have := AK.out; omega, by have := LT.out; omega, STEP.out, Q5.out⟩
          case measure => have := LT.out; simp [intOf]; omega
        · obtain rfl : i = k + 1 := by omega
          have nlt2 : ¬ (k : Int) < ((k + 1 : Nat) : Int) - 1 := by omega
          have F := Lib.hid (FIN.out us _ HX.out HU.out)
          clear FIN hlt hki
          go_wp2
          exact bodyPost_ret (results_none rfl _ _ _) rfl ⟨rfl, F.out⟩

set_option maxRecDepth 1000000 in
set_option maxHeartbeats 16000000 in
theorem sym_right (w0 : World) (g : Nat) (d0 : Array NdS) (R : RowK ndV 6 w0 g 0 d0) (ys : List NdS) (W : World) (hW : SW w0 g ys W) (N : Nat) (hN : ys.length = N) (hs : N = d0.size) (cap a m b : Nat) (ham : a < m) (hmb : m < b) (hb : b ≤ N) (hm : N ≤ 1000000) (s1 : Stab.SrtOn keyS ys a m) (s2 : Stab.SrtOn keyS ys m b) (h0 : m ≠ a + 1) (h1 : b = m + 1) :
    Calls Tryd.prog 80 #[.slice (some ⟨g, 0, none⟩) N cap, .int .i64 a, .int .i64 m, .int .i64 b, .func (.func 52) #[] #[]] W fun e w' => e = .returned (.tuple #[]) ∧ ∃ zs, Stab.Mrg keyS ys zs a b ∧ SW w0 g zs w' := by
  have HR := Lib.hid R; have HW := Lib.hid hW; have HS := Lib.hid hs; have HN := Lib.hid hN
  have S1 := Lib.hid s1; have S2 := Lib.hid s2; have HAM := Lib.hid ham; have HMB := Lib.hid hmb; have HB := Lib.hid hb; have NM := Lib.hid hm
  have aE : ∀ w, (isAgg 55).run Tryd.prog w = .ok true w := fun w => by
    unfold isAgg
    rw [Sem.run_bind, run_underlying Tryd.underlying55 w]; simp
  obtain ⟨K, hK⟩ := named 6
  have zE : ∀ w, (Go.sizeOf 55).run Tryd.prog w = .ok K w := fun w => by rw [hK.out]; rfl
  have mixed : Tryd.prog.follows .mixedOrders = true := by kernel_rfl
  have bi : (b : Int) ≤ 1000000 := by omega
  have mi : (m : Int) ≤ 1000000 := by omega
  have ai : (a : Int) ≤ 1000000 := by omega
  have bN : (b : Int) ≤ N := by omega
  have mN : (m : Int) < N := by omega
  have aN : (a : Int) < N := by omega
  have M1 := Lib.hid h1
  have m0 : ((m : Int) - a == 1) = false := by simp; omega
  have m1 : (b : Int) - m = 1 := by omega
  clear R hW hs hN s1 s2 ham hmb hb hm h0 h1
  go_enter Tryd.func80, Tryd.ntmps80
  go_wp2_with fail
  go_loopw [14, 15] (fun v u wr => ∃ (i j : Nat), v = .int .i64 i ∧ u = .int .i64 j ∧ a ≤ i ∧ i ≤ j ∧ j ≤ m ∧ (∀ k, a ≤ k → k < i → cmpZ (keyS (Stab.g ys k)) (keyS (Stab.g ys m)) ≤ 0) ∧ (∀ k, j ≤ k → k < m → cmpZ (keyS (Stab.g ys m)) (keyS (Stab.g ys k)) < 0) ∧ SW w0 g ys wr) (fun v u _ => (intOf u).toNat - (intOf v).toNat)
  case atStart => exact ⟨a, m, rfl, rfl, Nat.le_refl _, by have := HAM.out; omega, Nat.le_refl _, fun k h h' => by omega, fun k h h' => by omega, HW.out⟩
  case round =>
    obtain ⟨i, j, rfl, rfl, hi, hij, hj, hlo, hhi, hsw⟩ := hrel
    have LO := Lib.hid hlo; have HI := Lib.hid hhi; have HSW := Lib.hid hsw; have AI := Lib.hid hi; have JB := Lib.hid hj
    have jj : (j : Int) ≤ 1000000 := by omega
    have ii : (i : Int) ≤ 1000000 := by omega
    clear hlo hhi hsw
    by_cases hlt : i < j
    · have hlti : (i : Int) < j := by omega
      obtain ⟨h, hh⟩ := named ((i + j) / 2)
      have hhi : ((i : Int) + j) / 2 = (h : Int) := by have := hh.out; omega
      have hN1 : (h : Int) < N := by have := hh.out; have := HB.out; omega
      have HH : Hid (i ≤ h ∧ h < j) := by show _ ∧ _; have := hh.out; omega
      obtain ⟨ci, cj, hall⟩ := SW.test HR.out HSW.out (by rw [HN.out, HS.out]) (i := m) (j := h) (by rw [HN.out]; omega) (by rw [HN.out]; omega)
      obtain ⟨q1, q2, hcg, hcls⟩ := hall K hK.out
      have CLS := Lib.hid hcls
      obtain ⟨Z, hZ⟩ := named (cmpZ (keyS (Stab.g ys m)) (keyS (Stab.g ys h)))
      rw [← hZ.out] at hcg
      clear hall hcls hi hij hj hh hlt
      by_cases hlv : Z < 0
      · have HLV := Lib.hid hlv
        go_wp2_with fail
        go_quiet_grown (first | (go_at_call 52; refine Calls.grown_of (hcg _ _)))
        go_wp2
        (all_goals (try (exfalso; omega)))
        go_round
        case rel => exact ⟨i, h, rfl, rfl, AI.out, HH.out.1, by have := HH.out; have := JB.out; omega, LO.out, fun k h1 h2 => by
          have h3 : cmpZ (keyS (Stab.g ys m)) (keyS (Stab.g ys h)) < 0 := by rw [← hZ.out]; exact HLV.out
          exact Stab.lt_le_lt h3 (S1.out.le (by have := AI.out; have := HH.out; omega) h1 h2), CLS.out _ _⟩
        case measure => have := HH.out; simp [intOf]; omega
      · have HLV : Hid (¬ Z < 0) := hlv
        have hzd : decide (Z < 0) = false := decide_eq_false hlv
        go_wp2_with fail
        go_quiet_grown (first | (go_at_call 52; refine Calls.grown_of (hcg _ _)))
        go_wp2
        (all_goals (try (exfalso; omega)))
        go_round
        case rel => exact ⟨h + 1, j, by go_num, rfl, by have := AI.out; have := HH.out; omega, by have := HH.out; omega, JB.out, fun k h1 h2 => by
          have h3 : cmpZ (keyS (Stab.g ys h)) (keyS (Stab.g ys m)) ≤ 0 := Stab.lt_le (by rw [← hZ.out]; have := HLV.out; omega)
          exact cmp_trans _ _ _ (S1.out.le h1 (show k ≤ h by omega) (by have := HH.out; have := JB.out; omega)) h3, HI.out, CLS.out _ _⟩
        case measure => have := HH.out; simp [intOf]; omega
    · obtain rfl : i = j := by omega
      have nlt : ¬ (i : Int) < i := by omega
      have FIN : Hid (∀ us wq, Stab.Ix us ys (Stab.rot i m (m + 1)) → SW w0 g us wq → ∃ zs, Stab.Mrg keyS ys zs a b ∧ SW w0 g zs wq) := fun us wq hx hq => ⟨us, by rw [M1.out]; exact Stab.ins_mrg hx AI.out JB.out (by rw [HN.out]; have := HB.out; have := M1.out; omega) S1.out LO.out HI.out, hq⟩
      clear hij hi hj hlt
      go_wp2_with fail
      go_loopw [17] (fun v wr => ∃ (k : Nat) (us : List NdS), v = .int .i64 k ∧ i ≤ k ∧ k ≤ m ∧ Stab.Ix us ys (Stab.rot k m (m + 1)) ∧ SW w0 g us wr) (fun v _ => (intOf v).toNat)
      case atStart => exact ⟨m, ys, rfl, JB.out, Nat.le_refl _, Stab.Ix.refl ys (fun k => by have := Stab.rot_cases m m (m + 1) k; omega), HSW.out⟩
      case round =>
        obtain ⟨k, us, rfl, hak, hki, hix, hsu⟩ := hrel
        have HX := Lib.hid hix; have HU := Lib.hid hsu; have AK := Lib.hid hak; have KI := Lib.hid hki
        have UL : Hid (us.length = N) := by show _ = _; rw [hix.1, HN.out]
        have kk : (k : Int) ≤ 1000000 := by omega
        clear hix hsu hki
        by_cases hlt : i < k
        · obtain ⟨q, rfl⟩ : ∃ q, k = q + 1 := ⟨k - 1, by omega⟩
          have hlti : (i : Int) < (q : Int) + 1 := by omega
          have k1 : (q : Int) + 1 < N := by have := KI.out; have := HB.out; have := M1.out; omega
          have k2 : (q : Int) < N := by omega
          have p0 : (0 : Int) ≤ (q : Int) + 1 := by omega
          have e0 : ((q : Int) + 1).toNat = q + 1 := by omega
          have hwp : IntKind.i64.wrap (q : Int) = (q : Int) := wrapP (by omega) (by have := NM.out; omega)
          obtain ⟨di, dj, hall⟩ := SW.cells HR.out HU.out (by rw [UL.out, HS.out]) Tryd.prog (i := q + 1) (j := q) (by rw [UL.out]; omega) (by rw [UL.out]; omega)
          obtain ⟨l1, l2, q1, q2, q3, q4, q5⟩ := hall K hK.out
          have Q5 := Lib.hid q5
          have STEP : Hid (Stab.Ix (Stab.swl us (q + 1) q) ys (Stab.rot q m (m + 1))) := HX.out.trans (Stab.swl_ix (by rw [UL.out]; omega) (by rw [UL.out]; omega)) (fun x => by have := Stab.rot_back (j := q + 1) (i := m) KI.out (by omega) x; simpa using this)
          have LT := Lib.hid hlt
          clear q5 hall hlt hak
          go_wp2_with fail
          go_big_region_o
          all_goals go_wp2
          go_round
          case rel => exact ⟨q, _, by go_num, by have := LT.out; omega, by have := KI.out; omega, STEP.out, Q5.out⟩
          case measure => simp [intOf]
        · obtain rfl : i = k := by omega
          have nlt2 : ¬ (i : Int) < (i : Int) := by omega
          have F := Lib.hid (FIN.out us _ HX.out HU.out)
          clear FIN hlt hak
          go_wp2
          exact bodyPost_ret (results_none rfl _ _ _) rfl ⟨rfl, F.out⟩
end Go.Proofs.YtinmkgpmoclcoaaDoor.Tre
/-
  slices.symMergeCmpFunc over nodes: the general case.
-/
namespace Go.Proofs.YtinmkgpmoclcoaaDoor.Tre
open Go.RowKit Go.Proofs.YtinmkgpmoclcoaaDoor.Fit Pnm Go.Sort

set_option maxRecDepth 1000000 in
set_option maxHeartbeats 16000000 in
theorem sym_big (w0 : World) (g : Nat) (d0 : Array NdS) (R : RowK ndV 6 w0 g 0 d0) (ys : List NdS) (W : World) (hW : SW w0 g ys W) (N : Nat) (hN : ys.length = N) (hs : N = d0.size) (cap a m b : Nat) (ham : a < m) (hmb : m < b) (hb : b ≤ N) (hm : N ≤ 1000000) (s1 : Stab.SrtOn keyS ys a m) (s2 : Stab.SrtOn keyS ys m b) (h0 : m ≠ a + 1) (h1 : b ≠ m + 1) (L : Nat) (hL : b - a ≤ L + 1) (IH : SymOk w0 g N cap L) :
    Calls Tryd.prog 80 #[.slice (some ⟨g, 0, none⟩) N cap, .int .i64 a, .int .i64 m, .int .i64 b, .func (.func 52) #[] #[]] W fun e w' => e = .returned (.tuple #[]) ∧ ∃ zs, Stab.Mrg keyS ys zs a b ∧ SW w0 g zs w' := by
  have HR := Lib.hid R; have HW := Lib.hid hW; have HS := Lib.hid hs; have HN := Lib.hid hN
  have S1 := Lib.hid s1; have S2 := Lib.hid s2; have HAM := Lib.hid ham; have HMB := Lib.hid hmb; have HB := Lib.hid hb; have NM := Lib.hid hm
  have aE : ∀ w, (isAgg 55).run Tryd.prog w = .ok true w := fun w => by
    unfold isAgg
    rw [Sem.run_bind, run_underlying Tryd.underlying55 w]; simp
  obtain ⟨K, hK⟩ := named 6
  have zE : ∀ w, (Go.sizeOf 55).run Tryd.prog w = .ok K w := fun w => by rw [hK.out]; rfl
  have mixed : Tryd.prog.follows .mixedOrders = true := by kernel_rfl
  have bi : (b : Int) ≤ 1000000 := by omega
  have mi : (m : Int) ≤ 1000000 := by omega
  have ai : (a : Int) ≤ 1000000 := by omega
  have bN : (b : Int) ≤ N := by omega
  have mN : (m : Int) < N := by omega
  have aN : (a : Int) < N := by omega
  have m0 : ((m : Int) - a == 1) = false := by simp; omega
  have m1 : ((b : Int) - m == 1) = false := by simp; omega
  obtain ⟨M, hM⟩ := named ((a + b) / 2)
  have hMi : ((a : Int) + b) / 2 = (M : Int) := by have := hM.out; omega
  have HM1 : Hid (M * 2 ≤ a + b ∧ a + b ≤ M * 2 + 1) := by show _ ∧ _; have := hM.out; omega
  have AM2 : Hid (a + 2 ≤ M ∧ M + 1 ≤ b) := by show _ ∧ _; have := HM1.out; omega
  have Mi : (M : Int) ≤ 1000000 := by have := HM1.out; omega
  have HIH := Lib.hid IH
  have HLL := Lib.hid hL
  have LH := Lib.hid (Stab.lo_hi HAM.out HMB.out HM1.out.1 HM1.out.2)
  have CUT : Hid (∀ s, Stab.lo a m b M ≤ s → s ≤ Stab.hi m M → (Stab.lo a m b M < s → ¬ Stab.B keyS ys (M + m - 1) (s - 1)) → (s < Stab.hi m M → Stab.B keyS ys (M + m - 1) s) → Stab.Cut keyS ys a m b M s) := fun s h1 h2 h3 h4 => Stab.cut_of HAM.out HMB.out HM1.out.1 HM1.out.2 S1.out S2.out h1 h2 h3 h4
  have MONO : Hid (∀ c d, Stab.lo a m b M ≤ c → c ≤ d → d < Stab.hi m M → Stab.B keyS ys (M + m - 1) c → Stab.B keyS ys (M + m - 1) d) := fun c d h1 h2 h3 h4 => Stab.b_mono HAM.out HMB.out HM1.out.1 HM1.out.2 S1.out S2.out h1 h2 h3 h4
  have ROT : Hid (∀ (s e : Nat) (wq : World), SW w0 g ys wq → s < m → m < e → e ≤ N → Calls Tryd.prog 84 #[.slice (some ⟨g, 0, none⟩) N cap, .int .i64 s, .int .i64 m, .int .i64 e, .func (.func 52) #[] #[]] wq fun e' w' => e' = .returned (.tuple #[]) ∧ ∃ zs, Stab.Ix zs ys (Stab.rot s m e) ∧ SW w0 g zs w') := fun s e wq hq h1 h2 h3 => by
    have h := rot_any w0 g d0 HR.out ys wq hq (by rw [HN.out, HS.out]) cap s m e h1 h2 (by rw [HN.out]; exact h3) (by rw [HN.out]; exact NM.out) (.func (.func 52) #[] #[])
    rw [HN.out] at h; exact h
  have mM : (M : Int) + m ≤ 2000000 := by omega
  obtain ⟨LO, hLO⟩ := named (Stab.lo a m b M)
  obtain ⟨HI, hHI⟩ := named (Stab.hi m M)
  rw [← hLO.out, ← hHI.out] at LH
  rw [← hLO.out, ← hHI.out] at CUT MONO
  have HB2 := And.intro h0 h1
  clear R hW hs hN s1 s2 ham hmb hb hm h0 h1 IH hL
  have LHo : Hid (a ≤ LO ∧ LO ≤ HI ∧ HI ≤ m ∧ HI ≤ M ∧ M + m - b ≤ LO) := LH.out
  have hIi : (HI : Int) ≤ 1000000 := by have := LHo.out; omega
  clear HB2
  go_enter Tryd.func80, Tryd.ntmps80
  go_upto_if 140 with fail
  (try simp only [Act.put, List.setIfInBounds_toArray, List.set_cons_zero, List.set_cons_succ])
  go_cut [20, 21] from 138 to 146 (fun s20 s21 wx => s20 = .int .i64 LO ∧ s21 = .int .i64 HI ∧ wx = W)
  case first =>
    by_cases hc : M < m
    · have hcm : (M : Int) < m := by omega
      have eLO : (M : Int) + m - b = (LO : Int) := by have h := hLO.out; unfold Stab.lo at h; rw [if_pos hc] at h; have := LHo.out; omega
      have eHI : HI = M := by have h := hHI.out; unfold Stab.hi at h; rw [if_pos hc] at h; exact h
      clear hc hLO hHI
      go_wp2_with fail
      go_meet
      exact ⟨by first | rfl | (congr 1; omega), by first | rfl | (congr 1; omega), rfl⟩
    · have hcm : ¬ (M : Int) < m := by omega
      have eLO : LO = a := by have h := hLO.out; unfold Stab.lo at h; rw [if_neg hc] at h; exact h
      have eHI : HI = m := by have h := hHI.out; unfold Stab.hi at h; rw [if_neg hc] at h; exact h
      clear hc hLO hHI
      go_wp2_with fail
      go_meet
      exact ⟨by first | rfl | (congr 1; omega), by first | rfl | (congr 1; omega), rfl⟩
  case rest =>
  obtain ⟨rfl, rfl, hwc⟩ := hcut
  have HWc : Hid (SW w0 g ys wc) := hwc ▸ HW.out
  clear hwc hLO hHI HW
  obtain ⟨Q, hQ⟩ := named (M + m - 1)
  have hQi : (M : Int) + m - 1 = (Q : Int) := by have := hQ.out; have := AM2.out; omega
  have Qi : (Q : Int) ≤ 2000000 := by omega
  go_wp2_with fail
  go_loopw [20, 21] (fun v u wr => ∃ (s r : Nat), v = .int .i64 s ∧ u = .int .i64 r ∧ LO ≤ s ∧ s ≤ r ∧ r ≤ HI ∧ (∀ c, LO ≤ c → c < s → ¬ Stab.B keyS ys (M + m - 1) c) ∧ (∀ c, r ≤ c → c < HI → Stab.B keyS ys (M + m - 1) c) ∧ SW w0 g ys wr) (fun v u _ => (intOf u).toNat - (intOf v).toNat)
  case atStart => exact ⟨LO, HI, rfl, rfl, Nat.le_refl _, LHo.out.2.1, Nat.le_refl _, fun c h h' => by omega, fun c h h' => by omega, HWc.out⟩
  case round =>
    obtain ⟨s, r, rfl, rfl, hs, hsr, hr, hlo, hhi, hsw⟩ := hrel
    have L1 := Lib.hid hlo; have L2 := Lib.hid hhi; have HSW := Lib.hid hsw; have LS := Lib.hid hs; have RH := Lib.hid hr
    have ss : (s : Int) ≤ 1000000 := by omega
    have rr : (r : Int) ≤ 1000000 := by omega
    clear hlo hhi hsw
    by_cases hlt : s < r
    · have hlti : (s : Int) < r := by omega
      obtain ⟨c, hc⟩ := named ((s + r) / 2)
      have hci : ((s : Int) + r) / 2 = (c : Int) := by have := hc.out; omega
      have CC : Hid (s ≤ c ∧ c < r) := by show _ ∧ _; have := hc.out; omega
      have cM : Hid (c < m ∧ c < M ∧ M + m ≤ b + c) := by show _ ∧ _; have := CC.out; have := LHo.out; have := LS.out; have := RH.out; omega
      obtain ⟨P', hP⟩ := named (M + m - 1 - c)
      have cQ : (c : Int) ≤ Q := by have := cM.out; have := hQ.out; omega
      have hPi : (Q : Int) - c = (P' : Int) := by have := hP.out; have := cM.out; have := hQ.out; omega
      have wP : IntKind.i64.wrap (P' : Int) = (P' : Int) := wrapP (by omega) (by have := cM.out; omega)
      have cN : (c : Int) < N := by have := cM.out; omega
      have pN : (P' : Int) < N := by have := cM.out; have := hP.out; have := AM2.out; have := HB.out; omega
      obtain ⟨ci, cj, hall⟩ := SW.test HR.out HSW.out (by rw [HN.out, HS.out]) (i := P') (j := c) (by rw [HN.out]; omega) (by rw [HN.out]; omega)
      obtain ⟨q1, q2, hcg, hcls⟩ := hall K hK.out
      have CLS := Lib.hid hcls
      obtain ⟨Z, hZ⟩ := named (cmpZ (keyS (Stab.g ys P')) (keyS (Stab.g ys c)))
      rw [← hZ.out] at hcg
      have BZ : Hid (Stab.B keyS ys (M + m - 1) c ↔ Z < 0) := by show _ ↔ _; unfold Stab.B; rw [hZ.out, hP.out]
      clear hall hcls hs hsr hr hc hlt hP
      by_cases hlv : Z < 0
      · have HLV := Lib.hid hlv
        go_wp2_with fail
        go_quiet_grown (first | (go_at_call 52; refine Calls.grown_of (hcg _ _)))
        go_wp2
        (all_goals (try (exfalso; omega)))
        go_round
        case rel => exact ⟨s, c, rfl, rfl, LS.out, CC.out.1, by have := CC.out; have := RH.out; omega, L1.out, fun d h1 h2 => MONO.out c d (by have := LS.out; have := CC.out; omega) h1 h2 (BZ.out.mpr HLV.out), CLS.out _ _⟩
        case measure => have := CC.out; simp [intOf]; omega
      · have HLV : Hid (¬ Z < 0) := hlv
        have hzd : decide (Z < 0) = false := decide_eq_false hlv
        go_wp2_with fail
        go_quiet_grown (first | (go_at_call 52; refine Calls.grown_of (hcg _ _)))
        go_wp2
        (all_goals (try (exfalso; omega)))
        go_round
        case rel => exact ⟨c + 1, r, by go_num, rfl, by have := LS.out; have := CC.out; omega, by have := CC.out; omega, RH.out, fun d h1 h2 hb => absurd (BZ.out.mp (MONO.out d c h1 (by omega) (by have := CC.out; have := RH.out; omega) hb)) (by have := HLV.out; omega), L2.out, CLS.out _ _⟩
        case measure => have := CC.out; simp [intOf]; omega
    · obtain rfl : s = r := by omega
      have nlt : ¬ (s : Int) < s := by omega
      have cut := CUT.out s LS.out RH.out (fun h => L1.out (s - 1) (by omega) (by omega)) (fun h => L2.out s (Nat.le_refl _) h)
      have HC := Lib.hid cut
      obtain ⟨E, hE⟩ := named (M + m - s)
      have hEi : (M : Int) + m - s = (E : Int) := by have := hE.out; have := cut.le; omega
      have CE : Hid (a ≤ s ∧ s ≤ m ∧ m ≤ E ∧ E ≤ b ∧ s ≤ M ∧ M ≤ E) := by
        show _ ∧ _
        have := hE.out; have := cut.as; have := cut.sm; have := cut.me; have := cut.eb; have := cut.le
        omega
      have Ei : (E : Int) ≤ 1000000 := by have := CE.out; omega
      have MID : Hid (∀ zs, Stab.Ix zs ys (Stab.rot s m E) → Stab.Mid keyS ys zs a m b M s) := fun zs hx => Stab.mid_of (by rw [HN.out]; exact HB.out) S1.out S2.out HC.out (by rw [← hE.out]; exact hx)
      have EE : Hid (M + m - s = E) := hE.out.symm
      clear cut hs hsr hr hlt CUT MONO hE
      obtain ⟨C1, hC1⟩ := named (decide (s < m ∧ m < E))
      have KC1 : Hid (C1 = true ↔ s < m ∧ m < E) := by show _ ↔ _; rw [hC1.out, decide_eq_true_iff]
      have NC1 : Hid (¬ (s < m ∧ m < E) → C1 = false) := fun h => by rw [hC1.out]; exact decide_eq_false h
      go_upto_region 39 with fail
      (try simp only [Act.put, List.setIfInBounds_toArray, List.set_cons_zero, List.set_cons_succ])
      go_cut [185] from 178 to 184 (fun sc wx => sc = .bool C1 ∧ wx = wr)
      case first =>
        by_cases k1 : s < m
        · have k1i : (s : Int) < m := by omega
          by_cases k2 : m < E
          · have k2i : (m : Int) < E := by omega
            have e := KC1.out.mpr ⟨k1, k2⟩
            clear k1 k2
            go_wp2_with fail
            go_meet
            exact ⟨by rw [e], rfl⟩
          · have k2i : ¬ (m : Int) < E := by omega
            have e := NC1.out (fun h => k2 h.2)
            clear k1 k2
            go_wp2_with fail
            go_meet
            exact ⟨by rw [e], rfl⟩
        · have k1i : ¬ (s : Int) < m := by omega
          have e := NC1.out (fun h => k1 h.1)
          clear k1
          go_wp2_with fail
          go_meet
          exact ⟨by rw [e], rfl⟩
      case rest =>
      obtain ⟨rfl, hwd⟩ := hcut
      have HSd : Hid (SW w0 g ys wc) := hwd ▸ HSW.out
      clear hwd HSW hC1 NC1
      go_upto_if 185 with fail
      (try simp only [Act.put, List.setIfInBounds_toArray, List.set_cons_zero, List.set_cons_succ])
      go_cut [185] from 186 to 191 (fun sc wx => ∃ zs, Stab.Mid keyS ys zs a m b M s ∧ zs.length = N ∧ SW w0 g zs wx)
      case first =>
        cases C1 with
        | true =>
          obtain ⟨k1, k2⟩ := KC1.out.mp rfl
          have RR := Lib.hid (ROT.out s E _ HSd.out k1 k2 (by have := CE.out; have := HB.out; omega))
          clear ROT k1 k2
          go_wp2_with fail
          refine RR.out.mono ?_; rintro e w1 ⟨rfl, zs, hx, hz⟩
          have HMID := Lib.hid (MID.out zs hx); have HZ := Lib.hid hz
          have ZL : Hid (zs.length = N) := by show _ = _; rw [hx.1, HN.out]
          clear hx hz
          go_wp2_with fail
          go_meet
          exact ⟨zs, HMID.out, ZL.out, HZ.out⟩
        | false =>
          have r1 : Hid (s = m ∨ E = m) := by
            show _ ∨ _
            have := CE.out
            rcases (show (s < m ∧ m < E) ∨ s = m ∨ E = m by omega) with h | h
            · have := KC1.out.mpr h; cases this
            · exact h
          have HMID := Lib.hid (MID.out ys (Stab.Ix.refl ys (fun k => by have := Stab.rot_cases s m E k; have := r1.out; have := CE.out; omega)))
          clear ROT
          go_wp2_with fail
          go_meet
          exact ⟨ys, HMID.out, HN.out, HSd.out⟩
      case rest =>
      obtain ⟨zs, hmid, hzl, hzs⟩ := hcut
      have HMID := Lib.hid hmid; have ZL := Lib.hid hzl; have HZ := Lib.hid hzs
      clear hmid hzl hzs ROT MID KC1
      obtain ⟨C2, hC2⟩ := named (decide (a < s ∧ s < M))
      have KC2 : Hid (C2 = true ↔ a < s ∧ s < M) := by show _ ↔ _; rw [hC2.out, decide_eq_true_iff]
      have NC2 : Hid (¬ (a < s ∧ s < M) → C2 = false) := fun h => by rw [hC2.out]; exact decide_eq_false h
      go_upto_region 41 with fail
      (try simp only [Act.put, List.setIfInBounds_toArray, List.set_cons_zero, List.set_cons_succ])
      go_cut [199] from 192 to 198 (fun sc wx => sc = .bool C2 ∧ wx = wc)
      case first =>
        by_cases k1 : a < s
        · have k1i : (a : Int) < s := by omega
          by_cases k2 : s < M
          · have k2i : (s : Int) < M := by omega
            have e := KC2.out.mpr ⟨k1, k2⟩
            clear k1 k2
            go_wp2_with fail
            go_meet
            exact ⟨by rw [e], rfl⟩
          · have k2i : ¬ (s : Int) < M := by omega
            have e := NC2.out (fun h => k2 h.2)
            clear k1 k2
            go_wp2_with fail
            go_meet
            exact ⟨by rw [e], rfl⟩
        · have k1i : ¬ (a : Int) < s := by omega
          have e := NC2.out (fun h => k1 h.1)
          clear k1
          go_wp2_with fail
          go_meet
          exact ⟨by rw [e], rfl⟩
      case rest =>
      obtain ⟨rfl, hwd⟩ := hcut
      have HSd : Hid (SW w0 g zs wc) := hwd ▸ HZ.out
      clear hwd HZ hC2 NC2
      go_upto_if 199 with fail
      (try simp only [Act.put, List.setIfInBounds_toArray, List.set_cons_zero, List.set_cons_succ])
      go_cut [199] from 200 to 205 (fun sc wx => ∃ xs, Stab.Mrg keyS zs xs a M ∧ xs.length = N ∧ SW w0 g xs wx)
      case first =>
        cases C2 with
        | true =>
          obtain ⟨k1, k2⟩ := KC2.out.mp rfl
          have I1 := Lib.hid (HIH.out zs _ a s M ZL.out HSd.out k1 k2 (by have := AM2.out; have := HB.out; omega) (by have := AM2.out; have := HLL.out; omega) HMID.out.s1 HMID.out.s2)
          clear k1 k2
          go_wp2_with fail
          refine I1.out.mono ?_; rintro e w2 ⟨rfl, xs, hx1, hz1⟩
          have HX1 := Lib.hid hx1; have HZ1 := Lib.hid hz1
          have XL : Hid (xs.length = N) := by show _ = _; rw [hx1.win.len, ZL.out]
          clear hx1 hz1
          go_wp2_with fail
          go_meet
          exact ⟨xs, HX1.out, XL.out, HZ1.out⟩
        | false =>
          have ID1 : Hid (Stab.Mrg keyS zs zs a M) := by
            rcases (show (a < s ∧ s < M) ∨ s = a ∨ s = M by have := CE.out; omega) with h | h | h
            · have := KC2.out.mpr h; cases this
            · have := HMID.out.s2; rw [h] at this; exact Stab.Mrg.id this
            · have := HMID.out.s1; rw [h] at this; exact Stab.Mrg.id this
          go_wp2_with fail
          go_meet
          exact ⟨zs, ID1.out, ZL.out, HSd.out⟩
      case rest =>
      obtain ⟨xs, hx1, hxl, hxs⟩ := hcut
      have HX1 := Lib.hid hx1; have XL := Lib.hid hxl; have HX := Lib.hid hxs
      have DONE : Hid (∀ us, Stab.Mrg keyS xs us M b → Stab.Mrg keyS ys us a b) := fun us hu => Stab.mid_fin HMID.out (by have := AM2.out; omega) (by have := AM2.out; omega) HX1.out hu
      have S3 : Hid (Stab.SrtOn keyS xs M E ∧ Stab.SrtOn keyS xs E b) := by
        have h1 := HMID.out.s3.out HX1.out.win (.inr (Nat.le_refl _))
        have h2 := HMID.out.s4.out HX1.out.win (.inr (by have := CE.out; rw [EE.out]; omega))
        rw [EE.out] at h1 h2
        exact ⟨h1, h2⟩
      clear hx1 hxl hxs KC2
      obtain ⟨C3, hC3⟩ := named (decide (M < E ∧ E < b))
      have KC3 : Hid (C3 = true ↔ M < E ∧ E < b) := by show _ ↔ _; rw [hC3.out, decide_eq_true_iff]
      have NC3 : Hid (¬ (M < E ∧ E < b) → C3 = false) := fun h => by rw [hC3.out]; exact decide_eq_false h
      go_upto_region 43 with fail
      (try simp only [Act.put, List.setIfInBounds_toArray, List.set_cons_zero, List.set_cons_succ])
      go_cut [213] from 206 to 212 (fun sc wx => sc = .bool C3 ∧ wx = wc)
      case first =>
        by_cases k1 : M < E
        · have k1i : (M : Int) < E := by omega
          by_cases k2 : E < b
          · have k2i : (E : Int) < b := by omega
            have e := KC3.out.mpr ⟨k1, k2⟩
            clear k1 k2
            go_wp2_with fail
            go_meet
            exact ⟨by rw [e], rfl⟩
          · have k2i : ¬ (E : Int) < b := by omega
            have e := NC3.out (fun h => k2 h.2)
            clear k1 k2
            go_wp2_with fail
            go_meet
            exact ⟨by rw [e], rfl⟩
        · have k1i : ¬ (M : Int) < E := by omega
          have e := NC3.out (fun h => k1 h.1)
          clear k1
          go_wp2_with fail
          go_meet
          exact ⟨by rw [e], rfl⟩
      case rest =>
      obtain ⟨rfl, hwd⟩ := hcut
      have HSd : Hid (SW w0 g xs wc) := hwd ▸ HX.out
      clear hwd HX hC3 NC3
      cases C3 with
      | true =>
        obtain ⟨k1, k2⟩ := KC3.out.mp rfl
        have I2 := Lib.hid (HIH.out xs _ M E b XL.out HSd.out k1 k2 HB.out (by have := AM2.out; have := HLL.out; omega) S3.out.1 S3.out.2)
        clear k1 k2
        go_wp2_with fail
        refine I2.out.mono ?_; rintro e w3 ⟨rfl, us, hu, hz2⟩
        have F := Lib.hid (DONE.out us hu); have HZ2 := Lib.hid hz2
        clear hu hz2 DONE
        go_wp2_with fail
        go_end0
        exact ⟨rfl, us, F.out, HZ2.out⟩
      | false =>
        have ID2 : Hid (Stab.Mrg keyS xs xs M b) := by
          rcases (show (M < E ∧ E < b) ∨ E = M ∨ E = b by have := CE.out; omega) with h | h | h
          · have := KC3.out.mpr h; cases this
          · have := S3.out.2; rw [h] at this; exact Stab.Mrg.id this
          · have := S3.out.1; rw [h] at this; exact Stab.Mrg.id this
        have F := Lib.hid (DONE.out _ ID2.out)
        clear DONE
        go_wp2_with fail
        go_end0
        exact ⟨rfl, xs, F.out, HSd.out⟩

theorem sym_any (w0 : World) (g : Nat) (d0 : Array NdS) (R : RowK ndV 6 w0 g 0 d0) (N : Nat) (hs : N = d0.size) (cap : Nat) (hm : N ≤ 1000000) : ∀ L, SymOk w0 g N cap L
  | 0 => fun ys W a m b hN hW h1 h2 h3 h4 _ _ => by omega
  | L + 1 => fun ys W a m b hN hW h1 h2 h3 h4 s1 s2 => by
    by_cases c1 : m = a + 1
    · exact sym_left w0 g d0 R ys W hW N hN hs cap a m b h1 h2 h3 hm s1 s2 c1
    · by_cases c2 : b = m + 1
      · exact sym_right w0 g d0 R ys W hW N hN hs cap a m b h1 h2 h3 hm s1 s2 c1 c2
      · exact sym_big w0 g d0 R ys W hW N hN hs cap a m b h1 h2 h3 hm s1 s2 c1 c2 L h4 (sym_any w0 g d0 R N hs cap hm L)
end Go.Proofs.YtinmkgpmoclcoaaDoor.Tre
/-
  slices.SortStableFunc over at most 40 nodes, by their paths.
-/
namespace Go.Proofs.YtinmkgpmoclcoaaDoor.Tre
open Go.RowKit Go.Proofs.YtinmkgpmoclcoaaDoor.Fit Pnm Go.Sort

set_option maxRecDepth 100000 in
set_option maxHeartbeats 8000000 in
theorem stable_any (w0 : World) (g : Nat) (d0 : Array NdS) (R : RowK ndV 6 w0 g 0 d0) (ys : List NdS) (W : World) (hW : SW w0 g ys W) (N : Nat) (hN : ys.length = N) (hs : N = d0.size) (cap : Nat) (h40 : N ≤ 40) :
    Calls Tryd.prog 70 #[.slice (some ⟨g, 0, none⟩) N cap, .int .i64 N, .func (.func 52) #[] #[]] W fun e w' => e = .returned (.tuple #[]) ∧ ∃ zs, Stab.Mrg keyS ys zs 0 N ∧ SW w0 g zs w' := by
  have HW := Lib.hid hW; have HN := Lib.hid hN
  have INS : Hid (∀ (zs : List NdS) (wq : World) (a b : Nat), zs.length = N → SW w0 g zs wq → a ≤ b → b ≤ N → Calls Tryd.prog 79 #[.slice (some ⟨g, 0, none⟩) N cap, .int .i64 a, .int .i64 b, .func (.func 52) #[] #[]] wq fun e w' => e = .returned (.tuple #[]) ∧ ∃ us, Stab.Mrg keyS zs us a b ∧ SW w0 g us w') := fun zs wq a b hl hz h1 h2 => by
    have h := ins_any w0 g d0 R zs wq hz (by rw [hl, hs]) cap a b h1 (by rw [hl]; exact h2) (by rw [hl]; omega)
    rw [hl] at h; exact h
  have SYM := Lib.hid (sym_any w0 g d0 R N hs cap (by omega) 40)
  clear R hW hs
  by_cases c1 : N < 20
  · have n1 : ¬ (20 : Int) ≤ N := by omega
    have n2 : ¬ (20 : Int) < N := by omega
    have I := Lib.hid (INS.out ys W 0 N HN.out HW.out (Nat.zero_le _) (Nat.le_refl _))
    clear INS SYM c1 h40
    go_enter Tryd.func70, Tryd.ntmps70
    go_wp2_with fail
    go_loopw [7, 8] (fun v u wr => v = .int .i64 0 ∧ u = .int .i64 20 ∧ wr = W) (fun _ _ _ => 0)
    case atStart => exact ⟨rfl, rfl, rfl⟩
    case round =>
      obtain ⟨rfl, rfl, rfl⟩ := hrel
      go_wp2_with fail
      refine I.out.mono ?_; rintro e w1 ⟨rfl, us, hu, hz⟩
      have HU := Lib.hid hu; have HZ := Lib.hid hz
      clear hu hz
      go_wp2_with fail
      go_loopw [6] (fun v wr => v = .int .i64 20 ∧ wr = w1) (fun _ _ => 0)
      case atStart => exact ⟨rfl, rfl⟩
      case round =>
        obtain ⟨rfl, rfl⟩ := hrel
        go_wp2_with fail
        go_end0
        exact ⟨rfl, us, HU.out, HZ.out⟩
  · have N20 : Hid (20 ≤ N) := by show _ ≤ _; omega
    have N40 := Lib.hid h40
    have n40 : (N : Int) ≤ 40 := by omega
    clear c1 h40
    go_enter Tryd.func70, Tryd.ntmps70
    go_wp2_with fail
    go_loopw [7, 8] (fun v u wr => ∃ (A B : Nat) (zs : List NdS), v = .int .i64 A ∧ u = .int .i64 B ∧ B = A + 20 ∧ (A = 0 ∨ A = 20 ∨ A = 40) ∧ A ≤ N ∧ Stab.Win ys zs 0 N ∧ Stab.Stb keyS ys zs ∧ (20 ≤ A → Stab.SrtOn keyS zs 0 20) ∧ (40 ≤ A → Stab.SrtOn keyS zs 20 40) ∧ SW w0 g zs wr) (fun v _ _ => 60 - (intOf v).toNat)
    case atStart => exact ⟨0, 20, ys, rfl, rfl, rfl, .inl rfl, Nat.zero_le _, Stab.Win.refl _ _ _, Stab.Stb.refl _, fun h => by omega, fun h => by omega, HW.out⟩
    case round =>
      obtain ⟨A, B, zs, rfl, rfl, hAB, hA, hAN, hwin, hstb, hs1, hs2, hsw⟩ := hrel
      have WIN := Lib.hid hwin; have STB := Lib.hid hstb; have S1 := Lib.hid hs1; have S2 := Lib.hid hs2; have HZ := Lib.hid hsw
      have ZL : Hid (zs.length = N) := by show _ = _; rw [hwin.len, HN.out]
      have AW := Lib.hid hA; have ABE := Lib.hid hAB
      have Ai : (A : Int) ≤ 40 := by omega
      have Bi : (B : Int) ≤ 60 := by omega
      clear hwin hstb hs1 hs2 hsw hA
      by_cases hB : B ≤ N
      · have hBi : (B : Int) ≤ N := by omega
        have I := Lib.hid (INS.out zs _ A B ZL.out HZ.out (by omega) hB)
        clear hAB
        go_wp2_with fail
        refine I.out.mono ?_; rintro e w1 ⟨rfl, us, hu, hz⟩
        have HU := Lib.hid hu; have HZ1 := Lib.hid hz
        clear hu hz
        go_wp2_with fail
        go_round
        case rel => exact ⟨B, B + 20, us, rfl, by go_num, rfl, by have := AW.out; have := ABE.out; have := N40.out; omega, hB, WIN.out.trans (HU.out.win.wide (Nat.zero_le _) hB), STB.out.trans HU.out.stb, fun _ => by
          rcases AW.out with h | h | h
          · have := HU.out.srt; rw [ABE.out, h] at this; exact this
          · exact (S1.out (by omega)).out HU.out.win (.inl (by omega))
          · exact (S1.out (by omega)).out HU.out.win (.inl (by omega)), fun h40 => by
          rcases AW.out with h | h | h
          · have := ABE.out; omega
          · have := HU.out.srt; rw [ABE.out, h] at this; exact this
          · exact (S2.out (by omega)).out HU.out.win (.inl (by omega)), HZ1.out⟩
        case measure => have := ABE.out; have := AW.out; have := N40.out; simp [intOf]; omega
      · have hBi : ¬ (B : Int) ≤ N := by omega
        have A20 : Hid (20 ≤ A) := by show _ ≤ _; have := N20.out; have := AW.out; omega
        have I := Lib.hid (INS.out zs _ A N ZL.out HZ.out hAN (Nat.le_refl _))
        have AN := Lib.hid hAN
        have BN : Hid (¬ B ≤ N) := hB
        clear hAB hAN hB
        go_wp2_with fail
        refine I.out.mono ?_; rintro e w1 ⟨rfl, us, hu, hz⟩
        have HZ1 := Lib.hid hz
        have UW : Hid (Stab.Win ys us 0 N) := WIN.out.trans (hu.win.wide (Nat.zero_le _) (Nat.le_refl _))
        have UL : Hid (us.length = N) := by show _ = _; rw [UW.out.len, HN.out]
        have US : Hid (Stab.Stb keyS ys us) := STB.out.trans hu.stb
        have U1 : Hid (Stab.SrtOn keyS us 0 20) := (S1.out A20.out).out hu.win (.inl A20.out)
        have U2 : Hid (Stab.SrtOn keyS us 20 N) := by
          show Stab.SrtOn _ _ _ _
          rcases AW.out with h | h | h
          · have := A20.out; omega
          · have := hu.srt; rw [h] at this; exact this
          · have hN4 : N = 40 := by have := AN.out; have := N40.out; omega
            have := (S2.out (by omega)).out hu.win (.inl (by omega))
            rw [hN4]; exact this
        clear hu hz I WIN STB S1 S2 HZ ZL INS
        go_wp2_with fail
        go_loopw [6] (fun v wr => (v = .int .i64 20 ∧ wr = w1) ∨ (v = .int .i64 40 ∧ ∃ fs, Stab.Mrg keyS ys fs 0 N ∧ SW w0 g fs wr)) (fun v _ => 60 - (intOf v).toNat)
        case atStart => exact .inl ⟨rfl, rfl⟩
        case round =>
          rcases hrel with ⟨rfl, hwr⟩ | ⟨rfl, fs, hf, hz⟩
          · have HZr : Hid (SW w0 g us wr) := hwr ▸ HZ1.out
            clear hwr HZ1
            by_cases e20 : N = 20
            · subst e20
              go_wp2_with fail
              go_end0
              exact ⟨rfl, us, ⟨UW.out, US.out, U1.out⟩, HZr.out⟩
            · have g20 : (20 : Int) < N := by have := N20.out; omega
              have G20 : Hid (20 < N) := by show _ < _; omega
              have S := Lib.hid (SYM.out us _ 0 20 N UL.out HZr.out (by omega) G20.out (Nat.le_refl _) (by have := N40.out; omega) U1.out U2.out)
              have MF : Hid (∀ fs, Stab.Mrg keyS us fs 0 N → Stab.Mrg keyS ys fs 0 N) := fun fs h => ⟨UW.out.trans h.win, US.out.trans h.stb, h.srt⟩
              by_cases e40 : N = 40
              · have l40 : (40 : Int) ≤ N := by omega
                have S4 := Lib.hid (SYM.out us _ 0 20 40 UL.out HZr.out (by omega) (by omega) (by omega) (by omega) U1.out (by rw [← e40]; exact U2.out))
                have E40 := Lib.hid e40
                clear e20 e40 S
                go_wp2_with fail
                go_loopw [7, 8] (fun v u wq => (v = .int .i64 0 ∧ u = .int .i64 40 ∧ wq = wr) ∨ (v = .int .i64 40 ∧ u = .int .i64 80 ∧ ∃ fs, Stab.Mrg keyS us fs 0 40 ∧ SW w0 g fs wq)) (fun v _ _ => 60 - (intOf v).toNat)
                case atStart => exact .inl ⟨rfl, rfl, rfl⟩
                case round =>
                  have n80 : ¬ (80 : Int) ≤ N := by omega
                  have n60 : ¬ (60 : Int) < N := by omega
                  rcases hrel with ⟨rfl, rfl, rfl⟩ | ⟨rfl, rfl, fs, hf, hz⟩
                  · go_wp2_with fail
                    refine S4.out.mono ?_; rintro e w2 ⟨rfl, fs, hf, hz⟩
                    have HF := Lib.hid hf; have HZ2 := Lib.hid hz
                    clear hf hz
                    go_wp2_with fail
                    go_round
                    case rel => exact .inr ⟨rfl, rfl, fs, HF.out, HZ2.out⟩
                    case measure => decide
                  · have HF := Lib.hid hf; have HZ2 := Lib.hid hz
                    clear hf hz
                    go_wp2_with fail
                    go_round
                    case rel => exact .inr ⟨rfl, fs, MF.out fs (by rw [E40.out]; exact HF.out), HZ2.out⟩
                    case measure => decide
              · have l40 : ¬ (40 : Int) ≤ N := by omega
                clear e20 e40
                go_wp2_with fail
                go_loopw [7, 8] (fun v u wq => v = .int .i64 0 ∧ u = .int .i64 40 ∧ wq = wr) (fun _ _ _ => 0)
                case atStart => exact ⟨rfl, rfl, rfl⟩
                case round =>
                  obtain ⟨rfl, rfl, rfl⟩ := hrel
                  go_wp2_with fail
                  refine S.out.mono ?_; rintro e w2 ⟨rfl, fs, hf, hz⟩
                  have HF := Lib.hid hf; have HZ2 := Lib.hid hz
                  clear hf hz
                  go_wp2_with fail
                  go_round
                  case rel => exact .inr ⟨rfl, fs, MF.out fs HF.out, HZ2.out⟩
                  case measure => decide
          · have HF := Lib.hid hf; have HZ2 := Lib.hid hz
            have l40 : ¬ (40 : Int) < N := by omega
            clear hf hz
            go_wp2_with fail
            go_end0
            exact ⟨rfl, fs, HF.out, HZ2.out⟩

/-- the nodes of a row that has been sorted -/
theorem srt_of_mrg {ys zs : List NdS} (h : Stab.Mrg keyS ys zs 0 ys.length) : nds zs = srt (nds ys) := by
  refine srt_of ?_ fun q => ?_
  · show List.Pairwise _ _
    rw [List.pairwise_iff_getElem]
    intro i j hi hj hij
    have hl : zs.length = ys.length := h.win.len
    rw [nds_len] at hi hj
    have := h.srt i j (Nat.zero_le _) hij (by omega)
    rw [Stab.g_get (by omega), Stab.g_get (by omega)] at this
    have e : ∀ (k : Nat) (h : k < (nds zs).length), (nds zs)[k] = (zs[k]'(by rw [nds_len] at h; exact h)).n := fun k h => List.getElem_map ..
    rw [e i, e j]
    exact this
  · have := h.stb (numsOf q)
    unfold at_ nds
    rw [List.filter_map, List.filter_map]
    have e : ∀ l : List NdS, l.filter ((fun x : Nd => decide (x.p = q)) ∘ NdS.n) = l.filter (fun x => decide (keyS x = numsOf q)) := fun l => by
      congr 1
      funext x
      show decide (x.n.p = q) = decide (numsOf x.n.p = numsOf q)
      by_cases c : x.n.p = q
      · rw [decide_eq_true c, decide_eq_true (by rw [c])]
      · rw [decide_eq_false c, decide_eq_false (fun e => c (by rw [← strOfNums_numsOf x.n.p, e, strOfNums_numsOf]))]
    rw [e, e, this]
set_option maxHeartbeats 4000000 in
theorem sort_any (g n cap : Nat) (ys : List NdS) (w : World) (hy : NdsAt w g 0 ys) (hf : ∀ j, w.frozen? ⟨g, j, none⟩ = false) (hg : g < w.heap.size) (hn : ys.length = n) (h40 : n ≤ 40) :
    Calls Tryd.prog 51 #[.slice (some ⟨g, 0, none⟩) n cap, .func (.func 52) #[] #[]] w fun e w' => e = .returned (.tuple #[]) ∧ ∃ zs, nds zs = srt (nds ys) ∧ (∀ z ∈ zs, z ∈ ys) ∧ zs.length = n ∧ NdsAt w' g 0 zs ∧ (∀ j, w'.frozen? ⟨g, j, none⟩ = false) ∧ Only (fun k => k = g) w w' := by
  have R := row_of hy hf hg
  have S := stable_any w g ys.toArray R ys w (SWK.start R.hH) n hn (by simpa using hn.symm) cap h40
  have HS := Lib.hid S; have HR := Lib.hid R; have HN := Lib.hid hn; have HF := Lib.hid hf; have HG := Lib.hid hg
  clear S hy hf hg R
  go_enter Tryd.func51, Tryd.ntmps51
  go_wp2_with fail
  refine HS.out.mono ?_; rintro e w1 ⟨rfl, zs, hm, hz⟩
  have HM := Lib.hid hm; have HZ := Lib.hid hz
  clear hm hz
  go_wp2_with fail
  go_end0
  have hl : zs.length = ys.length := HM.out.win.len
  refine ⟨rfl, zs, srt_of_mrg (by rw [HN.out]; exact HM.out), fun z h => HM.out.stb.mem h, by rw [hl, HN.out], SW.nds HR.out HZ.out (by simpa using hl), fun j => ?_, HZ.out.only⟩
  obtain ⟨m, os, rfl⟩ := HZ.out
  unfold sortWorldK
  rw [frozen?_grow _ _ _ (by show g < (putRowK _ _ _ _ _ _).heap.size; rw [size_putRowK]; exact HG.out)]
  unfold putRowK
  rw [frozen?_putRow]
  exact HF.out j
end Go.Proofs.YtinmkgpmoclcoaaDoor.Tre
