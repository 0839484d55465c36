/-
  Layer 13: the reference's together.
-/
import Derived.Test.YtinmkgpmoclcoaaDoorPz06
import Derived.Test.YtinmkgpmoclcoaaDoorPz08
import Derived.Test.YtinmkgpmoclcoaaDoorPz07
import Derived.Test.YtinmkgpmoclcoaaDoorPz12
import Derived.Test.YtinmkgpmoclcoaaDoorPz02
import Derived.Test.YtinmkgpmoclcoaaDoorPz05
import Derived.Test.YtinmkgpmoclcoaaDoorPz03
import Derived.Test.YtinmkgpmoclcoaaDoorPz11
namespace Go.Proofs.YtinmkgpmoclcoaaDoor.Tre
open Go.RowKit Go.Proofs.YtinmkgpmoclcoaaDoor.Fit Pnm

theorem strs_eq {s t : ByteArray} (h : s = t) : (s.toList == t.toList) = true := by rw [h]; exact beq_self_eq_true _
theorem strs_no {s t : ByteArray} (h : ¬ s = t) : (s.toList == t.toList) = false := bytes_neq h

/-- the parent is found among the first j -/
def Fnd (l : List Nd) (PS : ByteArray) (j : Nat) : Prop := PS = emp ∨ ∃ i, i < j ∧ (nd l i).k = 0 ∧ (nd l i).p = PS
theorem fnd_step {l : List Nd} {PS : ByteArray} {j : Nat} : Fnd l PS (j + 1) ↔ Fnd l PS j ∨ ((nd l j).k = 0 ∧ (nd l j).p = PS) := by
  unfold Fnd
  constructor
  · rintro (h | ⟨i, h1, h2⟩)
    · exact .inl (.inl h)
    · by_cases e : i = j
      · subst e; exact .inr h2
      · exact .inl (.inr ⟨i, by omega, h2⟩)
  · rintro ((h | ⟨i, h1, h2⟩) | h)
    · exact .inl h
    · exact .inr ⟨i, by omega, h2⟩
    · exact .inr ⟨j, by omega, h⟩
theorem fnd_par {l : List Nd} {x : Nd} : Fnd l (strOfNums (parZ (key x))) l.length ↔ Par l x := by
  unfold Fnd Par
  rw [str_emp']
  constructor
  · rintro (h | ⟨i, hi, h1, h2⟩)
    · exact .inl h
    · exact .inr ⟨nd l i, nd_mem hi, h1, par_key.mpr h2⟩
  · rintro (h | ⟨y, hy, h1, h2⟩)
    · exact .inl h
    · obtain ⟨i, hi, rfl⟩ := nd_of hy
      exact .inr ⟨i, hi, h1, par_key.mp h2⟩

set_option maxRecDepth 100000 in
set_option maxHeartbeats 8000000 in
theorem rtog_any (a : Option Addr) (n cap i : Nat) (ys : List NdS) (w : World) (ha : ArgNds w a n cap ys) (hi : i < n) :
    Calls Tryd.prog 64 #[.slice a n cap, .int .i64 i] w fun e w' => e = .returned (.int .i64 (togE (nds ys) i)) ∧ Below w.heap.size w w' := by
  obtain ⟨b, off, y, rfl, hb, hy, hf, hat⟩ := ha.get i hi
  have hn : n ≤ maxLen := Nat.le_trans ha.c ha.m
  have HN : Hid (ys.length = n) := ha.n
  have HS := Lib.hid ha.s
  have HM : Hid (∀ k, k < n → ∃ z, ys[k]? = some z ∧ nd (nds ys) k = z.n ∧ NdF w z) := fun k hk => by
    obtain ⟨_, _, z, _, _, hz, hfz, _⟩ := ha.get k hk
    exact ⟨z, hz, nd_y hz, hfz⟩
  have AT : Hid (∀ k, k < n → ∀ z, ys[k]? = some z → ∀ q : World, Below w.heap.size w q → q.cell? ⟨b, off + k * 6, none⟩ = some (.int .i64 z.n.k) ∧ q.cell? ⟨b, off + k * 6 + 1, none⟩ = some (.string z.n.p) ∧ q.cell? ⟨b, off + k * 6 + 2, none⟩ = some (.int .i64 z.n.m) ∧ q.cell? ⟨b, off + k * 6 + 4, none⟩ = some (.slice z.a z.n.d.length z.cap) ∧ q.cell? ⟨b, off + k * 6 + 5, none⟩ = some (.int .i64 z.n.c)) := fun k hk z hz q hq => by
    obtain ⟨z0, z1, z2, _, z4, z5⟩ := (hat.below hq hb).c hz
    exact ⟨z0, z1, z2, z4, z5⟩
  have EY : Hid (nd (nds ys) i = y.n) := nd_y hy
  have FY := Lib.hid hf
  obtain ⟨y0, y1, y2, y4, y5⟩ := AT.out i hi y hy w (Below.refl _ _)
  obtain ⟨R, hR⟩ := named (togE (nds ys) i)
  obtain ⟨T1, T2, T3, T4⟩ := tog_by (l := nds ys) (i := i) hR.out
  have TG := Lib.hid (And.intro T1 (And.intro T2 (And.intro T3 T4)))
  have HPS : Hid (y.n.p.size ≤ 140737488355328) := hf.p
  have HFIND := Lib.hid (odd_has (ys := ys) (j := i) (by rw [HN.out]; exact hi))
  rw [← hR.out]
  unfold maxLen at hn
  clear ha hat hf hy hR T1 T2 T3 T4 hb
  obtain ⟨⟨k, p, m, t, d, c⟩, x, xc⟩ := y
  have i1 : (i : Int) < n := by omega
  have PSZ : Hid (p.size ≤ 140737488355328) := HPS.out
  go_enter Tryd.func64, Tryd.ntmps64
  go_wp2_with fail
  go_loopw [5] (fun v wr => ∃ j : Nat, v = .int .i64 j ∧ j ≤ i ∧ (∀ q, q < j → (nd (nds ys) q).p ≠ p) ∧ Below w.heap.size w wr) (fun v _ => i - (intOf v).toNat)
  case atStart => exact ⟨0, rfl, Nat.zero_le _, fun q hq => absurd hq (Nat.not_lt_zero q), Below.refl _ _⟩
  case round =>
    obtain ⟨j, rfl, hj, hp, hB⟩ := hrel
    have HP := Lib.hid hp; have HB := Lib.hid hB
    clear hp hB
    by_cases hji : j < i
    · obtain ⟨z, hz, ez, _⟩ := HM.out j (by omega)
      have HZ := Lib.hid hz; have EZ := Lib.hid ez
      clear hz ez
      have j1 : (j : Int) < i := by omega
      have j2 : (j : Int) < n := by omega
      have zq : ∀ q : Of (fun w' => Below w.heap.size w w'), q.w.cell? ⟨b, off + j * 6 + 1, none⟩ = some (.string z.n.p) := fun q => (AT.out j (by omega) z HZ.out q.w q.h).2.1
      have yq : ∀ q : Of (fun w' => Below w.heap.size w w'), q.w.cell? ⟨b, off + i * 6 + 1, none⟩ = some (.string p) := fun q => by
        obtain ⟨z', hz', ez', _⟩ := HM.out i hi
        have := (AT.out i hi z' hz' q.w q.h).2.1
        rw [← ez', EY.out] at this; exact this
      obtain ⟨pz, hpz⟩ := named z.n.p
      rw [← hpz.out] at zq
      have PZ : Hid ((nd (nds ys) j).p = pz) := by show _ = _; rw [EZ.out, hpz.out]
      clear hpz y0 y1 y2 y4 y5
      by_cases he : pz = p
      · have h1 := strs_eq he
        have HD : Hid (Dup (nds ys) i) := ⟨j, hji, by rw [PZ.out, he, EY.out]⟩
        have e := TG.out.1 HD.out
        subst e
        clear he TG
        go_wp2_with fail
        refine wp_region_class (S := fun w' => Below w.heap.size w w') (by kernel_rfl) (by kernel_rfl) HB.out.drew ?_
        intro hne'
        repeat (go_big_quiet_step (fail))
        refine wpQuiet_nil ?_
        rintro wq ⟨q, rfl⟩
        go_wp2
        go_ret
        exact ⟨rfl, q.h⟩
      · have h1 := strs_no he
        have HE := Lib.hid he
        clear he
        go_wp2_with fail
        refine wp_region_class (S := fun w' => Below w.heap.size w w') (by kernel_rfl) (by kernel_rfl) HB.out.drew ?_
        intro hne'
        repeat (go_big_quiet_step (fail))
        refine wpQuiet_nil ?_
        rintro wq ⟨q, rfl⟩
        go_wp2
        go_round
        case rel => exact ⟨j + 1, by go_num, by omega, fun q' hq' => by
          by_cases h : q' < j
          · exact HP.out q' h
          · obtain rfl : q' = j := by omega
            rw [PZ.out]; exact HE.out, q.h⟩
        case measure => simp [intOf]; omega
    · obtain rfl : j = i := by omega
      have ND : Hid (¬ Dup (nds ys) j) := by
        rintro ⟨q, q1, q2⟩
        exact HP.out q q1 (by rw [q2, EY.out])
      clear hji y0 y1 y2 y4 y5
      obtain ⟨z, hz, ez, fz⟩ := HM.out j hi
      have hzy : z.n = ⟨k, p, m, t, d, c⟩ := by rw [← ez, EY.out]
      have YY : Hid (∀ q : World, Below w.heap.size w q → q.cell? ⟨b, off + j * 6 + 1, none⟩ = some (.string p) ∧ q.cell? ⟨b, off + j * 6 + 2, none⟩ = some (.int .i64 m) ∧ q.cell? ⟨b, off + j * 6 + 4, none⟩ = some (.slice z.a d.length z.cap) ∧ q.cell? ⟨b, off + j * 6 + 5, none⟩ = some (.int .i64 c)) := fun q hq => by
        obtain ⟨_, z1, z2, z4, z5⟩ := AT.out j hi z hz q hq
        rw [hzy] at z1 z2 z4 z5
        exact ⟨z1, z2, z4, z5⟩
      have YD : Hid (BytesIn w z.a d) := by have := fz.d.bytes; rw [hzy] at this; exact this
      clear hz ez fz hzy
      have y1 := (YY.out wr HB.out).1
      go_wp2_with fail
      refine (rparent_any p wr (Nat.le_trans PSZ.out (by decide))).mono ?_; rintro e w2 ⟨rfl, rfl⟩
      obtain ⟨PS, hPS⟩ := named (strOfNums (parZ (numsOf p)))
      rw [← hPS.out]
      have PAR : Hid (Fnd (nds ys) PS n ↔ Par (nds ys) (nd (nds ys) j)) := by
        show _ ↔ _
        rw [← fnd_par, EY.out, hPS.out, nds_len, HN.out]; exact Iff.rfl
      clear hPS y1
      obtain ⟨E0, hE0⟩ : ∃ E0 : Bool, (PS.toList.isEmpty = E0) ∧ (E0 = true ↔ PS = emp) := by
        by_cases h : PS = emp
        · exact ⟨true, by rw [h]; rw [ByteArray.toList_eq]; rfl, fun _ => h, fun _ => rfl⟩
        · exact ⟨false, empty_no h, (fun e => absurd e (by decide)), fun e => absurd e h⟩
      have e0 := hE0.1
      have HE0 := Lib.hid hE0.2
      clear hE0
      go_wp2_with fail
      go_loopw [7, 8] (fun f v wq => ∃ (q : Nat) (B : Bool), f = .bool B ∧ v = .int .i64 q ∧ q ≤ n ∧ (B = true ↔ Fnd (nds ys) PS q) ∧ Below w.heap.size w wq) (fun _ v _ => n - (intOf v).toNat)
      case atStart =>
        refine ⟨0, E0, rfl, rfl, Nat.zero_le _, ?_, HB.out⟩
        rw [HE0.out]
        unfold Fnd
        constructor
        · exact fun h => .inl h
        · rintro (h | ⟨q, h, _⟩)
          · exact h
          · omega
      case round =>
        obtain ⟨q, B, rfl, rfl, hq, hfd, hB⟩ := hrel
        have HF := Lib.hid hfd; have HQ := Lib.hid hB
        clear hfd hB
        by_cases hqn : q < n
        · obtain ⟨z', hz, ez, _⟩ := HM.out q hqn
          obtain ⟨z0, z1, _, _, _⟩ := AT.out q hqn z' hz _ HQ.out
          have q1 : (q : Int) < n := by omega
          obtain ⟨kz, hkz⟩ := named z'.n.k
          obtain ⟨pz, hpz⟩ := named z'.n.p
          rw [← hkz.out] at z0
          rw [← hpz.out] at z1
          have KZ : Hid ((nd (nds ys) q).k = kz ∧ (nd (nds ys) q).p = pz) := by show _ ∧ _; rw [ez, hkz.out, hpz.out]; exact ⟨rfl, rfl⟩
          clear hkz hpz ez hz
          by_cases k0 : kz = 0
          · subst k0
            by_cases he : pz = PS
            · have h1 := strs_eq he
              have HE := Lib.hid he
              clear he
              go_wp2_with fail
              go_round
              case rel => exact ⟨q + 1, true, rfl, by go_num, by omega, ⟨fun _ => fnd_step.mpr (.inr ⟨KZ.out.1, by rw [KZ.out.2, HE.out]⟩), fun _ => rfl⟩, HQ.out⟩
              case measure => simp [intOf]; omega
            · have h1 := strs_no he
              have HE := Lib.hid he
              clear he
              go_wp2_with fail
              go_round
              case rel => exact ⟨q + 1, B, rfl, by go_num, by omega, by
                rw [fnd_step, HF.out]
                constructor
                · exact fun h => .inl h
                · rintro (h | ⟨_, h⟩)
                  · exact h
                  · exact absurd (by rw [← KZ.out.2, h]) HE.out, HQ.out⟩
              case measure => simp [intOf]; omega
          · have h1 : (kz == 0) = false := by simpa using k0
            have HE := Lib.hid k0
            clear k0
            go_wp2_with fail
            go_round
            case rel => exact ⟨q + 1, B, rfl, by go_num, by omega, by
              rw [fnd_step, HF.out]
              constructor
              · exact fun h => .inl h
              · rintro (h | ⟨h, _⟩)
                · exact h
                · exact absurd (by rw [← KZ.out.1, h]) HE.out, HQ.out⟩
            case measure => simp [intOf]; omega
        · obtain rfl : q = n := by omega
          have PB : Hid (B = true ↔ Par (nds ys) (nd (nds ys) j)) := by show _ ↔ _; rw [HF.out, PAR.out]
          clear HF PAR hqn
          cases B with
          | false =>
            have e := TG.out.2.1 ND.out (fun h => by have := PB.out.mpr h; cases this)
            subst e
            clear TG
            go_wp2_with fail
            go_ret
            exact ⟨rfl, HQ.out⟩
          | true =>
            have PY := Lib.hid (PB.out.mp rfl)
            obtain ⟨y1, y2, y4, y5⟩ := YY.out _ HQ.out
            by_cases c0 : c = 0
            · subst c0
              have e := TG.out.2.2.2 ND.out PY.out (fun ⟨h, _⟩ => h (by rw [EY.out]))
              subst e
              clear TG
              go_wp2_with fail
              go_ret
              exact ⟨rfl, HQ.out⟩
            · have n0 : (c == 0) = false := by simpa using c0
              have C0 := Lib.hid c0
              clear c0
              obtain ⟨J0, j1, j2, j3⟩ := HFIND.out
              rw [HN.out] at j2
              obtain ⟨J', j4, j5, j6, j7⟩ := fk_inv j2
              obtain rfl : J' = J0 := by injection j5 with _ h; omega
              have J7 : Hid (∀ k, k < J' → (nd (nds ys) k).c ≠ c) := fun k hk e => j7 k hk (by unfold ck; rw [e, EY.out])
              have J6 : Hid ((nd (nds ys) J').c = c) := by show _ = _; unfold ck at j6; rw [EY.out] at j6; injection j6
              have OD := Lib.hid (j3 (by rw [EY.out]; exact C0.out))
              have JN : Hid (J' ≤ j) := j1
              clear j1 j2 j3 j4 j5 j6 j7 HFIND y1 y2 y4
              go_wp2_with fail
              go_loopw [9] (fun v wu => ∃ u : Nat, v = .int .i64 u ∧ u ≤ J' ∧ Below w.heap.size w wu) (fun v _ => J' - (intOf v).toNat)
              case atStart => exact ⟨0, rfl, Nat.zero_le _, HQ.out⟩
              case round =>
                obtain ⟨u, rfl, hu, hB⟩ := hrel
                have HU := Lib.hid hB
                clear hB y5
                have ujn : u < q := by have := JN.out; omega
                have u1 : (u : Int) < q := by omega
                obtain ⟨z', hz, ez, fz'⟩ := HM.out u ujn
                have ZC := Lib.hid fun (q : World) (hq : Below w.heap.size w q) => AT.out u ujn z' hz q hq
                obtain ⟨cz, hcz⟩ := named z'.n.c
                have zq : ∀ q : Of (fun w' => Below w.heap.size w w'), q.w.cell? ⟨b, off + u * 6 + 5, none⟩ = some (.int .i64 cz) := fun q => by rw [hcz.out]; exact (ZC.out q.w q.h).2.2.2.2
                have yq : ∀ q : Of (fun w' => Below w.heap.size w w'), q.w.cell? ⟨b, off + j * 6 + 5, none⟩ = some (.int .i64 c) := fun q => (YY.out q.w q.h).2.2.2
                have CZ : Hid ((nd (nds ys) u).c = cz) := by show _ = _; rw [ez, hcz.out]
                have EZ := Lib.hid ez; have FZ := Lib.hid fz'.d.bytes
                clear hcz hz ez fz'
                by_cases hc : cz = c
                · subst hc
                  obtain rfl : u = J' := by
                    apply Decidable.byContradiction
                    intro hne
                    exact J7.out u (by omega) CZ.out
                  have hcc : (cz != cz) = false := by simp
                  clear CZ J7 J6
                  go_wp2_with fail
                  refine wp_region_class (S := fun w' => Below w.heap.size w w') (by kernel_rfl) (by kernel_rfl) HU.out.drew ?_
                  intro hne'
                  repeat (go_big_quiet_step (fail))
                  refine wpQuiet_nil ?_
                  rintro wq ⟨q, rfl⟩
                  have HQ2 := Lib.hid q.h
                  obtain ⟨wx, hx⟩ := q
                  dsimp only
                  clear zq yq hne'
                  have zm : ∀ q : Of (fun w' => Below w.heap.size w w'), q.w.cell? ⟨b, off + u * 6 + 2, none⟩ = some (.int .i64 z'.n.m) := fun q => (ZC.out q.w q.h).2.2.1
                  have zd : ∀ q : Of (fun w' => Below w.heap.size w w'), q.w.cell? ⟨b, off + u * 6 + 4, none⟩ = some (.slice z'.a z'.n.d.length z'.cap) := fun q => (ZC.out q.w q.h).2.2.2.1
                  have ym : ∀ q : Of (fun w' => Below w.heap.size w w'), q.w.cell? ⟨b, off + j * 6 + 2, none⟩ = some (.int .i64 m) := fun q => (YY.out q.w q.h).2.1
                  have yd : ∀ q : Of (fun w' => Below w.heap.size w w'), q.w.cell? ⟨b, off + j * 6 + 4, none⟩ = some (.slice z.a d.length z.cap) := fun q => (YY.out q.w q.h).2.2.1
                  have zs : ∀ q : Of (fun w' => Below w.heap.size w w'), (convert 28 9 (.slice z'.a z'.n.d.length z'.cap)).run Tryd.prog q.w = .ok (.string (strOfNums z'.n.d)) q.w := fun q => run_str_in Tryd.underlying28 Tryd.underlying5 Tryd.underlying9 (FZ.out.below q.h) _ _ rfl
                  have ysx : ∀ q : Of (fun w' => Below w.heap.size w w'), (convert 28 9 (.slice z.a d.length z.cap)).run Tryd.prog q.w = .ok (.string (strOfNums d)) q.w := fun q => run_str_in Tryd.underlying28 Tryd.underlying5 Tryd.underlying9 (YD.out.below q.h) _ _ rfl
                  have OD' : Hid (Odd (nds ys) (nd (nds ys) j) ↔ ¬ (m = z'.n.m ∧ d = z'.n.d)) := by show _ ↔ _; rw [OD.out, EY.out, EZ.out]
                  have ZB : Hid (Bytes z'.n.d) := FZ.out.bytes
                  have YB : Hid (Bytes d) := YD.out.bytes
                  obtain ⟨⟨zk, zp, zm', zt, zd', zc'⟩, za, zcap⟩ := z'
                  dsimp only at zm zd zs
                  have OD2 : Hid (Odd (nds ys) (nd (nds ys) j) ↔ ¬ (m = zm' ∧ d = zd')) := OD'.out
                  have ZB2 : Hid (Bytes zd') := ZB.out
                  obtain ⟨Lz, hLz⟩ := named zd'.length
                  obtain ⟨Ly, hLy⟩ := named d.length
                  obtain ⟨Sz, hSz⟩ := named (strOfNums zd')
                  obtain ⟨Sy, hSy⟩ := named (strOfNums d)
                  rw [← hLz.out] at zd zs
                  rw [← hLy.out] at yd ysx
                  rw [← hSz.out] at zs
                  rw [← hSy.out] at ysx
                  have SE : Hid (d = zd' ↔ Sz = Sy) := by
                    show _ ↔ _
                    rw [hSz.out, hSy.out]
                    constructor
                    · rintro rfl; rfl
                    · intro h
                      have h1 := numsOf_strOfNums ZB2.out
                      rw [h, numsOf_strOfNums YB.out] at h1
                      exact h1
                  clear hLz hLy hSz hSy OD OD' EZ ZC ZB ZB2 YB FZ
                  by_cases hm : zm' = m
                  · subst hm
                    by_cases hs : Sz = Sy
                    · have hs' := strs_eq hs
                      have e := TG.out.2.2.2 ND.out PY.out (fun h => OD2.out.mp h ⟨rfl, SE.out.mpr hs⟩)
                      subst e
                      clear TG hs OD2 SE
                      have hmm : (zm' != zm') = false := by simp
                      go_wp2_with fail
                      refine wp_region_class (S := fun w' => Below w.heap.size w w') (by kernel_rfl) (by kernel_rfl) HQ2.out.drew ?_
                      intro hne'
                      repeat (go_big_quiet_step (fail))
                      refine wpQuiet_nil ?_
                      rintro wq ⟨q, rfl⟩
                      go_wp2
                      go_ret
                      exact ⟨rfl, q.h⟩
                    · have hs' := strs_no hs
                      have e := TG.out.2.2.1 ND.out PY.out (OD2.out.mpr fun h => hs (SE.out.mp h.2))
                      subst e
                      clear TG hs OD2 SE
                      have hmm : (zm' != zm') = false := by simp
                      go_wp2_with fail
                      refine wp_region_class (S := fun w' => Below w.heap.size w w') (by kernel_rfl) (by kernel_rfl) HQ2.out.drew ?_
                      intro hne'
                      repeat (go_big_quiet_step (fail))
                      refine wpQuiet_nil ?_
                      rintro wq ⟨q, rfl⟩
                      go_wp2
                      go_ret
                      exact ⟨rfl, q.h⟩
                  · have e := TG.out.2.2.1 ND.out PY.out (OD2.out.mpr fun h => hm h.1.symm)
                    subst e
                    have hmm : (zm' != m) = true := by simpa using hm
                    clear TG hm OD2 SE
                    go_wp2_with fail
                    refine wp_region_class (S := fun w' => Below w.heap.size w w') (by kernel_rfl) (by kernel_rfl) HQ2.out.drew ?_
                    intro hne'
                    repeat (go_big_quiet_step (fail))
                    refine wpQuiet_nil ?_
                    rintro wq ⟨q, rfl⟩
                    go_wp2
                    go_ret
                    exact ⟨rfl, q.h⟩
                · have hcc : (cz != c) = true := by simpa using hc
                  have HC := Lib.hid hc
                  clear hc FZ EZ
                  go_wp2_with fail
                  refine wp_region_class (S := fun w' => Below w.heap.size w w') (by kernel_rfl) (by kernel_rfl) HU.out.drew ?_
                  intro hne'
                  repeat (go_big_quiet_step (fail))
                  refine wpQuiet_nil ?_
                  rintro wq ⟨q, rfl⟩
                  have ne : Hid (u ≠ J') := fun e => HC.out (by rw [← CZ.out, e, J6.out])
                  go_wp2
                  go_round
                  case rel => exact ⟨u + 1, by go_num, by have := ne.out; omega, q.h⟩
                  case measure => have := ne.out; simp [intOf]; omega
end Go.Proofs.YtinmkgpmoclcoaaDoor.Tre
/-
  Layer 15: the reference's builder as an object; its find.
-/
namespace Go.Proofs.YtinmkgpmoclcoaaDoor.Reb
open Go.RowKit Go.Proofs.YtinmkgpmoclcoaaDoor.Fit Pnm Tre Flt

/-- the reference's builder lies at block g -/
structure RBd (w : World) (g : Nat) (a : Option Addr) (n cap : Nat) (ys : List MbS) : Prop where
  o : ObjAt w g 39 [.slice a n cap]
  r : ArgMbs w a n cap ys
theorem RBd.below {w w' : World} {g n cap : Nat} {a : Option Addr} {ys : List MbS} (h : RBd w g a n cap ys) (hb : Below w.heap.size w w') : RBd w' g a n cap ys := ⟨h.o.below hb h.o.lt, h.r.below hb⟩
theorem wf1 {z : Int} (h0 : 0 ≤ z) (h1 : z ≤ 1000) : (Lit.int .i64 z).wf = true := by
  have e1 : IntKind.i64.min = -9223372036854775808 := by decide
  have e2 : IntKind.i64.max = 9223372036854775807 := by decide
  simp [Lit.wf]; omega
theorem wrapI {z : Int} (h1 : 0 ≤ z) (h2 : z ≤ 9223372036854775807) : IntKind.i64.wrap z = z := by
  have hb : IntKind.i64.bits = 64 := rfl
  have hs : IntKind.i64.signed = true := rfl
  unfold IntKind.wrap
  simp only [hb, hs, Bool.true_and]
  have e : (2 : Int) ^ 64 = 18446744073709551616 := by decide
  have e' : (2 : Int) ^ (64 - 1) = 9223372036854775808 := by decide
  rw [e, e', Int.emod_eq_of_lt h1 (by omega), if_neg (by simp; omega)]
/-- the place of the first member of a kind and a path, or -1 -/
def fz (A : List Mb) (k : Int) (p : ByteArray) : Int := match fnd A k p with | some r => (r : Int) | none => -1
theorem fz_none {A : List Mb} {k : Int} {p : ByteArray} (h : ∀ q, q < A.length → ¬ ((ma A q).e.k = k ∧ (ma A q).e.p = p)) : fz A k p = -1 := by unfold fz; rw [fnd_none.mpr h]
theorem fz_some {A : List Mb} {k : Int} {p : ByteArray} {r : Nat} (hr : r < A.length) (h1 : (ma A r).e.k = k) (h2 : (ma A r).e.p = p) (h : ∀ q, q < r → ¬ ((ma A q).e.k = k ∧ (ma A q).e.p = p)) : fz A k p = r := by unfold fz; rw [fnd_some.mpr ⟨hr, h1, h2, h⟩]

set_option maxRecDepth 100000 in
set_option maxHeartbeats 8000000 in
theorem rfind_any (g : Nat) (a : Option Addr) (n cap : Nat) (ys : List MbS) (k : Int) (p : ByteArray) (w : World) (hb : RBd w g a n cap ys) :
    Calls Tryd.prog 36 #[.pointer (some ⟨g, 0, none⟩), .int .i64 k, .string p] w fun e w' => e = .returned (.int .i64 (fz (mms ys) k p)) ∧ w = w' := by
  obtain ⟨R, hR⟩ := named (fz (mms ys) k p)
  rw [← hR.out]
  have HA := Lib.hid hb.r
  have c0 := hb.o.get 0 rfl
  have nc : (n : Int) ≤ cap := by have := hb.r.c; omega
  have nm : (n : Int) ≤ 9223372036854775807 := by have := hb.r.c; have := hb.r.m; unfold maxLen at this; omega
  have HN : Hid ((mms ys).length = n) := by show _ = _; rw [mms_len]; exact hb.r.n
  clear hb
  go_enter Tryd.func36, Tryd.ntmps36
  go_wp2_with fail
  go_loopw [7] (fun i wr => ∃ j : Nat, i = .int .i64 j ∧ j ≤ n ∧ (∀ q, q < j → ¬ ((ma (mms ys) q).e.k = k ∧ (ma (mms ys) q).e.p = p)) ∧ w = wr) (fun i _ => n - (intOf i).toNat)
  case atStart => exact ⟨0, rfl, Nat.zero_le _, fun q hq => absurd hq (Nat.not_lt_zero q), rfl⟩
  case round =>
    obtain ⟨j, rfl, hj, hno, rfl⟩ := hrel
    have HNO := Lib.hid hno
    clear hno
    by_cases hjn : j < n
    · obtain ⟨b, off, y, rfl, hbl, hy, hf, hat⟩ := HA.out.get j hjn
      have JN := Lib.hid hjn
      have EJ : Hid (ma (mms ys) j = y.n) := ma_some (mms_at hy)
      obtain ⟨d0, d1, _, _, _, _⟩ := hat.c hy
      clear hbl hy hf hat hj
      obtain ⟨⟨⟨k', p', m', t', s'⟩, d⟩, x, xc⟩ := y
      have j1 : (j : Int) < n := by omega
      clear hjn
      by_cases hk : k' = k
      · have nk : (k' == k) = true := by simpa using hk
        by_cases hp : p' = p
        · have np : (p'.toList == p.toList) = true := strs_eq hp
          obtain rfl : R = (j : Int) := by
            rw [hR.out]
            exact fz_some (by rw [HN.out]; exact JN.out) (by rw [EJ.out]; exact hk) (by rw [EJ.out]; exact hp) HNO.out
          clear hk hp hR
          go_wp2
          go_ret
          exact ⟨rfl, rfl⟩
        · have np : (p'.toList == p.toList) = false := toList_ne hp
          have NO : Hid (¬ ((ma (mms ys) j).e.k = k ∧ (ma (mms ys) j).e.p = p)) := by show ¬ _; rw [EJ.out]; exact fun h => hp h.2
          clear hk hp
          go_wp2
          go_round
          case rel => exact ⟨j + 1, by go_num, by have := JN.out; omega, fun q hq => by
            by_cases e : q = j
            · rw [e]; exact NO.out
            · exact HNO.out q (by omega), trivial⟩
          case measure => simp [intOf]; have := JN.out; omega
      · have nk : (k' == k) = false := by simpa using hk
        have NO : Hid (¬ ((ma (mms ys) j).e.k = k ∧ (ma (mms ys) j).e.p = p)) := by show ¬ _; rw [EJ.out]; exact fun h => hk h.1
        clear hk
        go_wp2
        go_round
        case rel => exact ⟨j + 1, by go_num, by have := JN.out; omega, fun q hq => by
          by_cases e : q = j
          · rw [e]; exact NO.out
          · exact HNO.out q (by omega), trivial⟩
        case measure => simp [intOf]; have := JN.out; omega
    · obtain rfl : j = n := by omega
      obtain rfl : R = -1 := by rw [hR.out]; exact fz_none (by rw [HN.out]; exact HNO.out)
      clear hR
      go_wp2
      go_ret
      exact ⟨rfl, rfl⟩
end Go.Proofs.YtinmkgpmoclcoaaDoor.Reb
/-
  Slices of nodes: written out, grown, owned. Nothing of the program.
-/
namespace Go.Proofs.YtinmkgpmoclcoaaDoor.Tre
open Go.RowKit

theorem NdsAt.of_cells {w : World} {g : Nat} {e : TypeId} {ys : List NdS} (h : ObjAt w g e (ndCells ys)) : NdsAt w g 0 ys := fun i y hi j v hv => by
  rw [Nat.zero_add, h.cell]
  exact ndCells_at ys i y hi j v hv
theorem NdsAt.news {w : World} {b off : Nat} {ys : List NdS} (h : NdsAt w b off ys) : ∀ j u, (ndCells ys)[j]? = some u → w.cell? ((⟨b, off, none⟩ : Addr).add j) = some u := fun j u hu => by
  rw [add_plain']
  have hj : j < (ndCells ys).length := (List.getElem?_eq_some_iff.mp hu).1
  rw [ndCells_len] at hj
  have hi : j / 6 < ys.length := by omega
  have hy : ys[j / 6]? = some ys[j / 6] := List.getElem?_eq_getElem hi
  have hr : j % 6 < (ndV ys[j / 6]).length := by simp; omega
  have hv : (ndV ys[j / 6])[j % 6]? = some (ndV ys[j / 6])[j % 6] := List.getElem?_eq_getElem hr
  have h1 := ndCells_at ys (j / 6) _ hy (j % 6) _ hv
  rw [show j / 6 * 6 + j % 6 = j by omega, hu] at h1
  have h2 := h (j / 6) _ hy (j % 6) _ hv
  rw [show off + j / 6 * 6 + j % 6 = off + j by omega] at h2
  rw [h2, h1]
theorem ndCells_one (ys : List NdS) : ∀ u ∈ ndCells ys, u.oneCell' = true := by
  intro u hu
  unfold ndCells at hu
  obtain ⟨y, _, h⟩ := List.mem_flatMap.mp hu
  revert h
  simp
  rintro (rfl | rfl | rfl | rfl | rfl | rfl) <;> rfl
/-- a slice of the call's own -/
theorem NdsIn.of_own {w : World} {base n : Nat} {e : TypeId} {v : Value} {ys : List NdS} (h : w.ownsRow base e 6 v n (ndCells ys)) :
    ∃ a c, v = .slice a n c ∧ n = ys.length ∧ n ≤ c ∧ c ≤ maxLen ∧ NdsIn w a ys ∧ (∀ x, a = some x → base ≤ x.block ∧ x.block < w.heap.size) := by
  have hl := h.1
  rw [ndCells_len] at hl
  have hn : n = ys.length := by omega
  rcases h.2 with ⟨hv, h0⟩ | ⟨g, cap, cur, hv, hb, hh, hc, hm, hs, ht⟩
  · subst h0
    exact ⟨none, 0, hv, hn, Nat.le_refl _, Nat.zero_le _, .inl (List.length_eq_zero_iff.1 hn.symm), fun x hx => by cases hx⟩
  · have hlt : g < w.heap.size := (Array.getElem?_eq_some_iff.1 hh).1
    refine ⟨some ⟨g, 0, none⟩, cap, hv, hn, hc, hm, .inr ⟨g, 0, rfl, hlt, fun i y hi j u hu => ?_⟩, fun x hx => by cases hx; exact ⟨hb, hlt⟩⟩
    have hat := ndCells_at ys i y hi j u hu
    have hir : i < ys.length := (List.getElem?_eq_some_iff.1 hi).1
    have hj6 : j < 6 := by have := (List.getElem?_eq_some_iff.mp hu).1; simpa using this
    have hlt2 : i * 6 + j < n * 6 := by omega
    rw [← ht, List.getElem?_take, if_pos hlt2] at hat
    rw [Nat.zero_add, World.cell?, hh]
    simpa using hat
/-- nodes with what a walk is told of each, in a slice of the call's own -/
theorem ArgNds.of_own {w : World} {base n : Nat} {e : TypeId} {v : Value} {ys : List NdS} (h : w.ownsRow base e 6 v n (ndCells ys)) (hf : ∀ y ∈ ys, NdF w y) :
    ∃ a c, v = .slice a n c ∧ ArgNds w a n c ys := by
  obtain ⟨a, c, rfl, hn, hc, hm, hi, _⟩ := NdsIn.of_own h
  exact ⟨a, c, rfl, hn.symm, hc, hm, hi, hf⟩

section
variable {P : Program} {w : World} {ops : Array Oper} {rest : List Oper} {o : Oper} {a : Act} {Q : Exit → Act → World → Prop}

theorem run_lit_nd0 (t e : TypeId) (ht : P.underlying t = some (.slice e)) (z : Value) (hI : (P.info? e).map (fun i => (i.zero, i.size)) = some (some z, 6)) :
    (Instr.buildSlice t 0 #[]).run P w = .ok (.slice (some ⟨w.heap.size, 0, none⟩) 0 0) (w.alloc (.cells #[] e)) := by
  cases hq : P.info? e with
  | none => simp [hq] at hI
  | some i =>
    simp [hq] at hI
    simp [Instr.buildSlice, run_underlying ht, sizeOf, typeInfo, hq, Instr.fill, newRow]
    rw [show Array.range 0 = #[] by decide]; simp
theorem own_lit_nd0 (w : World) (e : TypeId) : (w.alloc (.cells #[] e)).ownsRow w.heap.size e 6 (.slice (some ⟨w.heap.size, 0, none⟩) 0 0) 0 (ndCells []) :=
  ⟨rfl, .inr ⟨w.heap.size, 0, #[], rfl, Nat.le_refl _, heap_alloc_new w _, Nat.le_refl _, Nat.zero_le _, rfl, rfl⟩⟩
theorem run_lit_nd1 (t e : TypeId) (ht : P.underlying t = some (.slice e)) (z : Value) (hI : (P.info? e).map (fun i => (i.zero, i.size)) = some (some z, 6)) (y : NdS) :
    (Instr.buildSlice t 1 #[(0, .agg (ndV y).toArray)]).run P w = .ok (.slice (some ⟨w.heap.size, 0, none⟩) 1 1) (w.alloc (.cells (ndCells [y]).toArray e)) := by
  cases hq : P.info? e with
  | none => simp [hq] at hI
  | some i =>
    simp [hq] at hI
    simp [Instr.buildSlice, run_underlying ht, sizeOf, typeInfo, zeroValue, hq, hI.1, hI.2, Instr.fill, newRow, Value.cells]
    rw [show Array.range 6 = #[0, 1, 2, 3, 4, 5] by decide]; simp [ndCells]
theorem run_lit_nd2 (t e : TypeId) (ht : P.underlying t = some (.slice e)) (z : Value) (hI : (P.info? e).map (fun i => (i.zero, i.size)) = some (some z, 6)) (y y' : NdS) :
    (Instr.buildSlice t 2 #[(0, .agg (ndV y).toArray), (1, .agg (ndV y').toArray)]).run P w = .ok (.slice (some ⟨w.heap.size, 0, none⟩) 2 2) (w.alloc (.cells (ndCells [y, y']).toArray e)) := by
  cases hq : P.info? e with
  | none => simp [hq] at hI
  | some i =>
    simp [hq] at hI
    simp [Instr.buildSlice, run_underlying ht, sizeOf, typeInfo, zeroValue, hq, hI.1, hI.2, Instr.fill, newRow, Value.cells]
    rw [show Array.range 12 = #[0, 1, 2, 3, 4, 5, 6, 7, 8, 9, 10, 11] by decide]; simp [ndCells]
theorem wpList_lit_nd1 (hgd : o.guard = none) (t e : TypeId) (x : Operand) (ho : o.op = .buildSlice t 1 #[(0, x)]) (ht : P.underlying t = some (.slice e)) (z : Value) (hI : (P.info? e).map (fun i => (i.zero, i.size)) = some (some z, 6))
    (y : NdS) (hx : a.eval x = .agg (ndV y).toArray)
    (K : ∀ w', ObjAt w' w.heap.size e (ndCells [y]) → Below w.heap.size w w' → wpList P ops Q rest (a.put o.dst (.slice (some ⟨w.heap.size, 0, none⟩) 1 1)) w') : wpList P ops Q (o :: rest) a w := by
  refine wpList_plain hgd fun K' hK => ?_
  have hrun := run_lit_nd1 (P := P) (w := w) t e ht z hI y
  unfold Oper.wp
  simp only [execOp, ho, List.map_toArray, List.map_cons, List.map_nil, hx, hrun, Sem.run_bind, Sem.run_pure, Result.andThen_ok]
  exact hK _ _ (K _ (heap_alloc_new w _) ((Below.refl _ _).alloc (Nat.le_refl _) _))
/-- an operation whose guard lets it run -/
theorem wpList_wanted (hw : Region.wanted o (yielded ops a.tmps) = true) (h : ∀ K : Act → World → Prop, (∀ a w, wpList P ops Q rest a w → K a w) → o.wp P a w K Q) : wpList P ops Q (o :: rest) a w :=
  wpList_step fun K hK => by rw [if_pos hw]; exact h K hK
theorem wpList_lit_nd1_w (hw : Region.wanted o (yielded ops a.tmps) = true) (t e : TypeId) (x : Operand) (ho : o.op = .buildSlice t 1 #[(0, x)]) (ht : P.underlying t = some (.slice e)) (z : Value) (hI : (P.info? e).map (fun i => (i.zero, i.size)) = some (some z, 6))
    (y : NdS) (hx : a.eval x = .agg (ndV y).toArray)
    (K : ∀ w', ObjAt w' w.heap.size e (ndCells [y]) → Below w.heap.size w w' → wpList P ops Q rest (a.put o.dst (.slice (some ⟨w.heap.size, 0, none⟩) 1 1)) w') : wpList P ops Q (o :: rest) a w := by
  refine wpList_wanted hw fun K' hK => ?_
  have hrun := run_lit_nd1 (P := P) (w := w) t e ht z hI y
  unfold Oper.wp
  simp only [execOp, ho, List.map_toArray, List.map_cons, List.map_nil, hx, hrun, Sem.run_bind, Sem.run_pure, Result.andThen_ok]
  exact hK _ _ (K _ (heap_alloc_new w _) ((Below.refl _ _).alloc (Nat.le_refl _) _))
theorem wpList_lit_nd2 (hgd : o.guard = none) (t e : TypeId) (x x' : Operand) (ho : o.op = .buildSlice t 2 #[(0, x), (1, x')]) (ht : P.underlying t = some (.slice e)) (z : Value) (hI : (P.info? e).map (fun i => (i.zero, i.size)) = some (some z, 6))
    (y y' : NdS) (hx : a.eval x = .agg (ndV y).toArray) (hx' : a.eval x' = .agg (ndV y').toArray)
    (K : ∀ w', ObjAt w' w.heap.size e (ndCells [y, y']) → Below w.heap.size w w' → wpList P ops Q rest (a.put o.dst (.slice (some ⟨w.heap.size, 0, none⟩) 2 2)) w') : wpList P ops Q (o :: rest) a w := by
  refine wpList_plain hgd fun K' hK => ?_
  have hrun := run_lit_nd2 (P := P) (w := w) t e ht z hI y y'
  unfold Oper.wp
  simp only [execOp, ho, List.map_toArray, List.map_cons, List.map_nil, hx, hx', hrun, Sem.run_bind, Sem.run_pure, Result.andThen_ok]
  exact hK _ _ (K _ (heap_alloc_new w _) ((Below.refl _ _).alloc (Nat.le_refl _) _))
theorem wpList_lit_nd0 (hgd : o.guard = none) (t e : TypeId) (ho : o.op = .buildSlice t 0 #[]) (ht : P.underlying t = some (.slice e)) (z : Value) (hI : (P.info? e).map (fun i => (i.zero, i.size)) = some (some z, 6))
    (K : ∀ w', w'.ownsRow w.heap.size e 6 (.slice (some ⟨w.heap.size, 0, none⟩) 0 0) 0 (ndCells []) → Below w.heap.size w w' → wpList P ops Q rest (a.put o.dst (.slice (some ⟨w.heap.size, 0, none⟩) 0 0)) w') : wpList P ops Q (o :: rest) a w := by
  refine wpList_plain hgd fun K' hK => ?_
  have hrun := run_lit_nd0 (P := P) (w := w) t e ht z hI
  unfold Oper.wp
  simp [execOp, ho, hrun, Result.andThen]
  exact hK _ _ (K _ (own_lit_nd0 w e) ((Below.refl _ _).alloc (Nat.le_refl _) _))
/-- append of nodes to nodes of the call's own -/
theorem run_append_nds (t ty e : TypeId) (base : Nat) (i0 : TypeInfo) (z : Value) (hT : P.underlying t = some (.slice e)) (hI : Hid (P.info? e = some i0 ∧ i0.zero = some z ∧ i0.size = 6 ∧ i0.bytes = 80)) (hz : z.cells.size = 6)
    (v : Value) (n : Nat) (ys : List NdS) (hown : w.ownsRow base e 6 v n (ndCells ys))
    (b : Option Addr) (m c : Nat) (xs : List NdS) (hy : NdsIn w b xs) (hl : xs.length = m) (h47 : n + m ≤ 1759218604441) (hbase : base ≤ w.heap.size) :
    ∃ v' w', (Builtin.append_ #[t, t] ty #[v, .slice b m c]).run P w = .ok v' w' ∧ w'.ownsRow base e 6 v' (n + m) (ndCells (ys ++ xs)) ∧ Below base w w' ∧ (∀ k, k < w.heap.size → some k ≠ v.ownBlock → w'.heap[k]? = w.heap[k]?) ∧ (v'.ownBlock = v.ownBlock ∨ v'.ownBlock = some w.heap.size) := by
  rcases hy with hy | ⟨b', off, rfl, _, hy⟩
  · subst hy
    obtain rfl : m = 0 := hl.symm
    exact ⟨v, w, run_append_empty (P := P) w base t ty e i0 6 hT hI.out.1 v n _ hown b c, by simpa using hown, Below.refl _ _, fun _ _ _ => rfl, .inl rfl⟩
  · obtain ⟨v', w', hr, k1, k2, _, k3⟩ := run_append_own_at (P := P) w base t ty e i0 z 6 80 hT hI.out.1 hI.out.2.1 hI.out.2.2.1 hI.out.2.2.2 hz (by decide) v n _ hown ⟨b', off, none⟩ m c (ndCells xs) (by rw [ndCells_len, hl]) hy.news (ndCells_one xs) (by unfold maxLen; omega) (by omega) hbase
    exact ⟨v', w', hr, by rw [ndCells_append]; exact k1, (Below.refl _ _).grown k2 hbase (fun k hk => (own_under hown k hk).1), fun k hk hr => k2.block k hk hr, k3⟩
theorem wpList_append_nds (hgd : o.guard = none) (s x : Operand) (t : TypeId) (ho : o.op = .call { callee := .builtin .append, args := #[s, x], argTypes := #[t, t] })
    (e : TypeId) (base : Nat) (i0 : TypeInfo) (z : Value) (hT : P.underlying t = some (.slice e)) (hI : Hid (P.info? e = some i0 ∧ i0.zero = some z ∧ i0.size = 6 ∧ i0.bytes = 80)) (hz : z.cells.size = 6)
    (v : Value) (n : Nat) (ys : List NdS) (hs : a.eval s = v) (hown : w.ownsRow base e 6 v n (ndCells ys))
    (b : Option Addr) (m c : Nat) (xs : List NdS) (hx : a.eval x = .slice b m c) (hy : NdsIn w b xs) (hl : xs.length = m) (h47 : n + m ≤ 1759218604441) (hbase : base ≤ w.heap.size)
    (K : ∀ v' w', w'.ownsRow base e 6 v' (n + m) (ndCells (ys ++ xs)) → Below base w w' → (∀ k, k < w.heap.size → some k ≠ v.ownBlock → w'.heap[k]? = w.heap[k]?) → (v'.ownBlock = v.ownBlock ∨ v'.ownBlock = some w.heap.size) → wpList P ops Q rest (a.put o.dst v') w') : wpList P ops Q (o :: rest) a w := by
  obtain ⟨v', w', hr, k1, k2, k3, k4⟩ := run_append_nds (P := P) (w := w) t o.type e base i0 z hT hI hz v n ys hown b m c xs hy hl h47 hbase
  refine wpList_plain hgd fun K' hK => ?_
  unfold Oper.wp
  simp [execOp, ho, resolve, invoke, builtin, hs, hx, hr, Result.andThen]
  exact hK _ _ (K _ _ k1 k2 k3 k4)
end
end Go.Proofs.YtinmkgpmoclcoaaDoor.Tre
/-
  Layer 13: the statements' own example, alive.
-/
namespace Go.Proofs.YtinmkgpmoclcoaaDoor.Tre
open Go.RowKit Go.Proofs.YtinmkgpmoclcoaaDoor.Fit Pnm

abbrev exA : ByteArray := { data := #[97, 47, 98] }
abbrev exB : ByteArray := { data := #[97] }
abbrev exY : NdS := ⟨⟨1, exA, 0, emp, [], 0⟩, none, 0⟩
abbrev exZ : NdS := ⟨⟨0, exB, 0, emp, [], 0⟩, none, 0⟩
theorem ex_one : oneE exY.n = 0 ∧ oneE exZ.n = 0 := by decide
theorem ex_par : parZ (key exY.n) = [97] ∧ parZ (key exZ.n) = [] ∧ key exZ.n = [97] := by decide
theorem ex_val : Val (nds [exY, exZ]) := by
  refine ⟨fun x hx => ?_, ?_, fun x hx => ?_, fun x hx y hy h => ?_⟩
  · simp [nds] at hx
    rcases hx with rfl | rfl
    · exact ex_one.1
    · exact ex_one.2
  · show List.Pairwise _ [exY.n, exZ.n]
    simp
  · simp [nds] at hx
    rcases hx with rfl | rfl
    · exact .inr ⟨exZ.n, by simp [nds], rfl, by rw [ex_par.2.2, ex_par.1]⟩
    · exact .inl ex_par.2.1
  · simp [nds] at hx
    rcases hx with rfl | rfl <;> exact absurd rfl h
theorem ex_chk : chk (nds [exY, exZ]) = (2, 0) := chk_val ex_val
theorem ex_bad : chk (nds [exY]) = (0, 13) := by
  have ho : ∀ j, j < (nds [exY]).length → oneE (nd (nds [exY]) j) = 0 := fun j hj => by
    have : j = 0 := by simp [nds] at hj; exact hj
    subst this
    exact ex_one.1
  have ht : togE (nds [exY]) 0 = 13 := by
    obtain ⟨_, h, _⟩ := tog_by (l := nds [exY]) (i := 0) rfl
    refine h (fun ⟨j, hj, _⟩ => absurd hj (Nat.not_lt_zero j)) fun hp => ?_
    rcases hp with hp | ⟨y, hy, h1, _⟩
    · rw [show nd (nds [exY]) 0 = exY.n from rfl, ex_par.1] at hp; cases hp
    · simp [nds] at hy
      subst hy
      exact absurd h1 (by decide)
  have := chk_tog ho (show 0 < (nds [exY]).length by decide) (fun j hj => absurd hj (Nat.not_lt_zero j)) (by rw [ht]; decide)
  rw [this, ht]; rfl
theorem ex_fine (w : World) : NdF w exY ∧ NdF w exZ :=
  ⟨⟨by decide, by decide, by decide, by decide, ArgInts.nil, by decide, by decide⟩, ⟨by decide, by decide, by decide, by decide, ArgInts.nil, by decide, by decide⟩⟩
theorem IN6 : (Tryd.prog.info? 55).map (fun i => (i.zero, i.size)) = some (some (.agg (ndL 0 emp 0 emp none 0 0 0).toArray), 6) := by kernel_rfl

end Go.Proofs.YtinmkgpmoclcoaaDoor.Tre
/-
  Layer 13: the reference's one.
-/
namespace Go.Proofs.YtinmkgpmoclcoaaDoor.Tre
open Go.RowKit Go.Proofs.YtinmkgpmoclcoaaDoor.Fit

set_option maxRecDepth 100000 in
set_option maxHeartbeats 4000000 in
theorem rone_any (k : Int) (p : ByteArray) (m : Int) (t : ByteArray) (a : Option Addr) (d : List Int) (cap : Nat) (c : Int) (w : World) (hp : p.size ≤ maxLen) (ht : t.size ≤ maxLen) :
    Calls Tryd.prog 63 #[.agg (ndL k p m t a d.length cap c).toArray] w fun e w' => e = .returned (.int .i64 (oneE ⟨k, p, m, t, d, c⟩)) ∧ Below w.heap.size w w' := by
  obtain ⟨R, hR⟩ := named (oneE ⟨k, p, m, t, d, c⟩)
  obtain ⟨E, hE⟩ := named (ckE ⟨k, p, m, t, if k = 1 then (d.length : Int) else 0⟩)
  have HR : Hid (0 ≤ k → k ≤ 2 → R = if E ≠ 0 then E else if k ≠ 1 ∧ 0 < d.length then 2 else if c < 0 ∨ (k ≠ 1 ∧ c ≠ 0) then 15 else 0) := fun h1 h2 => one_of hR.out h1 h2 hE.out
  have HB : Hid (¬ (0 ≤ k ∧ k ≤ 2) → R = 8) := fun h => by rw [hR.out]; unfold oneE; dsimp only; rw [if_pos (by omega)]
  obtain ⟨N, hN⟩ := named d.length
  obtain ⟨S, hS⟩ := named (if k = 1 then (N : Int) else 0)
  have HC : Hid (∀ w', Calls Tryd.prog 33 #[.agg (enV k p m t S).toArray] w' fun e w'' => e = .returned (.int .i64 E) ∧ Below w'.heap.size w' w'') := fun w' => by
    rw [hE.out, ← hN.out, ← hS.out]; exact rcheck_any k p m t S w' hp ht
  have HE : Hid (∀ w', Calls Tryd.prog 42 #[.agg (ndL k p m t a N cap c).toArray] w' fun e w'' => e = .returned (.agg (enV k p m t S).toArray) ∧ Below w'.heap.size w' w'') := fun w' => by
    rw [hS.out]; exact rentry_any k p m t a N cap c w'
  rw [← hR.out]
  rw [← hN.out] at HR ⊢
  clear hR hE hN hS hp ht
  by_cases hk : 0 ≤ k ∧ k ≤ 2
  · have HR' := Lib.hid (HR.out hk.1 hk.2)
    have k0 : ¬ k < 0 := by omega
    have k2 : ¬ (2 : Int) < k := by omega
    clear HR HB
    go_enter Tryd.func63, Tryd.ntmps63
    go_wp2_with (first | (refine wpList_box_obj rfl 55 _ rfl (ndL k p m t a N cap c) rfl ?_; intro w1 g1 b1; have G1 := Lib.hid g1; have B1 := Lib.hid b1; have c0 := g1.get 0 rfl; have c1 := g1.get 1 rfl; have c2 := g1.get 2 rfl; have c3 := g1.get 3 rfl; have c4 := g1.get 4 rfl; have c5 := g1.get 5 rfl; clear g1 b1))
    refine (HE.out w1).mono ?_; rintro e w2 ⟨rfl, b2⟩
    have G2 := Lib.hid (G1.out.below b2 G1.out.lt); have B2 := Lib.hid (belT B1.out b2)
    clear b2 c0 c1 c2 c3 c4 c5 HE k0 k2
    go_wp2_with fail
    refine (HC.out w2).mono ?_; rintro e w3 ⟨rfl, b3⟩
    have G3 := Lib.hid (G2.out.below b3 G2.out.lt); have B3 := Lib.hid (belT B2.out b3)
    have c0 := G3.out.get 0 rfl
    have c4 := G3.out.get 4 rfl
    have c5 := G3.out.get 5 rfl
    clear b3 HC
    by_cases z : E = 0
    · subst z
      by_cases k1 : k = 1
      · subst k1
        have HQ : Hid (R = if c < 0 then 15 else 0) := by
          show _ = _
          rw [HR'.out, if_neg (by simp), if_neg (c := (1 : Int) ≠ 1 ∧ _) (by omega)]
          by_cases z : c < 0
          · rw [if_pos (c := c < 0 ∨ _) (.inl z), if_pos z]
          · rw [if_neg (c := c < 0 ∨ _) (by omega), if_neg z]
        clear HR' hk
        by_cases zc : c < 0
        · have e := HQ.out; rw [if_pos zc] at e; subst e
          clear HQ
          go_wp2_with fail
          go_ret
          exact ⟨rfl, B3.out⟩
        · have e := HQ.out; rw [if_neg zc] at e; subst e
          clear HQ
          go_wp2_with fail
          go_ret
          exact ⟨rfl, B3.out⟩
      · have n2 : (k != 1) = true := by simpa using k1
        have HQ : Hid (R = if 0 < N then 2 else if c = 0 then 0 else 15) := by
          show _ = _
          rw [HR'.out, if_neg (by simp)]
          by_cases z : 0 < N
          · rw [if_pos (c := k ≠ 1 ∧ _) ⟨k1, z⟩, if_pos z]
          · rw [if_neg (c := k ≠ 1 ∧ _) (fun h => z h.2), if_neg z]
            by_cases z : c = 0
            · rw [if_neg (c := c < 0 ∨ _) (by omega), if_pos z]
            · rw [if_pos (c := c < 0 ∨ _) (.inr ⟨k1, z⟩), if_neg z]
        clear HR' hk k1
        by_cases zn : 0 < N
        · have e := HQ.out; rw [if_pos zn] at e; subst e
          have zi : (0 : Int) < N := by omega
          clear HQ zn
          go_wp2_with fail
          go_ret
          exact ⟨rfl, B3.out⟩
        · have zi : ¬ (0 : Int) < N := by omega
          by_cases zc : c = 0
          · have e := HQ.out; rw [if_neg zn, if_pos zc] at e; subst e; subst zc
            clear HQ zn
            go_wp2_with fail
            go_ret
            exact ⟨rfl, B3.out⟩
          · have e := HQ.out; rw [if_neg zn, if_neg zc] at e; subst e
            have nz : (c != 0) = true := by simpa using zc
            clear HQ zn
            by_cases zl : c < 0
            · clear nz zc
              go_wp2_with fail
              go_ret
              exact ⟨rfl, B3.out⟩
            · clear zc
              go_wp2_with fail
              go_ret
              exact ⟨rfl, B3.out⟩
    · have e := HR'.out; rw [if_pos z] at e; subst e
      have nz : (R != 0) = true := by simpa using z
      clear HR' z
      go_wp2_with fail
      go_ret
      exact ⟨rfl, B3.out⟩
  · have e := HB.out hk; subst e
    clear HR HB HC HE
    by_cases k0 : k < 0
    · go_enter Tryd.func63, Tryd.ntmps63
      go_wp2_with (first | (refine wpList_box_obj rfl 55 _ rfl (ndL k p m t a N cap c) rfl ?_; intro w1 g1 b1; have B1 := Lib.hid b1; have c0 := g1.get 0 rfl; clear g1 b1))
      go_ret
      exact ⟨rfl, B1.out⟩
    · have k2 : (2 : Int) < k := by omega
      go_enter Tryd.func63, Tryd.ntmps63
      go_wp2_with (first | (refine wpList_box_obj rfl 55 _ rfl (ndL k p m t a N cap c) rfl ?_; intro w1 g1 b1; have B1 := Lib.hid b1; have c0 := g1.get 0 rfl; clear g1 b1))
      go_ret
      exact ⟨rfl, B1.out⟩
end Go.Proofs.YtinmkgpmoclcoaaDoor.Tre
