/-
  Layer 8: the program's Parent, Base, Split, Join, Compare.
-/
import Derived.Test.YtmbimnnacjbdfaaGreatDoorPz15
import Derived.Test.YtmbimnnacjbdfaaGreatDoorPz24
import Derived.Test.YtmbimnnacjbdfaaGreatDoorShelf
import Derived.Test.YtmbimnnacjbdfaaGreatDoorPz12
namespace Go.Proofs.YtmbimnnacjbdfaaGreatDoor.Pnm
open Go.RowKit

set_option maxHeartbeats 1000000 in
theorem lastS_any (s : ByteArray) (w : World) (hs : s.size ≤ maxLen) : Calls Tryz.prog 39 #[.string s, .int .u8 47] w fun e w' => e = .returned (.int .i64 (lastZ (numsOf s))) ∧ w = w' := by
  unfold maxLen at hs
  obtain ⟨L, hL⟩ := named (lastZ (numsOf s))
  have HL : Hid (L = lastF (numsOf s) s.size) := by show _ = _; rw [hL.out]; unfold lastZ; rw [numsOf_length]
  have HA : Hid (∀ j (h : j < s.size), (numsOf s).getD j 0 = (s[j].toNat : Int)) := num_at s
  rw [← hL.out]
  clear hL
  go_enter Tryz.func39, Tryz.ntmps39
  go_wp2
  go_loop [5] (fun i => ∃ v : Int, i = .int .i64 v ∧ -1 ≤ v ∧ v < s.size ∧ lastF (numsOf s) (v + 1).toNat = L) (fun i => (intOf i + 1).toNat)
  case atStart => exact ⟨(s.size : Int) - 1, by go_num, by omega, by omega, by rw [HL.out]; congr 1; omega⟩
  case round =>
    obtain ⟨v, rfl, hv1, hv2, hv3⟩ := hrel
    by_cases h0 : 0 ≤ v
    · obtain ⟨k, rfl⟩ : ∃ k : Nat, v = k := ⟨v.toNat, by omega⟩
      have hk : k < s.size := by omega
      have e1 : ((k : Int) + 1).toNat = k + 1 := by omega
      rw [e1] at hv3
      have hx := HA.out k hk
      by_cases hb : (s[k].toNat : Int) = 47
      · have hb' : ((s[k].toNat : Int) == 47) = true := by rw [hb]; rfl
        have e2 : L = k := by rw [← hv3]; unfold lastF; rw [if_pos (by rw [hx]; exact hb)]
        clear hx
        go_wp2
        go_ret
        exact ⟨rfl, rfl⟩
      · have hb' : ((s[k].toNat : Int) == 47) = false := by simpa using hb
        have e2 : lastF (numsOf s) k = L := by rw [← hv3]; conv => rhs; unfold lastF; rw [if_neg (by rw [hx]; exact hb)]
        have E2 := Lib.hid e2
        clear hx hv3 e2
        go_wp2
        go_round
        case rel => exact ⟨(k : Int) - 1, by go_num, by omega, by omega, by rw [← E2.out]; congr 1; omega⟩
        case measure => simp [intOf]
    · obtain rfl : v = -1 := by omega
      have e2 : L = -1 := by rw [← hv3]; rfl
      clear hv3
      go_wp2
      go_ret
      exact ⟨rfl, rfl⟩

theorem plast (s : ByteArray) (w : World) (hs : s.size ≤ maxLen) : Calls Tryz.prog 23 #[.string s, .int .u8 47] w fun e w' => e = .returned (.int .i64 (lastZ (numsOf s))) ∧ w = w' := by
  go_enter Tryz.func23, Tryz.ntmps23
  go_wp2_with fail
  refine (lastS_any s w hs).mono ?_; rintro e w1 ⟨rfl, rfl⟩
  go_wp2_with fail
  go_ret
  exact ⟨rfl, rfl⟩
theorem cmp_lib : ∀ a b : List UInt8, Lib.compareBytes a b = cmpZ (a.map fun x => (x.toNat : Int)) (b.map fun x => (x.toNat : Int))
  | [], [] => rfl
  | [], _ :: _ => rfl
  | _ :: _, [] => rfl
  | a :: xs, b :: ys => by
    have e1 : (a < b) ↔ ((a.toNat : Int) < (b.toNat : Int)) := by rw [UInt8.lt_iff_toNat_lt]; omega
    have e2 : (b < a) ↔ ((b.toNat : Int) < (a.toNat : Int)) := by rw [UInt8.lt_iff_toNat_lt]; omega
    rw [List.map_cons, List.map_cons]
    unfold Lib.compareBytes cmpZ
    rw [cmp_lib xs ys]
    by_cases h1 : a < b
    · rw [if_pos h1, if_pos (e1.1 h1)]
    · rw [if_neg h1, if_neg (fun h => h1 (e1.2 h))]
      by_cases h2 : b < a
      · rw [if_pos h2, if_pos (e2.1 h2)]
      · rw [if_neg h2, if_neg (fun h => h2 (e2.2 h))]
theorem pcompare (s t : ByteArray) (w : World) (_ : s.size ≤ maxLen) (_ : t.size ≤ maxLen) : Calls Tryz.prog 12 #[.string s, .string t] w fun e w' => e = .returned (.int .i64 (cmpZ (numsOf s) (numsOf t))) ∧ Below w.heap.size w w' := by
  have e := Lib.hid (show Lib.compareBytes s.data.toList t.data.toList = cmpZ (numsOf s) (numsOf t) by rw [cmp_lib, numsOf_eq, numsOf_eq])
  rw [← e.out]
  go_enter Tryz.func12, Tryz.ntmps12
  go_wp2_with fail
  refine (Tryz.strings_Compare s t w).mono ?_; rintro e w1 ⟨rfl, rfl⟩
  go_wp2_with fail
  go_ret
  exact ⟨rfl, Below.refl _ _⟩

set_option maxHeartbeats 1000000 in
theorem pparent (s : ByteArray) (w : World) (hs : s.size ≤ maxLen) : Calls Tryz.prog 13 #[.string s] w fun e w' => e = .returned (.string (strOfNums (parZ (numsOf s)))) ∧ Below w.heap.size w w' := by
  have hb := lastF_bd (numsOf s) (numsOf s).length
  rw [numsOf_length] at hb
  obtain ⟨L, hL⟩ := named (lastZ (numsOf s))
  have hb' : -1 ≤ L ∧ L < s.size := by rw [hL.out]; unfold lastZ; rw [numsOf_length]; exact hb
  obtain ⟨b1, b2⟩ := hb'
  have HS := Lib.hid hs
  unfold maxLen at hs
  clear hb
  by_cases h0 : L < 0
  · have e : parZ (numsOf s) = [] := by unfold parZ; rw [← hL.out, if_pos h0]
    rw [e]
    go_enter Tryz.func13, Tryz.ntmps13
    go_wp2_with fail
    refine (plast s w HS.out).mono ?_; rintro e w1 ⟨rfl, rfl⟩
    rw [← hL.out]
    go_wp2_with fail
    go_ret
    exact ⟨rfl, Below.refl _ _⟩
  · obtain ⟨k, rfl⟩ : ∃ k : Nat, L = k := ⟨L.toNat, by omega⟩
    have e : parZ (numsOf s) = (numsOf s).take k := by unfold parZ; rw [← hL.out, if_neg h0]; rfl
    rw [e]
    go_enter Tryz.func13, Tryz.ntmps13
    go_wp2_with fail
    refine (plast s w HS.out).mono ?_; rintro e w1 ⟨rfl, rfl⟩
    rw [← hL.out]
    go_wp2_with fail
    go_ret
    exact ⟨by show Ending.returned (.string (s.extract 0 k)) = _; rw [ext_str]; rfl, Below.refl _ _⟩

end Go.Proofs.YtmbimnnacjbdfaaGreatDoor.Pnm
/-
  Layer 13: the program's checkTogether.
-/
namespace Go.Proofs.YtmbimnnacjbdfaaGreatDoor.Tre
open Go.RowKit Go.MapKept Go.Proofs.YtmbimnnacjbdfaaGreatDoor.Fit Pnm

set_option maxRecDepth 100000 in
set_option maxHeartbeats 8000000 in
theorem ptog_any (a : Option Addr) (n cap : Nat) (ys : List NdS) (w : World) (ha : ArgNds w a n cap ys) (HO : ∀ j, j < n → oneE (nd (nds ys) j) = 0) :
    Calls Tryz.prog 31 #[.slice a n cap] w fun e w' => e = .returned (.tuple #[.int .i64 (chk (nds ys)).1, .int .i64 (chk (nds ys)).2]) ∧ Below w.heap.size w w' := by
  have HA := Lib.hid ha
  have NZ := Lib.hid zNd
  have NO := Lib.hid ndT
  have ZI : Hid ((Tryz.prog.info? 3).map (·.zero) = some (some (.int .i64 0))) := by show _ = _; kernel_rfl
  have ZB : Hid ((Tryz.prog.info? 4).map (·.zero) = some (some (.bool false))) := by show _ = _; kernel_rfl
  have UMS := Lib.hid Tryz.underlying41
  have UMI := Lib.hid Tryz.underlying77
  have UMB := Lib.hid Tryz.underlying40
  have UKS := Lib.hid Tryz.underlying9
  have UKI := Lib.hid Tryz.underlying3
  have hn : n ≤ maxLen := Nat.le_trans ha.c ha.m
  have HN : Hid (ys.length = n) := ha.n
  have HL : Hid ((nds ys).length = n) := by show _ = _; rw [nds_len]; exact ha.n
  obtain ⟨X1, hX1⟩ := named (chk (nds ys)).1
  obtain ⟨X2, hX2⟩ := named (chk (nds ys)).2
  have FIN : Hid (∀ j R : Int, ∀ i : Nat, j = i → i < n → (∀ k, k < i → togE (nds ys) k = 0) → R = togE (nds ys) i → R ≠ 0 → X1 = j ∧ X2 = R) := fun j R i hj hi hp hR h0 => by
    have := chk_tog (l := nds ys) (i := i) (fun k hk => HO k (by rw [← HL.out]; exact hk)) (by rw [HL.out]; exact hi) hp (by rw [← hR]; exact h0)
    rw [hX1.out, hX2.out, this, hj, hR]; exact ⟨rfl, rfl⟩
  have END : Hid ((∀ k, k < n → togE (nds ys) k = 0) → X1 = n ∧ X2 = 0) := fun h => by
    have := chk_fine (l := nds ys) (fun k hk => HO k (by rw [← HL.out]; exact hk)) (fun k hk => h k (by rw [← HL.out]; exact hk))
    rw [hX1.out, hX2.out, this, HL.out]; exact ⟨rfl, rfl⟩
  have CLS : Hid (∀ j, j < n → 0 ≤ (nd (nds ys) j).c) := fun j hj => (one_c (HO j hj)).1
  rw [← hX1.out, ← hX2.out]
  unfold maxLen at hn
  clear ha HO hX1 hX2
  go_enter Tryz.func31, Tryz.ntmps31
  go_wp2_with fail
  refine (firstsP_any a n cap ys w HA.out).mono ?_; rintro e w1 ⟨g1, N1, rfl, m1, s1, b1⟩
  have M1 := Lib.hid m1; have B1 := Lib.hid b1; have HA1 := Lib.hid (HA.out.below b1)
  clear m1 b1 s1
  go_wp2_with fail
  refine (firstsC_any a n cap ys w1 HA1.out).mono ?_; rintro e w2 ⟨g2, N2, rfl, m2, s2, b2⟩
  have M2 := Lib.hid m2; have M12 := Lib.hid (M1.out.below b2 M1.out.lt); have B2 := Lib.hid (belT B1.out b2); have HA2 := Lib.hid (HA1.out.below b2)
  clear m2 b2 s2
  go_wp2_with fail
  refine (dirs_any a n cap ys w2 HA2.out).mono ?_; rintro e w3 ⟨g3, N3, rfl, m3, s3, b3⟩
  have P3 := Lib.hid (M12.out.below b3 M12.out.lt); have C3 := Lib.hid (M2.out.below b3 M2.out.lt); have D3 := Lib.hid m3; have B3 := Lib.hid (belT B2.out b3); have HA3 := Lib.hid (HA2.out.below b3)
  clear m3 b3 s3 M1 M2 M12 HA HA1 HA2 B1 B2
  go_wp2_with fail
  go_loopw [18] (fun i wr => ∃ j : Nat, i = .int .i64 j ∧ j ≤ n ∧ (∀ k, k < j → togE (nds ys) k = 0) ∧ Below w3.heap.size w3 wr) (fun i _ => n - (intOf i).toNat)
  case atStart => exact ⟨0, rfl, Nat.zero_le _, fun k hk => absurd hk (Nat.not_lt_zero k), Below.refl _ _⟩
  case round =>
    obtain ⟨j, rfl, hj, hp, hB⟩ := hrel
    have HP := Lib.hid hp; have HB := Lib.hid hB
    have BW := Lib.hid (belT B3.out hB)
    clear hp hB
    by_cases hjn : j < n
    · obtain ⟨b, off, y, rfl, hb, hy, hf, hat⟩ := HA3.out.get j hjn
      have hat' := hat.below HB.out hb
      obtain ⟨c0, c1, c2, c3, c4, c5⟩ := hat'.c hy
      obtain ⟨I0, i1, i2, i3⟩ := dup_has (ys := ys) hjn
      obtain ⟨J0, j1, j2, j3⟩ := odd_has (ys := ys) (j := j) (by rw [HN.out]; exact hjn)
      rw [HN.out] at j2
      obtain ⟨b', off', z, e', hb', hz, hfz, hatz⟩ := HA3.out.get J0 (Nat.lt_of_le_of_lt j1 hjn)
      cases e'
      have AT := Lib.hid hat; have FY := Lib.hid hf; have FZ := Lib.hid hfz; have HZ := Lib.hid hz
      have EY : Hid (nd (nds ys) j = y.n) := nd_y hy
      have EZ : Hid (nd (nds ys) J0 = z.n) := nd_y hz
      have E0 : Hid (pk ys j = .string y.n.p ∧ ck ys j = .int .i64 y.n.c) := ⟨by unfold pk; rw [EY.out], by unfold ck; rw [EY.out]⟩
      have c00 : Hid (0 ≤ y.n.c) := by show _ ≤ _; rw [← EY.out]; exact CLS.out j hjn
      have HPS : Hid (y.n.p.size ≤ 140737488355328) := hf.p
      have LP := Lib.hid i2; have LC := Lib.hid j2; have DUP := Lib.hid i3; have ODD := Lib.hid j3
      have PAR := Lib.hid (par_has (ys := ys) (x := nd (nds ys) j))
      obtain ⟨T1, T2, T3, T4⟩ := tog_by (l := nds ys) (i := j) rfl
      have TG := Lib.hid (And.intro T1 (And.intro T2 (And.intro T3 T4)))
      clear hat hat' hatz hf hfz hy hz i2 i3 j2 j3 T1 T2 T3 T4
      have JN : Hid (J0 < n) := Nat.lt_of_le_of_lt j1 hjn
      have I0J : Hid (I0 ≤ j) := i1
      clear i1 j1 hb'
      obtain ⟨⟨k, p, m, t, d, c⟩, x, xc⟩ := y
      have HBND := Lib.hid hb
      obtain ⟨L, hL⟩ := named d.length
      have c4' : wr.cell? ⟨b, off + j * 6 + 4, none⟩ = some (.slice x L xc) := by rw [hL.out]; exact c4
      clear c4 hb
      have jn : (j : Int) < n := by omega
      go_wp2_with (first | (refine wpList_alloc_obj rfl 50 rfl (ndL 0 emp 0 emp none 0 0 0) NZ.out ?_; intro w4 g4 b4; have G4 := Lib.hid g4; have K4 := Lib.hid (HB.out.trans (b4.mono HB.out.size)); clear g4 b4 c0 c1 c2 c3 c4' c5) | (refine wpList_store_obj rfl 50 _ _ rfl wr.heap.size rfl (ndL k p m t x L xc c) (ndL 0 emp 0 emp none 0 0 0) rfl 50 G4.out NO.out.2 rfl (nd_one _ _ _ _ _ _ _ _) ?_; intro w5 g5 t5; have G5 := Lib.hid g5; have K5 := Lib.hid (K4.out.trans (t5.below HB.out.size)); have c1 := g5.get 1 rfl; clear g5 t5))
      refine (pparent p w5 (Nat.le_trans HPS.out (by decide))).mono ?_; rintro e w6 ⟨rfl, b6⟩
      obtain ⟨PS, hPS⟩ := named (strOfNums (parZ (numsOf p)))
      rw [← hPS.out]
      have G6 := Lib.hid (G5.out.below b6 G5.out.lt)
      have K6 := Lib.hid (K5.out.trans (b6.mono K5.out.size))
      have c1 := G6.out.get 1 rfl
      have c5 := G6.out.get 5 rfl
      clear b6
      have lp := (run_lookF (P := Tryz.prog) (w := w6) 41 9 3 UMS.out .string UKS.out (.int .i64 0) ZI.out g1 N1 (.string p) (show IsKey .string (.string p) from trivial) (fk (pk ys) n) (P3.out.below K6.out P3.out.lt)).2
      rw [show fk (pk ys) n (.string p) = some (.int .i64 I0) from by have := LP.out; rw [E0.out.1] at this; exact this] at lp
      simp only [Option.getD_some] at lp
      have BW6 := Lib.hid (belT B3.out K6.out)
      by_cases hD : I0 = j
      · subst hD
        have NDU : Hid (¬ Dup (nds ys) I0) := fun h => DUP.out.mpr h rfl
        have PAR' : Hid (Par (nds ys) (nd (nds ys) I0) ↔ PS = emp ∨ ∃ i, i < n ∧ kk ys i = 0 ∧ pk ys i = .string PS) := by
          show _ ↔ _
          rw [PAR.out, HN.out, hPS.out, EY.out]; exact Iff.rfl
        clear DUP PAR
        obtain ⟨PB, hPB⟩ : ∃ PB : Bool, (dk (kk ys) (pk ys) n (.string PS)).getD (.bool false) = .bool PB ∧ (PB = true ↔ ∃ i, i < n ∧ kk ys i = 0 ∧ pk ys i = .string PS) := by
          rw [dk_eq]
          by_cases h : ∃ i, i < n ∧ kk ys i = 0 ∧ pk ys i = .string PS
          · rw [if_pos h]; exact ⟨true, rfl, fun _ => h, fun _ => rfl⟩
          · rw [if_neg h]; exact ⟨false, rfl, (fun e => absurd e (by decide)), fun e => absurd e h⟩
        have ld := (run_lookF (P := Tryz.prog) (w := w6) 40 9 4 UMB.out .string UKS.out (.bool false) ZB.out g3 N3 (.string PS) (show IsKey .string (.string PS) from trivial) (dk (kk ys) (pk ys) n) (D3.out.below K6.out D3.out.lt)).2
        rw [hPB.1] at ld
        have HPB := Lib.hid hPB.2
        clear hPB hPS
        have ways : Hid ((PS = emp ∨ (PB = true ∧ ¬ PS = emp)) ∨ (PB = false ∧ ¬ PS = emp)) := by
          show _ ∨ _
          by_cases h : PS = emp
          · exact .inl (.inl h)
          · cases PB with
            | true => exact .inl (.inr ⟨rfl, h⟩)
            | false => exact .inr ⟨rfl, h⟩
        rcases ways.out with hgood | ⟨rfl, hne⟩
        · have PYES : Hid (Par (nds ys) (nd (nds ys) I0)) := PAR'.out.mpr (hgood.imp id fun h => HPB.out.mp h.1)
          clear PAR' HPB ways
          rcases hgood with rfl | ⟨rfl, hne⟩
          · clear ld
            by_cases hc : c = 0
            · subst hc
              have T0 : Hid (togE (nds ys) I0 = 0) := TG.out.2.2.2 NDU.out PYES.out fun ⟨h, _⟩ => h (by rw [EY.out])
              clear FIN END
              go_wp2_with fail
              refine wp_region_class (S := fun w' => Below w6.heap.size w6 w') (by kernel_rfl) (by kernel_rfl) (Below.refl _ _).drew ?_
              intro hne'
              have c5q : ∀ q : Of (fun w' => Below w6.heap.size w6 w'), q.w.cell? ⟨wr.heap.size, 5, none⟩ = some (.int .i64 0) := fun q => (G6.out.below q.h G6.out.lt).get 5 rfl
              clear c5
              repeat (go_big_quiet_step (fail))
              refine wpQuiet_nil ?_
              rintro wq ⟨q, rfl⟩
              go_wp2
              go_round
              case rel => exact ⟨I0 + 1, by go_num, by omega, fun k hk => by
                by_cases h : k < I0
                · exact HP.out k h
                · obtain rfl : k = I0 := by omega
                  exact T0.out, belT K6.out q.h⟩
              case measure => simp [intOf]; omega
            · have cp : (0 : Int) < c := by have : 0 ≤ c := c00.out; omega
              obtain ⟨B, hBB⟩ := named (decide (m = z.n.m ∧ d = z.n.d))
              have SF : Hid (∀ w', Below w6.heap.size w6 w' → Calls Tryz.prog 61 #[.agg (ndL k p m t x L xc c).toArray, .agg (ndV z).toArray] w' fun e w'' => e = .returned (.bool B) ∧ Below w'.heap.size w' w'') := fun w' hb => by
                rw [hBB.out, hL.out]
                exact sameFile_any ⟨⟨k, p, m, t, d, c⟩, x, xc⟩ z w' (FY.out.below (belT K6.out hb)) (FZ.out.below (belT K6.out hb))
              have OD : Hid (Odd (nds ys) (nd (nds ys) I0) ↔ B = false) := by
                show _ ↔ _
                rw [ODD.out (by rw [EY.out]; exact hc), EZ.out, EY.out, hBB.out, decide_eq_false_iff_not]
              have zq : ∀ (q : Of (fun w' => Below w6.heap.size w6 w')), ∀ i v, (ndV z)[i]? = some v → q.w.cell? ⟨b, off + J0 * 6 + i, none⟩ = some v := fun q i v hv => (AT.out.below (belT K6.out q.h) HBND.out) J0 z HZ.out i v hv
              obtain ⟨⟨k', p', m', t', d', c'⟩, x', xc'⟩ := z
              obtain ⟨L', hL'⟩ := named d'.length
              have SF' : Hid (∀ w', Below w6.heap.size w6 w' → Calls Tryz.prog 61 #[.agg (ndL k p m t x L xc c).toArray, .agg (ndL k' p' m' t' x' L' xc' c').toArray] w' fun e w'' => e = .returned (.bool B) ∧ Below w'.heap.size w' w'') := by rw [hL'.out]; exact SF.out
              have z0 := fun q => zq q 0 _ rfl
              have z1 := fun q => zq q 1 _ rfl
              have z2 := fun q => zq q 2 _ rfl
              have z3 := fun q => zq q 3 _ rfl
              have z4 := fun q => zq q 4 _ rfl
              have z5 := fun q => zq q 5 _ rfl
              have z4' : ∀ q : Of (fun w' => Below w6.heap.size w6 w'), q.w.cell? ⟨b, off + J0 * 6 + 4, none⟩ = some (.slice x' L' xc') := fun q => by rw [hL'.out]; exact z4 q
              have z0' : ∀ q : Of (fun w' => Below w6.heap.size w6 w'), q.w.cell? ⟨b, off + J0 * 6, none⟩ = some (.int .i64 k') := fun q => z0 q
              have y0 : ∀ q : Of (fun w' => Below w6.heap.size w6 w'), q.w.cell? ⟨wr.heap.size, 0, none⟩ = some (.int .i64 k) := fun q => (G6.out.below q.h G6.out.lt).get 0 rfl
              have y1 : ∀ q : Of (fun w' => Below w6.heap.size w6 w'), q.w.cell? ⟨wr.heap.size, 1, none⟩ = some (.string p) := fun q => (G6.out.below q.h G6.out.lt).get 1 rfl
              have y2 : ∀ q : Of (fun w' => Below w6.heap.size w6 w'), q.w.cell? ⟨wr.heap.size, 2, none⟩ = some (.int .i64 m) := fun q => (G6.out.below q.h G6.out.lt).get 2 rfl
              have y3 : ∀ q : Of (fun w' => Below w6.heap.size w6 w'), q.w.cell? ⟨wr.heap.size, 3, none⟩ = some (.string t) := fun q => (G6.out.below q.h G6.out.lt).get 3 rfl
              have y4 : ∀ q : Of (fun w' => Below w6.heap.size w6 w'), q.w.cell? ⟨wr.heap.size, 4, none⟩ = some (.slice x L xc) := fun q => (G6.out.below q.h G6.out.lt).get 4 rfl
              have y5 : ∀ q : Of (fun w' => Below w6.heap.size w6 w'), q.w.cell? ⟨wr.heap.size, 5, none⟩ = some (.int .i64 c) := fun q => (G6.out.below q.h G6.out.lt).get 5 rfl
              have lc : ∀ q : Of (fun w' => Below w6.heap.size w6 w'), (Instr.lookup 77 (.map (some g2)) (.int .i64 c) false).run Tryz.prog q.w = .ok (.int .i64 J0) q.w := fun q => by
                have lq := (run_lookF (P := Tryz.prog) (w := q.w) 77 3 3 UMI.out (.int .i64) UKI.out (.int .i64 0) ZI.out g2 N2 (.int .i64 c) (show IsKey (.int .i64) (.int .i64 c) from rfl) (fk (ck ys) n) (C3.out.below (belT K6.out q.h) C3.out.lt)).2
                rw [show fk (ck ys) n (.int .i64 c) = some (.int .i64 J0) from by have := LC.out; rw [E0.out.2] at this; exact this] at lq
                exact lq
              have jn' : (J0 : Int) < n := by have := JN.out; omega
              clear zq z0 z4 SF hL hL' hBB c5 ODD EZ AT FY FZ HZ LC hc JN
              cases B with
              | true =>
                have T0 : Hid (togE (nds ys) I0 = 0) := TG.out.2.2.2 NDU.out PYES.out fun h => by have := OD.out.mp h; cases this
                clear FIN END OD
                go_wp2_with fail
                refine wp_region_class (S := fun w' => Below w6.heap.size w6 w') (by kernel_rfl) (by kernel_rfl) (Below.refl _ _).drew ?_
                intro hne'
                repeat (go_big_quiet_step ((go_at_call 61; exact Calls.in_classS (SF'.out) fun w' hb q => q.trans (hb.mono q.size))))
                refine wpQuiet_nil ?_
                rintro wq ⟨q, rfl⟩
                go_wp2
                go_round
                case rel => exact ⟨I0 + 1, by go_num, by omega, fun k hk => by
                  by_cases h : k < I0
                  · exact HP.out k h
                  · obtain rfl : k = I0 := by omega
                    exact T0.out, belT K6.out q.h⟩
                case measure => simp [intOf]; omega
              | false =>
                obtain ⟨q1, q2⟩ := FIN.out I0 15 I0 rfl hjn HP.out (TG.out.2.2.1 NDU.out PYES.out (OD.out.mpr rfl)).symm (by decide)
                subst q1 q2
                clear FIN END OD
                go_wp2_with fail
                refine wp_region_class (S := fun w' => Below w6.heap.size w6 w') (by kernel_rfl) (by kernel_rfl) (Below.refl _ _).drew ?_
                intro hne'
                repeat (go_big_quiet_step ((go_at_call 61; exact Calls.in_classS (SF'.out) fun w' hb q => q.trans (hb.mono q.size))))
                refine wpQuiet_nil ?_
                rintro wq ⟨q, rfl⟩
                go_wp2
                go_ret2
                exact ⟨rfl, BW6.out.trans (q.h.mono BW6.out.size)⟩
          · have hi := empty_no hne
            clear hne
            by_cases hc : c = 0
            · subst hc
              have T0 : Hid (togE (nds ys) I0 = 0) := TG.out.2.2.2 NDU.out PYES.out fun ⟨h, _⟩ => h (by rw [EY.out])
              clear FIN END
              go_wp2_with fail
              refine wp_region_class (S := fun w' => Below w6.heap.size w6 w') (by kernel_rfl) (by kernel_rfl) (Below.refl _ _).drew ?_
              intro hne'
              have c5q : ∀ q : Of (fun w' => Below w6.heap.size w6 w'), q.w.cell? ⟨wr.heap.size, 5, none⟩ = some (.int .i64 0) := fun q => (G6.out.below q.h G6.out.lt).get 5 rfl
              clear c5
              repeat (go_big_quiet_step (fail))
              refine wpQuiet_nil ?_
              rintro wq ⟨q, rfl⟩
              go_wp2
              go_round
              case rel => exact ⟨I0 + 1, by go_num, by omega, fun k hk => by
                by_cases h : k < I0
                · exact HP.out k h
                · obtain rfl : k = I0 := by omega
                  exact T0.out, belT K6.out q.h⟩
              case measure => simp [intOf]; omega
            · have cp : (0 : Int) < c := by have : 0 ≤ c := c00.out; omega
              obtain ⟨B, hBB⟩ := named (decide (m = z.n.m ∧ d = z.n.d))
              have SF : Hid (∀ w', Below w6.heap.size w6 w' → Calls Tryz.prog 61 #[.agg (ndL k p m t x L xc c).toArray, .agg (ndV z).toArray] w' fun e w'' => e = .returned (.bool B) ∧ Below w'.heap.size w' w'') := fun w' hb => by
                rw [hBB.out, hL.out]
                exact sameFile_any ⟨⟨k, p, m, t, d, c⟩, x, xc⟩ z w' (FY.out.below (belT K6.out hb)) (FZ.out.below (belT K6.out hb))
              have OD : Hid (Odd (nds ys) (nd (nds ys) I0) ↔ B = false) := by
                show _ ↔ _
                rw [ODD.out (by rw [EY.out]; exact hc), EZ.out, EY.out, hBB.out, decide_eq_false_iff_not]
              have zq : ∀ (q : Of (fun w' => Below w6.heap.size w6 w')), ∀ i v, (ndV z)[i]? = some v → q.w.cell? ⟨b, off + J0 * 6 + i, none⟩ = some v := fun q i v hv => (AT.out.below (belT K6.out q.h) HBND.out) J0 z HZ.out i v hv
              obtain ⟨⟨k', p', m', t', d', c'⟩, x', xc'⟩ := z
              obtain ⟨L', hL'⟩ := named d'.length
              have SF' : Hid (∀ w', Below w6.heap.size w6 w' → Calls Tryz.prog 61 #[.agg (ndL k p m t x L xc c).toArray, .agg (ndL k' p' m' t' x' L' xc' c').toArray] w' fun e w'' => e = .returned (.bool B) ∧ Below w'.heap.size w' w'') := by rw [hL'.out]; exact SF.out
              have z0 := fun q => zq q 0 _ rfl
              have z1 := fun q => zq q 1 _ rfl
              have z2 := fun q => zq q 2 _ rfl
              have z3 := fun q => zq q 3 _ rfl
              have z4 := fun q => zq q 4 _ rfl
              have z5 := fun q => zq q 5 _ rfl
              have z4' : ∀ q : Of (fun w' => Below w6.heap.size w6 w'), q.w.cell? ⟨b, off + J0 * 6 + 4, none⟩ = some (.slice x' L' xc') := fun q => by rw [hL'.out]; exact z4 q
              have z0' : ∀ q : Of (fun w' => Below w6.heap.size w6 w'), q.w.cell? ⟨b, off + J0 * 6, none⟩ = some (.int .i64 k') := fun q => z0 q
              have y0 : ∀ q : Of (fun w' => Below w6.heap.size w6 w'), q.w.cell? ⟨wr.heap.size, 0, none⟩ = some (.int .i64 k) := fun q => (G6.out.below q.h G6.out.lt).get 0 rfl
              have y1 : ∀ q : Of (fun w' => Below w6.heap.size w6 w'), q.w.cell? ⟨wr.heap.size, 1, none⟩ = some (.string p) := fun q => (G6.out.below q.h G6.out.lt).get 1 rfl
              have y2 : ∀ q : Of (fun w' => Below w6.heap.size w6 w'), q.w.cell? ⟨wr.heap.size, 2, none⟩ = some (.int .i64 m) := fun q => (G6.out.below q.h G6.out.lt).get 2 rfl
              have y3 : ∀ q : Of (fun w' => Below w6.heap.size w6 w'), q.w.cell? ⟨wr.heap.size, 3, none⟩ = some (.string t) := fun q => (G6.out.below q.h G6.out.lt).get 3 rfl
              have y4 : ∀ q : Of (fun w' => Below w6.heap.size w6 w'), q.w.cell? ⟨wr.heap.size, 4, none⟩ = some (.slice x L xc) := fun q => (G6.out.below q.h G6.out.lt).get 4 rfl
              have y5 : ∀ q : Of (fun w' => Below w6.heap.size w6 w'), q.w.cell? ⟨wr.heap.size, 5, none⟩ = some (.int .i64 c) := fun q => (G6.out.below q.h G6.out.lt).get 5 rfl
              have lc : ∀ q : Of (fun w' => Below w6.heap.size w6 w'), (Instr.lookup 77 (.map (some g2)) (.int .i64 c) false).run Tryz.prog q.w = .ok (.int .i64 J0) q.w := fun q => by
                have lq := (run_lookF (P := Tryz.prog) (w := q.w) 77 3 3 UMI.out (.int .i64) UKI.out (.int .i64 0) ZI.out g2 N2 (.int .i64 c) (show IsKey (.int .i64) (.int .i64 c) from rfl) (fk (ck ys) n) (C3.out.below (belT K6.out q.h) C3.out.lt)).2
                rw [show fk (ck ys) n (.int .i64 c) = some (.int .i64 J0) from by have := LC.out; rw [E0.out.2] at this; exact this] at lq
                exact lq
              have jn' : (J0 : Int) < n := by have := JN.out; omega
              clear zq z0 z4 SF hL hL' hBB c5 ODD EZ AT FY FZ HZ LC hc JN
              cases B with
              | true =>
                have T0 : Hid (togE (nds ys) I0 = 0) := TG.out.2.2.2 NDU.out PYES.out fun h => by have := OD.out.mp h; cases this
                clear FIN END OD
                go_wp2_with fail
                refine wp_region_class (S := fun w' => Below w6.heap.size w6 w') (by kernel_rfl) (by kernel_rfl) (Below.refl _ _).drew ?_
                intro hne'
                repeat (go_big_quiet_step ((go_at_call 61; exact Calls.in_classS (SF'.out) fun w' hb q => q.trans (hb.mono q.size))))
                refine wpQuiet_nil ?_
                rintro wq ⟨q, rfl⟩
                go_wp2
                go_round
                case rel => exact ⟨I0 + 1, by go_num, by omega, fun k hk => by
                  by_cases h : k < I0
                  · exact HP.out k h
                  · obtain rfl : k = I0 := by omega
                    exact T0.out, belT K6.out q.h⟩
                case measure => simp [intOf]; omega
              | false =>
                obtain ⟨q1, q2⟩ := FIN.out I0 15 I0 rfl hjn HP.out (TG.out.2.2.1 NDU.out PYES.out (OD.out.mpr rfl)).symm (by decide)
                subst q1 q2
                clear FIN END OD
                go_wp2_with fail
                refine wp_region_class (S := fun w' => Below w6.heap.size w6 w') (by kernel_rfl) (by kernel_rfl) (Below.refl _ _).drew ?_
                intro hne'
                repeat (go_big_quiet_step ((go_at_call 61; exact Calls.in_classS (SF'.out) fun w' hb q => q.trans (hb.mono q.size))))
                refine wpQuiet_nil ?_
                rintro wq ⟨q, rfl⟩
                go_wp2
                go_ret2
                exact ⟨rfl, BW6.out.trans (q.h.mono BW6.out.size)⟩
        · have PNO : Hid (¬ Par (nds ys) (nd (nds ys) I0)) := fun h => by
            rcases PAR'.out.mp h with h | h
            · exact hne h
            · have := HPB.out.mpr h; cases this
          have hi := empty_no hne
          obtain ⟨q1, q2⟩ := FIN.out I0 13 I0 rfl hjn HP.out (TG.out.2.1 NDU.out PNO.out).symm (by decide)
          subst q1 q2
          clear PAR' HPB ways hne FIN END
          go_wp2_with fail
          go_ret2
          exact ⟨rfl, BW6.out⟩
      · have hd : ((I0 : Int) != (j : Int)) = true := by simp; omega
        obtain ⟨q1, q2⟩ := FIN.out j 14 j rfl hjn HP.out (TG.out.1 (DUP.out.mp hD)).symm (by decide)
        subst q1 q2
        clear FIN END hD
        go_wp2_with fail
        go_ret2
        exact ⟨rfl, BW6.out⟩
    · obtain rfl : j = n := by omega
      obtain ⟨q1, q2⟩ := END.out HP.out
      subst q1 q2
      clear FIN END
      go_wp2
      go_ret2
      exact ⟨rfl, BW.out⟩
end Go.Proofs.YtmbimnnacjbdfaaGreatDoor.Tre
