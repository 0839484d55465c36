/-
  A region that draws its order and holds calls that make memory: one walk of the text's order serves every order, where each operation yields one value in every world of a class, and leaves one of it.
-/
import Derived.Test.YtinmkgpmoclcoaaDoorPz01
import Derived.BigQuiet
import Derived.Test.YtinmkgpmoclcoaaDoorPz06
import Derived.Test.YtinmkgpmoclcoaaDoorShelf
import Derived.Test.YtinmkgpmoclcoaaDoorRows
import Derived.Test.YtinmkgpmoclcoaaDoorPz04
import Derived.Lib.LaidTab
import Derived.ChangeArms
import Derived.Stop.LaidErr
import Derived.MakeChecks
import Derived.Test.YtinmkgpmoclcoaaDoorPz02
import Derived.Test.YtinmkgpmoclcoaaDoorPz07
import Derived.Test.YtinmkgpmoclcoaaDoorPz03
namespace Go.Proofs.YtinmkgpmoclcoaaDoor
open Go.RowKit

/-- a world of the class S -/
structure Of (S : World → Prop) where
  w : World
  h : S w

theorem wp_region_class {P : Program} {id : Nat} {Q : Exit → Act → World → Prop} {a : Act} {w : World} {l : List Oper} {S : World → Prop} (hm : P.follows .mixedOrders = true) (hB : Region.lexB .any l.toArray = true) (hS : S w.drew)
    (h : Nonempty (Of S) → wpQuiet P l.toArray (fun w' => ∃ q : Of S, w' = q.w) (fun a' => ∀ w', (∃ q : Of S, w' = q.w) → Q .normal a' w') l a) : (Code.region id l.toArray true).wp P Q a w :=
  wp_region_quiet (C := fun w' => ∃ q : Of S, w' = q.w) hm hB ⟨⟨w.drew, hS⟩, rfl⟩ (by simpa using h ⟨⟨w.drew, hS⟩⟩)

/-- a call that hands back v and leaves what lay there, met in a world of the class -/
theorem Calls.in_class {P : Program} {f : FuncId} {args : Array Value} {S : World → Prop} {q : Of S} {v : Value}
    (h : Calls P f args q.w fun e w' => e = .returned v ∧ Below q.w.heap.size q.w w') (hS : ∀ w', Below q.w.heap.size q.w w' → S q.w → S w') :
    Calls P f args q.w fun e w'' => e = .returned v ∧ ∃ q' : Of S, w'' = q'.w :=
  h.mono fun _ w' h => ⟨h.1, ⟨w', hS w' h.2 q.h⟩, rfl⟩
/-- the same, where the contract asks something of the class's worlds -/
theorem Calls.in_classS {P : Program} {f : FuncId} {args : Array Value} {S : World → Prop} {q : Of S} {v : Value}
    (h : ∀ w, S w → Calls P f args w fun e w' => e = .returned v ∧ Below w.heap.size w w') (hS : ∀ w', Below q.w.heap.size q.w w' → S q.w → S w') :
    Calls P f args q.w fun e w'' => e = .returned v ∧ ∃ q' : Of S, w'' = q'.w := Calls.in_class (h q.w q.h) hS
end Go.Proofs.YtinmkgpmoclcoaaDoor
/-
  Layer 8: the program's Parent, Base, Split, Join, Compare.
-/
namespace Go.Proofs.YtinmkgpmoclcoaaDoor.Pnm
open Go.RowKit

set_option maxHeartbeats 1000000 in
theorem lastS_any (s : ByteArray) (w : World) (hs : s.size ≤ maxLen) : Calls Tryd.prog 68 #[.string s, .int .u8 47] w fun e w' => e = .returned (.int .i64 (lastZ (numsOf s))) ∧ w = w' := by
  unfold maxLen at hs
  obtain ⟨L, hL⟩ := named (lastZ (numsOf s))
  have HL : Hid (L = lastF (numsOf s) s.size) := by show _ = _; rw [hL.out]; unfold lastZ; rw [numsOf_length]
  have HA : Hid (∀ j (h : j < s.size), (numsOf s).getD j 0 = (s[j].toNat : Int)) := num_at s
  rw [← hL.out]
  clear hL
  go_enter Tryd.func68, Tryd.ntmps68
  go_wp2
  go_loop [5] (fun i => ∃ v : Int, i = .int .i64 v ∧ -1 ≤ v ∧ v < s.size ∧ lastF (numsOf s) (v + 1).toNat = L) (fun i => (intOf i + 1).toNat)
  case atStart => exact ⟨(s.size : Int) - 1, by go_num, by omega, by omega, by rw [HL.out]; congr 1; omega⟩
  case round =>
    obtain ⟨v, rfl, hv1, hv2, hv3⟩ := hrel
    by_cases h0 : 0 ≤ v
    · obtain ⟨k, rfl⟩ : ∃ k : Nat, v = k := ⟨v.toNat, by omega⟩
      have hk : k < s.size := by omega
      have e1 : ((k : Int) + 1).toNat = k + 1 := by omega
      rw [e1] at hv3
      have hx := HA.out k hk
      by_cases hb : (s[k].toNat : Int) = 47
      · have hb' : ((s[k].toNat : Int) == 47) = true := by rw [hb]; rfl
        have e2 : L = k := by rw [← hv3]; unfold lastF; rw [if_pos (by rw [hx]; exact hb)]
        clear hx
        go_wp2
        go_ret
        exact ⟨rfl, rfl⟩
      · have hb' : ((s[k].toNat : Int) == 47) = false := by simpa using hb
        have e2 : lastF (numsOf s) k = L := by rw [← hv3]; conv => rhs; unfold lastF; rw [if_neg (by rw [hx]; exact hb)]
        have E2 := Lib.hid e2
        clear hx hv3 e2
        go_wp2
        go_round
        case rel => exact ⟨(k : Int) - 1, by go_num, by omega, by omega, by rw [← E2.out]; congr 1; omega⟩
        case measure => simp [intOf]
    · obtain rfl : v = -1 := by omega
      have e2 : L = -1 := by rw [← hv3]; rfl
      clear hv3
      go_wp2
      go_ret
      exact ⟨rfl, rfl⟩

theorem plast (s : ByteArray) (w : World) (hs : s.size ≤ maxLen) : Calls Tryd.prog 48 #[.string s, .int .u8 47] w fun e w' => e = .returned (.int .i64 (lastZ (numsOf s))) ∧ w = w' := by
  go_enter Tryd.func48, Tryd.ntmps48
  go_wp2_with fail
  refine (lastS_any s w hs).mono ?_; rintro e w1 ⟨rfl, rfl⟩
  go_wp2_with fail
  go_ret
  exact ⟨rfl, rfl⟩
theorem cmp_lib : ∀ a b : List UInt8, Lib.compareBytes a b = cmpZ (a.map fun x => (x.toNat : Int)) (b.map fun x => (x.toNat : Int))
  | [], [] => rfl
  | [], _ :: _ => rfl
  | _ :: _, [] => rfl
  | a :: xs, b :: ys => by
    have e1 : (a < b) ↔ ((a.toNat : Int) < (b.toNat : Int)) := by rw [UInt8.lt_iff_toNat_lt]; omega
    have e2 : (b < a) ↔ ((b.toNat : Int) < (a.toNat : Int)) := by rw [UInt8.lt_iff_toNat_lt]; omega
    rw [List.map_cons, List.map_cons]
    unfold Lib.compareBytes cmpZ
    rw [cmp_lib xs ys]
    by_cases h1 : a < b
    · rw [if_pos h1, if_pos (e1.1 h1)]
    · rw [if_neg h1, if_neg (fun h => h1 (e1.2 h))]
      by_cases h2 : b < a
      · rw [if_pos h2, if_pos (e2.1 h2)]
      · rw [if_neg h2, if_neg (fun h => h2 (e2.2 h))]
theorem pcompare (s t : ByteArray) (w : World) (_ : s.size ≤ maxLen) (_ : t.size ≤ maxLen) : Calls Tryd.prog 49 #[.string s, .string t] w fun e w' => e = .returned (.int .i64 (cmpZ (numsOf s) (numsOf t))) ∧ Below w.heap.size w w' := by
  have e := Lib.hid (show Lib.compareBytes s.data.toList t.data.toList = cmpZ (numsOf s) (numsOf t) by rw [cmp_lib, numsOf_eq, numsOf_eq])
  rw [← e.out]
  go_enter Tryd.func49, Tryd.ntmps49
  go_wp2_with fail
  refine (Tryd.strings_Compare s t w).mono ?_; rintro e w1 ⟨rfl, rfl⟩
  go_wp2_with fail
  go_ret
  exact ⟨rfl, Below.refl _ _⟩

set_option maxHeartbeats 1000000 in
theorem pparent (s : ByteArray) (w : World) (hs : s.size ≤ maxLen) : Calls Tryd.prog 27 #[.string s] w fun e w' => e = .returned (.string (strOfNums (parZ (numsOf s)))) ∧ Below w.heap.size w w' := by
  have hb := lastF_bd (numsOf s) (numsOf s).length
  rw [numsOf_length] at hb
  obtain ⟨L, hL⟩ := named (lastZ (numsOf s))
  have hb' : -1 ≤ L ∧ L < s.size := by rw [hL.out]; unfold lastZ; rw [numsOf_length]; exact hb
  obtain ⟨b1, b2⟩ := hb'
  have HS := Lib.hid hs
  unfold maxLen at hs
  clear hb
  by_cases h0 : L < 0
  · have e : parZ (numsOf s) = [] := by unfold parZ; rw [← hL.out, if_pos h0]
    rw [e]
    go_enter Tryd.func27, Tryd.ntmps27
    go_wp2_with fail
    refine (plast s w HS.out).mono ?_; rintro e w1 ⟨rfl, rfl⟩
    rw [← hL.out]
    go_wp2_with fail
    go_ret
    exact ⟨rfl, Below.refl _ _⟩
  · obtain ⟨k, rfl⟩ : ∃ k : Nat, L = k := ⟨L.toNat, by omega⟩
    have e : parZ (numsOf s) = (numsOf s).take k := by unfold parZ; rw [← hL.out, if_neg h0]; rfl
    rw [e]
    go_enter Tryd.func27, Tryd.ntmps27
    go_wp2_with fail
    refine (plast s w HS.out).mono ?_; rintro e w1 ⟨rfl, rfl⟩
    rw [← hL.out]
    go_wp2_with fail
    go_ret
    exact ⟨by show Ending.returned (.string (s.extract 0 k)) = _; rw [ext_str]; rfl, Below.refl _ _⟩

end Go.Proofs.YtinmkgpmoclcoaaDoor.Pnm
/-
  Layer 13: the program's checkTogether.
-/
namespace Go.Proofs.YtinmkgpmoclcoaaDoor.Tre
open Go.RowKit Go.MapKept Go.Proofs.YtinmkgpmoclcoaaDoor.Fit Pnm

set_option maxRecDepth 100000 in
set_option maxHeartbeats 8000000 in
theorem ptog_any (a : Option Addr) (n cap : Nat) (ys : List NdS) (w : World) (ha : ArgNds w a n cap ys) (HO : ∀ j, j < n → oneE (nd (nds ys) j) = 0) :
    Calls Tryd.prog 40 #[.slice a n cap] w fun e w' => e = .returned (.tuple #[.int .i64 (chk (nds ys)).1, .int .i64 (chk (nds ys)).2]) ∧ Below w.heap.size w w' := by
  have HA := Lib.hid ha
  have NZ := Lib.hid zNd
  have NO := Lib.hid ndT
  have ZI : Hid ((Tryd.prog.info? 3).map (·.zero) = some (some (.int .i64 0))) := by show _ = _; kernel_rfl
  have ZB : Hid ((Tryd.prog.info? 4).map (·.zero) = some (some (.bool false))) := by show _ = _; kernel_rfl
  have UMS := Lib.hid Tryd.underlying58
  have UMI := Lib.hid Tryd.underlying86
  have UMB := Lib.hid Tryd.underlying57
  have UKS := Lib.hid Tryd.underlying9
  have UKI := Lib.hid Tryd.underlying3
  have hn : n ≤ maxLen := Nat.le_trans ha.c ha.m
  have HN : Hid (ys.length = n) := ha.n
  have HL : Hid ((nds ys).length = n) := by show _ = _; rw [nds_len]; exact ha.n
  obtain ⟨X1, hX1⟩ := named (chk (nds ys)).1
  obtain ⟨X2, hX2⟩ := named (chk (nds ys)).2
  have FIN : Hid (∀ j R : Int, ∀ i : Nat, j = i → i < n → (∀ k, k < i → togE (nds ys) k = 0) → R = togE (nds ys) i → R ≠ 0 → X1 = j ∧ X2 = R) := fun j R i hj hi hp hR h0 => by
    have := chk_tog (l := nds ys) (i := i) (fun k hk => HO k (by rw [← HL.out]; exact hk)) (by rw [HL.out]; exact hi) hp (by rw [← hR]; exact h0)
    rw [hX1.out, hX2.out, this, hj, hR]; exact ⟨rfl, rfl⟩
  have END : Hid ((∀ k, k < n → togE (nds ys) k = 0) → X1 = n ∧ X2 = 0) := fun h => by
    have := chk_fine (l := nds ys) (fun k hk => HO k (by rw [← HL.out]; exact hk)) (fun k hk => h k (by rw [← HL.out]; exact hk))
    rw [hX1.out, hX2.out, this, HL.out]; exact ⟨rfl, rfl⟩
  have CLS : Hid (∀ j, j < n → 0 ≤ (nd (nds ys) j).c) := fun j hj => (one_c (HO j hj)).1
  rw [← hX1.out, ← hX2.out]
  unfold maxLen at hn
  clear ha HO hX1 hX2
  go_enter Tryd.func40, Tryd.ntmps40
  go_wp2_with fail
  refine (firstsP_any a n cap ys w HA.out).mono ?_; rintro e w1 ⟨g1, N1, rfl, m1, s1, b1⟩
  have M1 := Lib.hid m1; have B1 := Lib.hid b1; have HA1 := Lib.hid (HA.out.below b1)
  clear m1 b1 s1
  go_wp2_with fail
  refine (firstsC_any a n cap ys w1 HA1.out).mono ?_; rintro e w2 ⟨g2, N2, rfl, m2, s2, b2⟩
  have M2 := Lib.hid m2; have M12 := Lib.hid (M1.out.below b2 M1.out.lt); have B2 := Lib.hid (belT B1.out b2); have HA2 := Lib.hid (HA1.out.below b2)
  clear m2 b2 s2
  go_wp2_with fail
  refine (dirs_any a n cap ys w2 HA2.out).mono ?_; rintro e w3 ⟨g3, N3, rfl, m3, s3, b3⟩
  have P3 := Lib.hid (M12.out.below b3 M12.out.lt); have C3 := Lib.hid (M2.out.below b3 M2.out.lt); have D3 := Lib.hid m3; have B3 := Lib.hid (belT B2.out b3); have HA3 := Lib.hid (HA2.out.below b3)
  clear m3 b3 s3 M1 M2 M12 HA HA1 HA2 B1 B2
  go_wp2_with fail
  go_loopw [18] (fun i wr => ∃ j : Nat, i = .int .i64 j ∧ j ≤ n ∧ (∀ k, k < j → togE (nds ys) k = 0) ∧ Below w3.heap.size w3 wr) (fun i _ => n - (intOf i).toNat)
  case atStart => exact ⟨0, rfl, Nat.zero_le _, fun k hk => absurd hk (Nat.not_lt_zero k), Below.refl _ _⟩
  case round =>
    obtain ⟨j, rfl, hj, hp, hB⟩ := hrel
    have HP := Lib.hid hp; have HB := Lib.hid hB
    have BW := Lib.hid (belT B3.out hB)
    clear hp hB
    by_cases hjn : j < n
    · obtain ⟨b, off, y, rfl, hb, hy, hf, hat⟩ := HA3.out.get j hjn
      have hat' := hat.below HB.out hb
      obtain ⟨c0, c1, c2, c3, c4, c5⟩ := hat'.c hy
      obtain ⟨I0, i1, i2, i3⟩ := dup_has (ys := ys) hjn
      obtain ⟨J0, j1, j2, j3⟩ := odd_has (ys := ys) (j := j) (by rw [HN.out]; exact hjn)
      rw [HN.out] at j2
      obtain ⟨b', off', z, e', hb', hz, hfz, hatz⟩ := HA3.out.get J0 (Nat.lt_of_le_of_lt j1 hjn)
      cases e'
      have AT := Lib.hid hat; have FY := Lib.hid hf; have FZ := Lib.hid hfz; have HZ := Lib.hid hz
      have EY : Hid (nd (nds ys) j = y.n) := nd_y hy
      have EZ : Hid (nd (nds ys) J0 = z.n) := nd_y hz
      have E0 : Hid (pk ys j = .string y.n.p ∧ ck ys j = .int .i64 y.n.c) := ⟨by unfold pk; rw [EY.out], by unfold ck; rw [EY.out]⟩
      have c00 : Hid (0 ≤ y.n.c) := by show _ ≤ _; rw [← EY.out]; exact CLS.out j hjn
      have HPS : Hid (y.n.p.size ≤ 140737488355328) := hf.p
      have LP := Lib.hid i2; have LC := Lib.hid j2; have DUP := Lib.hid i3; have ODD := Lib.hid j3
      have PAR := Lib.hid (par_has (ys := ys) (x := nd (nds ys) j))
      obtain ⟨T1, T2, T3, T4⟩ := tog_by (l := nds ys) (i := j) rfl
      have TG := Lib.hid (And.intro T1 (And.intro T2 (And.intro T3 T4)))
      clear hat hat' hatz hf hfz hy hz i2 i3 j2 j3 T1 T2 T3 T4
      have JN : Hid (J0 < n) := Nat.lt_of_le_of_lt j1 hjn
      have I0J : Hid (I0 ≤ j) := i1
      clear i1 j1 hb'
      obtain ⟨⟨k, p, m, t, d, c⟩, x, xc⟩ := y
      have HBND := Lib.hid hb
      obtain ⟨L, hL⟩ := named d.length
      have c4' : wr.cell? ⟨b, off + j * 6 + 4, none⟩ = some (.slice x L xc) := by rw [hL.out]; exact c4
      clear c4 hb
      have jn : (j : Int) < n := by omega
      go_wp2_with (first | (refine wpList_alloc_obj rfl 55 rfl (ndL 0 emp 0 emp none 0 0 0) NZ.out ?_; intro w4 g4 b4; have G4 := Lib.hid g4; have K4 := Lib.hid (HB.out.trans (b4.mono HB.out.size)); clear g4 b4 c0 c1 c2 c3 c4' c5) | (refine wpList_store_obj rfl 55 _ _ rfl wr.heap.size rfl (ndL k p m t x L xc c) (ndL 0 emp 0 emp none 0 0 0) rfl 55 G4.out NO.out.2 rfl (nd_one _ _ _ _ _ _ _ _) ?_; intro w5 g5 t5; have G5 := Lib.hid g5; have K5 := Lib.hid (K4.out.trans (t5.below HB.out.size)); have c1 := g5.get 1 rfl; clear g5 t5))
      refine (pparent p w5 (Nat.le_trans HPS.out (by decide))).mono ?_; rintro e w6 ⟨rfl, b6⟩
      obtain ⟨PS, hPS⟩ := named (strOfNums (parZ (numsOf p)))
      rw [← hPS.out]
      have G6 := Lib.hid (G5.out.below b6 G5.out.lt)
      have K6 := Lib.hid (K5.out.trans (b6.mono K5.out.size))
      have c1 := G6.out.get 1 rfl
      have c5 := G6.out.get 5 rfl
      clear b6
      have lp := (run_lookF (P := Tryd.prog) (w := w6) 58 9 3 UMS.out .string UKS.out (.int .i64 0) ZI.out g1 N1 (.string p) (show IsKey .string (.string p) from trivial) (fk (pk ys) n) (P3.out.below K6.out P3.out.lt)).2
      rw [show fk (pk ys) n (.string p) = some (.int .i64 I0) from by have := LP.out; rw [E0.out.1] at this; exact this] at lp
      simp only [Option.getD_some] at lp
      have BW6 := Lib.hid (belT B3.out K6.out)
      by_cases hD : I0 = j
      · subst hD
        have NDU : Hid (¬ Dup (nds ys) I0) := fun h => DUP.out.mpr h rfl
        have PAR' : Hid (Par (nds ys) (nd (nds ys) I0) ↔ PS = emp ∨ ∃ i, i < n ∧ kk ys i = 0 ∧ pk ys i = .string PS) := by
          show _ ↔ _
          rw [PAR.out, HN.out, hPS.out, EY.out]; exact Iff.rfl
        clear DUP PAR
        obtain ⟨PB, hPB⟩ : ∃ PB : Bool, (dk (kk ys) (pk ys) n (.string PS)).getD (.bool false) = .bool PB ∧ (PB = true ↔ ∃ i, i < n ∧ kk ys i = 0 ∧ pk ys i = .string PS) := by
          rw [dk_eq]
          by_cases h : ∃ i, i < n ∧ kk ys i = 0 ∧ pk ys i = .string PS
          · rw [if_pos h]; exact ⟨true, rfl, fun _ => h, fun _ => rfl⟩
          · rw [if_neg h]; exact ⟨false, rfl, (fun e => absurd e (by decide)), fun e => absurd e h⟩
        have ld := (run_lookF (P := Tryd.prog) (w := w6) 57 9 4 UMB.out .string UKS.out (.bool false) ZB.out g3 N3 (.string PS) (show IsKey .string (.string PS) from trivial) (dk (kk ys) (pk ys) n) (D3.out.below K6.out D3.out.lt)).2
        rw [hPB.1] at ld
        have HPB := Lib.hid hPB.2
        clear hPB hPS
        have ways : Hid ((PS = emp ∨ (PB = true ∧ ¬ PS = emp)) ∨ (PB = false ∧ ¬ PS = emp)) := by
          show _ ∨ _
          by_cases h : PS = emp
          · exact .inl (.inl h)
          · cases PB with
            | true => exact .inl (.inr ⟨rfl, h⟩)
            | false => exact .inr ⟨rfl, h⟩
        rcases ways.out with hgood | ⟨rfl, hne⟩
        · have PYES : Hid (Par (nds ys) (nd (nds ys) I0)) := PAR'.out.mpr (hgood.imp id fun h => HPB.out.mp h.1)
          clear PAR' HPB ways
          rcases hgood with rfl | ⟨rfl, hne⟩
          · clear ld
            by_cases hc : c = 0
            · subst hc
              have T0 : Hid (togE (nds ys) I0 = 0) := TG.out.2.2.2 NDU.out PYES.out fun ⟨h, _⟩ => h (by rw [EY.out])
              clear FIN END
              go_wp2_with fail
              refine wp_region_class (S := fun w' => Below w6.heap.size w6 w') (by kernel_rfl) (by kernel_rfl) (Below.refl _ _).drew ?_
              intro hne'
              have c5q : ∀ q : Of (fun w' => Below w6.heap.size w6 w'), q.w.cell? ⟨wr.heap.size, 5, none⟩ = some (.int .i64 0) := fun q => (G6.out.below q.h G6.out.lt).get 5 rfl
              clear c5
              repeat (go_big_quiet_step (fail))
              refine wpQuiet_nil ?_
              rintro wq ⟨q, rfl⟩
              go_wp2
              go_round
              case rel => exact ⟨I0 + 1, by go_num, by omega, fun k hk => by
                by_cases h : k < I0
                · exact HP.out k h
                · obtain rfl : k = I0 := by omega
                  exact T0.out, belT K6.out q.h⟩
              case measure => simp [intOf]; omega
            · have cp : (0 : Int) < c := by have : 0 ≤ c := c00.out; omega
              obtain ⟨B, hBB⟩ := named (decide (m = z.n.m ∧ d = z.n.d))
              have SF : Hid (∀ w', Below w6.heap.size w6 w' → Calls Tryd.prog 62 #[.agg (ndL k p m t x L xc c).toArray, .agg (ndV z).toArray] w' fun e w'' => e = .returned (.bool B) ∧ Below w'.heap.size w' w'') := fun w' hb => by
                rw [hBB.out, hL.out]
                exact sameFile_any ⟨⟨k, p, m, t, d, c⟩, x, xc⟩ z w' (FY.out.below (belT K6.out hb)) (FZ.out.below (belT K6.out hb))
              have OD : Hid (Odd (nds ys) (nd (nds ys) I0) ↔ B = false) := by
                show _ ↔ _
                rw [ODD.out (by rw [EY.out]; exact hc), EZ.out, EY.out, hBB.out, decide_eq_false_iff_not]
              have zq : ∀ (q : Of (fun w' => Below w6.heap.size w6 w')), ∀ i v, (ndV z)[i]? = some v → q.w.cell? ⟨b, off + J0 * 6 + i, none⟩ = some v := fun q i v hv => (AT.out.below (belT K6.out q.h) HBND.out) J0 z HZ.out i v hv
              obtain ⟨⟨k', p', m', t', d', c'⟩, x', xc'⟩ := z
              obtain ⟨L', hL'⟩ := named d'.length
              have SF' : Hid (∀ w', Below w6.heap.size w6 w' → Calls Tryd.prog 62 #[.agg (ndL k p m t x L xc c).toArray, .agg (ndL k' p' m' t' x' L' xc' c').toArray] w' fun e w'' => e = .returned (.bool B) ∧ Below w'.heap.size w' w'') := by rw [hL'.out]; exact SF.out
              have z0 := fun q => zq q 0 _ rfl
              have z1 := fun q => zq q 1 _ rfl
              have z2 := fun q => zq q 2 _ rfl
              have z3 := fun q => zq q 3 _ rfl
              have z4 := fun q => zq q 4 _ rfl
              have z5 := fun q => zq q 5 _ rfl
              have z4' : ∀ q : Of (fun w' => Below w6.heap.size w6 w'), q.w.cell? ⟨b, off + J0 * 6 + 4, none⟩ = some (.slice x' L' xc') := fun q => by rw [hL'.out]; exact z4 q
              have z0' : ∀ q : Of (fun w' => Below w6.heap.size w6 w'), q.w.cell? ⟨b, off + J0 * 6, none⟩ = some (.int .i64 k') := fun q => z0 q
              have y0 : ∀ q : Of (fun w' => Below w6.heap.size w6 w'), q.w.cell? ⟨wr.heap.size, 0, none⟩ = some (.int .i64 k) := fun q => (G6.out.below q.h G6.out.lt).get 0 rfl
              have y1 : ∀ q : Of (fun w' => Below w6.heap.size w6 w'), q.w.cell? ⟨wr.heap.size, 1, none⟩ = some (.string p) := fun q => (G6.out.below q.h G6.out.lt).get 1 rfl
              have y2 : ∀ q : Of (fun w' => Below w6.heap.size w6 w'), q.w.cell? ⟨wr.heap.size, 2, none⟩ = some (.int .i64 m) := fun q => (G6.out.below q.h G6.out.lt).get 2 rfl
              have y3 : ∀ q : Of (fun w' => Below w6.heap.size w6 w'), q.w.cell? ⟨wr.heap.size, 3, none⟩ = some (.string t) := fun q => (G6.out.below q.h G6.out.lt).get 3 rfl
              have y4 : ∀ q : Of (fun w' => Below w6.heap.size w6 w'), q.w.cell? ⟨wr.heap.size, 4, none⟩ = some (.slice x L xc) := fun q => (G6.out.below q.h G6.out.lt).get 4 rfl
              have y5 : ∀ q : Of (fun w' => Below w6.heap.size w6 w'), q.w.cell? ⟨wr.heap.size, 5, none⟩ = some (.int .i64 c) := fun q => (G6.out.below q.h G6.out.lt).get 5 rfl
              have lc : ∀ q : Of (fun w' => Below w6.heap.size w6 w'), (Instr.lookup 86 (.map (some g2)) (.int .i64 c) false).run Tryd.prog q.w = .ok (.int .i64 J0) q.w := fun q => by
                have lq := (run_lookF (P := Tryd.prog) (w := q.w) 86 3 3 UMI.out (.int .i64) UKI.out (.int .i64 0) ZI.out g2 N2 (.int .i64 c) (show IsKey (.int .i64) (.int .i64 c) from rfl) (fk (ck ys) n) (C3.out.below (belT K6.out q.h) C3.out.lt)).2
                rw [show fk (ck ys) n (.int .i64 c) = some (.int .i64 J0) from by have := LC.out; rw [E0.out.2] at this; exact this] at lq
                exact lq
              have jn' : (J0 : Int) < n := by have := JN.out; omega
              clear zq z0 z4 SF hL hL' hBB c5 ODD EZ AT FY FZ HZ LC hc JN
              cases B with
              | true =>
                have T0 : Hid (togE (nds ys) I0 = 0) := TG.out.2.2.2 NDU.out PYES.out fun h => by have := OD.out.mp h; cases this
                clear FIN END OD
                go_wp2_with fail
                refine wp_region_class (S := fun w' => Below w6.heap.size w6 w') (by kernel_rfl) (by kernel_rfl) (Below.refl _ _).drew ?_
                intro hne'
                repeat (go_big_quiet_step ((go_at_call 62; exact Calls.in_classS (SF'.out) fun w' hb q => q.trans (hb.mono q.size))))
                refine wpQuiet_nil ?_
                rintro wq ⟨q, rfl⟩
                go_wp2
                go_round
                case rel => exact ⟨I0 + 1, by go_num, by omega, fun k hk => by
                  by_cases h : k < I0
                  · exact HP.out k h
                  · obtain rfl : k = I0 := by omega
                    exact T0.out, belT K6.out q.h⟩
                case measure => simp [intOf]; omega
              | false =>
                obtain ⟨q1, q2⟩ := FIN.out I0 15 I0 rfl hjn HP.out (TG.out.2.2.1 NDU.out PYES.out (OD.out.mpr rfl)).symm (by decide)
                subst q1 q2
                clear FIN END OD
                go_wp2_with fail
                refine wp_region_class (S := fun w' => Below w6.heap.size w6 w') (by kernel_rfl) (by kernel_rfl) (Below.refl _ _).drew ?_
                intro hne'
                repeat (go_big_quiet_step ((go_at_call 62; exact Calls.in_classS (SF'.out) fun w' hb q => q.trans (hb.mono q.size))))
                refine wpQuiet_nil ?_
                rintro wq ⟨q, rfl⟩
                go_wp2
                go_ret2
                exact ⟨rfl, BW6.out.trans (q.h.mono BW6.out.size)⟩
          · have hi := empty_no hne
            clear hne
            by_cases hc : c = 0
            · subst hc
              have T0 : Hid (togE (nds ys) I0 = 0) := TG.out.2.2.2 NDU.out PYES.out fun ⟨h, _⟩ => h (by rw [EY.out])
              clear FIN END
              go_wp2_with fail
              refine wp_region_class (S := fun w' => Below w6.heap.size w6 w') (by kernel_rfl) (by kernel_rfl) (Below.refl _ _).drew ?_
              intro hne'
              have c5q : ∀ q : Of (fun w' => Below w6.heap.size w6 w'), q.w.cell? ⟨wr.heap.size, 5, none⟩ = some (.int .i64 0) := fun q => (G6.out.below q.h G6.out.lt).get 5 rfl
              clear c5
              repeat (go_big_quiet_step (fail))
              refine wpQuiet_nil ?_
              rintro wq ⟨q, rfl⟩
              go_wp2
              go_round
              case rel => exact ⟨I0 + 1, by go_num, by omega, fun k hk => by
                by_cases h : k < I0
                · exact HP.out k h
                · obtain rfl : k = I0 := by omega
                  exact T0.out, belT K6.out q.h⟩
              case measure => simp [intOf]; omega
            · have cp : (0 : Int) < c := by have : 0 ≤ c := c00.out; omega
              obtain ⟨B, hBB⟩ := named (decide (m = z.n.m ∧ d = z.n.d))
              have SF : Hid (∀ w', Below w6.heap.size w6 w' → Calls Tryd.prog 62 #[.agg (ndL k p m t x L xc c).toArray, .agg (ndV z).toArray] w' fun e w'' => e = .returned (.bool B) ∧ Below w'.heap.size w' w'') := fun w' hb => by
                rw [hBB.out, hL.out]
                exact sameFile_any ⟨⟨k, p, m, t, d, c⟩, x, xc⟩ z w' (FY.out.below (belT K6.out hb)) (FZ.out.below (belT K6.out hb))
              have OD : Hid (Odd (nds ys) (nd (nds ys) I0) ↔ B = false) := by
                show _ ↔ _
                rw [ODD.out (by rw [EY.out]; exact hc), EZ.out, EY.out, hBB.out, decide_eq_false_iff_not]
              have zq : ∀ (q : Of (fun w' => Below w6.heap.size w6 w')), ∀ i v, (ndV z)[i]? = some v → q.w.cell? ⟨b, off + J0 * 6 + i, none⟩ = some v := fun q i v hv => (AT.out.below (belT K6.out q.h) HBND.out) J0 z HZ.out i v hv
              obtain ⟨⟨k', p', m', t', d', c'⟩, x', xc'⟩ := z
              obtain ⟨L', hL'⟩ := named d'.length
              have SF' : Hid (∀ w', Below w6.heap.size w6 w' → Calls Tryd.prog 62 #[.agg (ndL k p m t x L xc c).toArray, .agg (ndL k' p' m' t' x' L' xc' c').toArray] w' fun e w'' => e = .returned (.bool B) ∧ Below w'.heap.size w' w'') := by rw [hL'.out]; exact SF.out
              have z0 := fun q => zq q 0 _ rfl
              have z1 := fun q => zq q 1 _ rfl
              have z2 := fun q => zq q 2 _ rfl
              have z3 := fun q => zq q 3 _ rfl
              have z4 := fun q => zq q 4 _ rfl
              have z5 := fun q => zq q 5 _ rfl
              have z4' : ∀ q : Of (fun w' => Below w6.heap.size w6 w'), q.w.cell? ⟨b, off + J0 * 6 + 4, none⟩ = some (.slice x' L' xc') := fun q => by rw [hL'.out]; exact z4 q
              have z0' : ∀ q : Of (fun w' => Below w6.heap.size w6 w'), q.w.cell? ⟨b, off + J0 * 6, none⟩ = some (.int .i64 k') := fun q => z0 q
              have y0 : ∀ q : Of (fun w' => Below w6.heap.size w6 w'), q.w.cell? ⟨wr.heap.size, 0, none⟩ = some (.int .i64 k) := fun q => (G6.out.below q.h G6.out.lt).get 0 rfl
              have y1 : ∀ q : Of (fun w' => Below w6.heap.size w6 w'), q.w.cell? ⟨wr.heap.size, 1, none⟩ = some (.string p) := fun q => (G6.out.below q.h G6.out.lt).get 1 rfl
              have y2 : ∀ q : Of (fun w' => Below w6.heap.size w6 w'), q.w.cell? ⟨wr.heap.size, 2, none⟩ = some (.int .i64 m) := fun q => (G6.out.below q.h G6.out.lt).get 2 rfl
              have y3 : ∀ q : Of (fun w' => Below w6.heap.size w6 w'), q.w.cell? ⟨wr.heap.size, 3, none⟩ = some (.string t) := fun q => (G6.out.below q.h G6.out.lt).get 3 rfl
              have y4 : ∀ q : Of (fun w' => Below w6.heap.size w6 w'), q.w.cell? ⟨wr.heap.size, 4, none⟩ = some (.slice x L xc) := fun q => (G6.out.below q.h G6.out.lt).get 4 rfl
              have y5 : ∀ q : Of (fun w' => Below w6.heap.size w6 w'), q.w.cell? ⟨wr.heap.size, 5, none⟩ = some (.int .i64 c) := fun q => (G6.out.below q.h G6.out.lt).get 5 rfl
              have lc : ∀ q : Of (fun w' => Below w6.heap.size w6 w'), (Instr.lookup 86 (.map (some g2)) (.int .i64 c) false).run Tryd.prog q.w = .ok (.int .i64 J0) q.w := fun q => by
                have lq := (run_lookF (P := Tryd.prog) (w := q.w) 86 3 3 UMI.out (.int .i64) UKI.out (.int .i64 0) ZI.out g2 N2 (.int .i64 c) (show IsKey (.int .i64) (.int .i64 c) from rfl) (fk (ck ys) n) (C3.out.below (belT K6.out q.h) C3.out.lt)).2
                rw [show fk (ck ys) n (.int .i64 c) = some (.int .i64 J0) from by have := LC.out; rw [E0.out.2] at this; exact this] at lq
                exact lq
              have jn' : (J0 : Int) < n := by have := JN.out; omega
              clear zq z0 z4 SF hL hL' hBB c5 ODD EZ AT FY FZ HZ LC hc JN
              cases B with
              | true =>
                have T0 : Hid (togE (nds ys) I0 = 0) := TG.out.2.2.2 NDU.out PYES.out fun h => by have := OD.out.mp h; cases this
                clear FIN END OD
                go_wp2_with fail
                refine wp_region_class (S := fun w' => Below w6.heap.size w6 w') (by kernel_rfl) (by kernel_rfl) (Below.refl _ _).drew ?_
                intro hne'
                repeat (go_big_quiet_step ((go_at_call 62; exact Calls.in_classS (SF'.out) fun w' hb q => q.trans (hb.mono q.size))))
                refine wpQuiet_nil ?_
                rintro wq ⟨q, rfl⟩
                go_wp2
                go_round
                case rel => exact ⟨I0 + 1, by go_num, by omega, fun k hk => by
                  by_cases h : k < I0
                  · exact HP.out k h
                  · obtain rfl : k = I0 := by omega
                    exact T0.out, belT K6.out q.h⟩
                case measure => simp [intOf]; omega
              | false =>
                obtain ⟨q1, q2⟩ := FIN.out I0 15 I0 rfl hjn HP.out (TG.out.2.2.1 NDU.out PYES.out (OD.out.mpr rfl)).symm (by decide)
                subst q1 q2
                clear FIN END OD
                go_wp2_with fail
                refine wp_region_class (S := fun w' => Below w6.heap.size w6 w') (by kernel_rfl) (by kernel_rfl) (Below.refl _ _).drew ?_
                intro hne'
                repeat (go_big_quiet_step ((go_at_call 62; exact Calls.in_classS (SF'.out) fun w' hb q => q.trans (hb.mono q.size))))
                refine wpQuiet_nil ?_
                rintro wq ⟨q, rfl⟩
                go_wp2
                go_ret2
                exact ⟨rfl, BW6.out.trans (q.h.mono BW6.out.size)⟩
        · have PNO : Hid (¬ Par (nds ys) (nd (nds ys) I0)) := fun h => by
            rcases PAR'.out.mp h with h | h
            · exact hne h
            · have := HPB.out.mpr h; cases this
          have hi := empty_no hne
          obtain ⟨q1, q2⟩ := FIN.out I0 13 I0 rfl hjn HP.out (TG.out.2.1 NDU.out PNO.out).symm (by decide)
          subst q1 q2
          clear PAR' HPB ways hne FIN END
          go_wp2_with fail
          go_ret2
          exact ⟨rfl, BW6.out⟩
      · have hd : ((I0 : Int) != (j : Int)) = true := by simp; omega
        obtain ⟨q1, q2⟩ := FIN.out j 14 j rfl hjn HP.out (TG.out.1 (DUP.out.mp hD)).symm (by decide)
        subst q1 q2
        clear FIN END hD
        go_wp2_with fail
        go_ret2
        exact ⟨rfl, BW6.out⟩
    · obtain rfl : j = n := by omega
      obtain ⟨q1, q2⟩ := END.out HP.out
      subst q1 q2
      clear FIN END
      go_wp2
      go_ret2
      exact ⟨rfl, BW.out⟩
end Go.Proofs.YtinmkgpmoclcoaaDoor.Tre
/-
  Layer 9: the package-level variables that the calls read: the powers of ten, the permitted keys.
-/
namespace Go.Proofs.YtinmkgpmoclcoaaDoor.Pxr
open Go.RowKit

/-- An array of strings that reads as these holds them, cell for cell. -/
theorem cells_of_strs {H : Type} {enc : TypeId × Value → H} {P : Program} {w : World} {base : Nat} {sp : Nat → Bool} {held : Bool} {fuel : Nat} {t e : TypeId} {n : Nat} {cs : List Value} {zs : List (List UInt8)} {p : List MemPlace}
    (ht : P.underlying t = some (.array n e)) (he : P.underlying e = some .string) (hce : P.cellsOf e = 1) (hct : P.cellsOf t = n)
    (h : DataW.trod enc P w base sp held fuel t cs = some (.agg (zs.map fun z => .lit (.string z)), p)) : cs = zs.map fun z => Value.string ⟨z.toArray⟩ := by
  cases fuel with
  | zero => simp [DataW.trod] at h
  | succ fuel =>
    simp only [DataW.trod, ht, hce, hct, Nat.mul_one] at h
    split at h
    · rename_i hl
      obtain ⟨xs, hm, hx⟩ := Option.map_eq_some_iff.1 h
      have hxs : xs.map (·.1) = zs.map fun z => (DataW.lit (.string z) : DataW H) := by
        have := congrArg Prod.fst hx
        simpa using this
      have hxl : xs.length = n := by simpa using Lib.mapM_length hm
      have hzl : zs.length = n := by
        have := congrArg List.length hxs
        simp at this
        omega
      apply List.ext_getElem?
      intro i
      by_cases hi : i < n
      · obtain ⟨b, hb, hf⟩ := Lib.mapM_at hm i i (by simp [hi])
        obtain ⟨z, hc, rfl, _⟩ := DataW.trod_string he hf
        have h1 : cs[i]? = some (.string z) := by
          have := congrArg (·[0]?) hc
          simpa [List.getElem?_take, List.getElem?_drop] using this
        have h2 : (xs.map (·.1))[i]? = some (DataW.lit (.string z.data.toList) : DataW H) := by simp [hb]
        rw [hxs] at h2
        simp only [List.getElem?_map, Option.map_eq_some_iff, DataW.lit.injEq, Lit.string.injEq] at h2
        obtain ⟨z', hz', e⟩ := h2
        subst e
        simp [h1, hz']
      · rw [List.getElem?_eq_none (by omega), List.getElem?_eq_none (by simp; omega)]
    · cases h

/-- WHAT A WALK IS TOLD OF THE VARIABLES -/
structure Vars (w : World) : Prop where
  k0 : w.cell? ⟨1, 0, none⟩ = some (.string kLink)
  k1 : w.cell? ⟨1, 1, none⟩ = some (.string kPath)
  k2 : w.cell? ⟨1, 2, none⟩ = some (.string kSize)

theorem cell_lt {w : World} {b o : Nat} {v : Value} (h : w.cell? ⟨b, o, none⟩ = some v) : b < w.heap.size := by
  rcases Nat.lt_or_ge b w.heap.size with h' | h'
  · exact h'
  · rw [World.cell?] at h
    simp [Array.getElem?_eq_none h'] at h

theorem Vars.below {w w' : World} {B : Nat} (h : Vars w) (hb : Below B w w') (hB : w.heap.size ≤ B) : Vars w' := by
  have l0 := cell_lt h.k0
  have l1 : 1 < B := Nat.lt_of_lt_of_le l0 hB
  exact ⟨(hb.cell (p := ⟨1, 0, none⟩) l1).trans h.k0, (hb.cell (p := ⟨1, 1, none⟩) l1).trans h.k1, (hb.cell (p := ⟨1, 2, none⟩) l1).trans h.k2⟩

theorem Vars.go {w w' : World} (h : Vars w) (hb : Below w.heap.size w w') : Vars w' := h.below hb (Nat.le_refl _)

/-- from what the row lists -/
theorem vars_of {W : World} (h : laidMetH Tryd.prog [("paxtar/paxrec.keys", Rows.laid_paxtar_paxrec_keys)] W)
    (hp : (([("paxtar/paxrec.keys", Rows.laid_paxtar_paxrec_keys)] : List (String × DataW Unit)).all fun x => x.2.handleName?.isNone) = true) : Vars W := by
  rw [MakeChecks.laidMetH_plain _ _ _ hp] at h
  have h2 := h
  obtain ⟨ps, ⟨g', t', cs, fuel, p, q, hg', ht', hvar, hd, _, _⟩, _⟩ := h2
  obtain rfl := Option.some.inj ((by kernel_rfl : Tryd.prog.globalNamed "paxtar/paxrec.keys" = some 1).symm.trans hg')
  obtain rfl := Option.some.inj ((by kernel_rfl : (Tryd.prog.globals[1]?).map (·.type) = some 104).symm.trans ht')
  have hcs := cells_of_strs (zs := [[108, 105, 110, 107, 112, 97, 116, 104], [112, 97, 116, 104], [115, 105, 122, 101]]) Tryd.underlying104 Tryd.underlying9 (by kernel_rfl) (by kernel_rfl) hd
  have hcells := fun i => World.var?_cell (by kernel_rfl : Tryd.prog.globalNamed "paxtar/paxrec.keys" = some 1) hvar i
  have hc : ∀ i, cs[i]? = cs.toList[i]? := fun i => Array.getElem?_toList.symm
  refine ⟨?_, ?_, ?_⟩
  · rw [hcells, hc, hcs]; rfl
  · rw [hcells, hc, hcs]; rfl
  · rw [hcells, hc, hcs]; rfl
end Go.Proofs.YtinmkgpmoclcoaaDoor.Pxr
/-
  Layer 10: the package-level variables that the calls read: besides those of layer 9 the header types, and the two errors of strconv.
-/
namespace Go.Proofs.YtinmkgpmoclcoaaDoor.Fit
open Go.RowKit Pxr

/-- what Check reads -/
structure FVars (w : World) : Prop where
  v : Vars w
theorem FVars.below {w w' : World} {B : Nat} (h : FVars w) (hb : Below B w w') (hB : w.heap.size ≤ B) : FVars w' := ⟨h.v.below hb hB⟩
theorem FVars.go {w w' : World} (h : FVars w) (hb : Below w.heap.size w w') : FVars w' := h.below hb (Nat.le_refl _)
end Go.Proofs.YtinmkgpmoclcoaaDoor.Fit
/-
  Layer 9: strconv.Itoa.
-/
namespace Go.Proofs.YtinmkgpmoclcoaaDoor.Pxr
open Go.RowKit

end Go.Proofs.YtinmkgpmoclcoaaDoor.Pxr
/-
  Layer 14: the reference's least.
-/
namespace Go.Proofs.YtinmkgpmoclcoaaDoor.Flt
open Go.RowKit Go.Proofs.YtinmkgpmoclcoaaDoor.Fit Pnm Tre

/-- node j is of node i's class -/
def Mt (C : List Nd) (i j : Nat) : Prop := 0 < (nd C i).c ∧ (nd C j).c = (nd C i).c
/-- the first node of the class of node i, if it has one -/
structure Lea (C : List Nd) (i b : Nat) : Prop where
  le : b ≤ i
  m : b < i → Mt C i b
  no : ∀ j, j < b → ¬ Mt C i j
theorem Lea.fr {C : List Nd} {i b : Nat} (h : Lea C i b) (hi : i < C.length) : (b = i → fr C i (nd C i).c = none) ∧ (b < i → fr C i (nd C i).c = some (nd C b)) := by
  have no : ∀ j, j < b → ¬ (0 < (nd C j).c ∧ (nd C j).c = (nd C i).c) := fun j hj hm => h.no j hj ⟨by omega, hm.2⟩
  constructor
  · rintro rfl
    exact (fr_none (Nat.le_of_lt hi)).mpr no
  · intro hb
    have hm := h.m hb
    unfold Mt at hm
    exact fr_of (Nat.le_of_lt hi) hb (by omega) hm.2 ((fr_none (by omega)).mpr no)

set_option maxRecDepth 100000 in
set_option maxHeartbeats 8000000 in
theorem rleast_any (a : Option Addr) (n cap : Nat) (zs : List NdS) (i : Nat) (w : World) (ha : ArgNds w a n cap zs) (hC : Can (nds zs)) (hi : i < n) (h40 : n ≤ 1759218604441) :
    Calls Tryd.prog 43 #[.slice a n cap, .int .i64 (i : Int)] w fun e w' => ∃ b : Nat, e = .returned (.int .i64 (b : Int)) ∧ Lea (nds zs) i b ∧ Below w.heap.size w w' := by
  have HA := Lib.hid ha
  have CAN : Hid (Can (nds zs)) := hC
  have HI := Lib.hid hi
  have HN : Hid ((nds zs).length = n) := by show _ = _; rw [nds_len]; exact ha.n
  have nc : (n : Int) ≤ cap := by have := ha.c; omega
  have n40 : (n : Int) ≤ 1759218604441 := by omega
  have i1 : (i : Int) < n := by omega
  obtain ⟨b, off, yi, rfl, hb, hyi, hfi, hat⟩ := ha.get i hi
  have AT := Lib.hid hat; have BL := Lib.hid hb
  have EI : Hid (nd (nds zs) i = yi.n) := nd_y hyi
  have YI := Lib.hid fun (q : Of fun w' => Below w.heap.size w w') => (hat.below q.h hb).c hyi
  clear ha hC hi hb hyi hfi hat
  obtain ⟨ci, hci⟩ : ∃ ci, ci = yi.n.c := ⟨_, rfl⟩
  have CI : Hid ((nd (nds zs) i).c = ci) := by show _ = _; rw [EI.out, hci]
  have x5 : ∀ q : Of (fun w' => Below w.heap.size w w'), q.w.cell? ⟨b, off + i * 6 + 5, none⟩ = some (.int .i64 ci) := fun q => by rw [hci]; exact (YI.out q).2.2.2.2.2
  clear hci EI YI
  go_enter Tryd.func43, Tryd.ntmps43
  go_wp2_with fail
  go_loopw [6, 5] (fun s t wr => ∃ k u : Nat, s = .int .i64 k ∧ t = .int .i64 u ∧ k ≤ n ∧ u ≤ i ∧ (u < i → u < k ∧ Mt (nds zs) i u) ∧ (∀ j, j < k → j < u → ¬ Mt (nds zs) i j) ∧ Below w.heap.size w wr) (fun s _ _ => n - (intOf s).toNat)
  case atStart => exact ⟨0, i, rfl, rfl, Nat.zero_le _, Nat.le_refl _, fun h => absurd h (Nat.lt_irrefl _), fun j h => absurd h (Nat.not_lt_zero j), Below.refl _ _⟩
  case round =>
    obtain ⟨k, u, rfl, rfl, hk, hu, hm, hno, hW⟩ := hrel
    have HM := Lib.hid hm; have HNO := Lib.hid hno; have HW := Lib.hid hW; have HU := Lib.hid hu
    clear hm hno hW
    by_cases hkn : k < n
    · have k1 : (k : Int) < n := by omega
      have u1 : (u : Int) < n := by have := HI.out; omega
      have KN := Lib.hid hkn
      clear hkn hk hu
      obtain ⟨yk, hyk⟩ : ∃ y, zs[k]? = some y := ⟨_, List.getElem?_eq_getElem (by have := HN.out; rw [nds_len] at this; have := KN.out; omega)⟩
      obtain ⟨yu, hyu⟩ : ∃ y, zs[u]? = some y := ⟨_, List.getElem?_eq_getElem (by have := HN.out; rw [nds_len] at this; have := HU.out; have := HI.out; omega)⟩
      have EK : Hid (nd (nds zs) k = yk.n) := nd_y hyk
      have EU : Hid (nd (nds zs) u = yu.n) := nd_y hyu
      have YK := Lib.hid fun (q : Of fun w' => Below w.heap.size w w') => (AT.out.below q.h BL.out).c hyk
      have YU := Lib.hid fun (q : Of fun w' => Below w.heap.size w w') => (AT.out.below q.h BL.out).c hyu
      have PK := Lib.hid (Nat.le_trans (HA.out.s yk (List.mem_of_getElem? hyk)).p (show 140737488355328 ≤ maxLen by decide))
      clear hyk hyu
      obtain ⟨ck, hck⟩ : ∃ ck, ck = yk.n.c := ⟨_, rfl⟩
      obtain ⟨pk, hpk⟩ : ∃ pk, pk = yk.n.p := ⟨_, rfl⟩
      obtain ⟨pu, hpu⟩ : ∃ pu, pu = yu.n.p := ⟨_, rfl⟩
      have CK : Hid ((nd (nds zs) k).c = ck) := by show _ = _; rw [EK.out, hck]
      have PKK : Hid (key (nd (nds zs) k) = numsOf pk) := by show _ = _; rw [EK.out, hpk]; rfl
      have PUU : Hid (key (nd (nds zs) u) = numsOf pu) := by show _ = _; rw [EU.out, hpu]; rfl
      have k5 : ∀ q : Of (fun w' => Below w.heap.size w w'), q.w.cell? ⟨b, off + k * 6 + 5, none⟩ = some (.int .i64 ck) := fun q => by rw [hck]; exact (YK.out q).2.2.2.2.2
      have k2 : ∀ q : Of (fun w' => Below w.heap.size w w'), q.w.cell? ⟨b, off + k * 6 + 1, none⟩ = some (.string pk) := fun q => by rw [hpk]; exact (YK.out q).2.1
      have u2 : ∀ q : Of (fun w' => Below w.heap.size w w'), q.w.cell? ⟨b, off + u * 6 + 1, none⟩ = some (.string pu) := fun q => by rw [hpu]; exact (YU.out q).2.1
      have PKL : Hid (pk.size ≤ maxLen) := by show _ ≤ _; rw [hpk]; exact PK.out
      clear hck hpk hpu EK EU YK YU PK
      by_cases hc : 0 < ci
      · have d1 : decide (0 < ci) = true := decide_eq_true hc
        by_cases he : ck = ci
        · have ne : (ck == ci) = true := by simpa using he
          have MK : Hid (Mt (nds zs) i k) := ⟨by rw [CI.out]; exact hc, by rw [CK.out, CI.out, he]⟩
          obtain ⟨Z, hZ⟩ := named (cmpZ (numsOf pk) (numsOf pu))
          have RC : Hid (∀ q : World, Calls Tryd.prog 34 #[.string pk, .string pu] q fun e w' => e = .returned (.int .i64 Z) ∧ Below q.heap.size q w') := fun q => by rw [hZ.out]; exact rcmp_any pk pu q PKL.out
          have ZK : Hid (Z < 0 ↔ k < u) := by
            show _ ↔ _
            rw [hZ.out, ← PKK.out, ← PUU.out]
            rcases Nat.lt_trichotomy k u with l | l | l
            · have := CAN.out.lt l (by rw [HN.out]; have := HU.out; have := HI.out; omega)
              rw [this]; simp [l]
            · subst l; rw [(cmp_eq _ _).mpr rfl]; simp
            · have := CAN.out.lt l (by rw [HN.out]; exact KN.out)
              rw [cmp_neg, this]; simp; omega
          clear hZ he
          by_cases hku : k < u
          · have d2 : decide (Z < 0) = true := decide_eq_true (ZK.out.mpr hku)
            have z0 : Z < 0 := ZK.out.mpr hku
            go_wp2_with fail
            refine wp_region_class (S := fun w' => Below w.heap.size w w') (by kernel_rfl) (by kernel_rfl) HW.out.drew ?_
            intro hne'
            repeat (go_big_quiet_step ((go_at_call 34; exact Calls.in_class (RC.out _) fun w' hb q => q.trans (hb.mono q.size))))
            refine wpQuiet_nil ?_
            rintro wq ⟨q, rfl⟩
            go_wp2
            go_round
            case rel => exact ⟨k + 1, k, by go_num, rfl, by have := KN.out; omega, by have := HU.out; omega, fun _ => ⟨by omega, MK.out⟩, fun j hj hj' => HNO.out j hj' (by omega), q.h⟩
            case measure => simp [intOf]; have := KN.out; omega
          · have z0 : ¬ Z < 0 := fun h => hku (ZK.out.mp h)
            have d2 : decide (Z < 0) = false := decide_eq_false z0
            go_wp2_with fail
            refine wp_region_class (S := fun w' => Below w.heap.size w w') (by kernel_rfl) (by kernel_rfl) HW.out.drew ?_
            intro hne'
            repeat (go_big_quiet_step ((go_at_call 34; exact Calls.in_class (RC.out _) fun w' hb q => q.trans (hb.mono q.size))))
            refine wpQuiet_nil ?_
            rintro wq ⟨q, rfl⟩
            go_wp2
            go_round
            case rel => exact ⟨k + 1, u, by go_num, rfl, by have := KN.out; omega, HU.out, fun h => ⟨by have := (HM.out h).1; omega, (HM.out h).2⟩, fun j hj hj' => HNO.out j (by omega) hj', q.h⟩
            case measure => simp [intOf]; have := KN.out; omega
        · have ne : (ck == ci) = false := by simpa using he
          have NK : Hid (¬ Mt (nds zs) i k) := fun h => he (by have := h.2; rw [CK.out, CI.out] at this; exact this)
          clear he k2 u2
          go_wp2_with fail
          refine wp_region_class (S := fun w' => Below w.heap.size w w') (by kernel_rfl) (by kernel_rfl) HW.out.drew ?_
          intro hne'
          repeat (go_big_quiet_step (fail))
          refine wpQuiet_nil ?_
          rintro wq ⟨q, rfl⟩
          go_wp2
          go_round
          case rel => exact ⟨k + 1, u, by go_num, rfl, by have := KN.out; omega, HU.out, fun h => ⟨by have := (HM.out h).1; omega, (HM.out h).2⟩, fun j hj hj' => by
            by_cases e : j = k
            · rw [e]; exact NK.out
            · exact HNO.out j (by omega) hj', q.h⟩
          case measure => simp [intOf]; have := KN.out; omega
      · have d1 : decide (0 < ci) = false := decide_eq_false hc
        have NK : Hid (∀ j, ¬ Mt (nds zs) i j) := fun j h => hc (by have := h.1; rw [CI.out] at this; exact this)
        clear k2 u2 k5
        go_wp2_with fail
        refine wp_region_class (S := fun w' => Below w.heap.size w w') (by kernel_rfl) (by kernel_rfl) HW.out.drew ?_
        intro hne'
        repeat (go_big_quiet_step (fail))
        refine wpQuiet_nil ?_
        rintro wq ⟨q, rfl⟩
        go_wp2
        go_round
        case rel => exact ⟨k + 1, u, by go_num, rfl, by have := KN.out; omega, HU.out, fun h => absurd (HM.out h).2 (NK.out u), fun j _ _ => NK.out j, q.h⟩
        case measure => simp [intOf]; have := KN.out; omega
    · obtain rfl : k = n := by omega
      have LE : Hid (Lea (nds zs) i u) := ⟨hu, fun h => (HM.out h).2, fun j hj => HNO.out j (by have := HI.out; omega) hj⟩
      go_wp2
      go_ret
      exact ⟨u, rfl, LE.out, HW.out⟩
end Go.Proofs.YtinmkgpmoclcoaaDoor.Flt
