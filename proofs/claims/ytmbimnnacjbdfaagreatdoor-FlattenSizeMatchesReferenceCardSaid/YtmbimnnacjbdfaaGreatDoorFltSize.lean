/-
  Layer 14: the program's Size.
-/
import Derived.Test.YtmbimnnacjbdfaaGreatDoorPz21
import Derived.Test.YtmbimnnacjbdfaaGreatDoorPz31
import Derived.Test.YtmbimnnacjbdfaaGreatDoorPz16
namespace Go.Proofs.YtmbimnnacjbdfaaGreatDoor.Flt
open Go.RowKit Go.Proofs.YtmbimnnacjbdfaaGreatDoor.Fit Go.Proofs.YtmbimnnacjbdfaaGreatDoor.Etr Pnm Tre

def RetSz (L : List Mb) (w : World) (e : Ending) (w' : World) : Prop := ∃ X E : Int, e = .returned (.tuple #[.int .i64 X, .int .i64 E]) ∧ X = szX L ∧ E = szE L ∧ Below w.heap.size w w'
theorem RetSz.bad {L : List Mb} {w w' : World} {E : Int} (h : E = szE L) (h0 : E ≠ 0) (hb : Below w.heap.size w w') : RetSz L w (.returned (.tuple #[.int .i64 0, .int .i64 E])) w' :=
  ⟨0, E, rfl, by unfold szX; rw [if_neg (by rw [← h]; exact h0)], h, hb⟩
theorem RetSz.good {L : List Mb} {w w' : World} {n : Nat} {X : Int} (hn : L.length = n) (h : ∀ i, i < n → ckE (mz L i).e = 0) (hX : X = 1024 + (szN L n : Nat)) (hb : Below w.heap.size w w') : RetSz L w (.returned (.tuple #[.int .i64 X, .int .i64 0])) w' :=
  ⟨X, 0, rfl, by unfold szX; rw [if_pos (szE_all hn h), hn, hX], (szE_all hn h).symm, hb⟩

set_option maxRecDepth 100000 in
set_option maxHeartbeats 8000000 in
theorem psize_any (a : Option Addr) (n cap : Nat) (ys : List MbS) (w : World) (V : FVars w) (ha : ArgMbs w a n cap ys) (h40 : n ≤ 100) : Calls Tryz.prog 8 #[.slice a n cap] w (RetSz (mms ys) w) := by
  have HA := Lib.hid ha
  have HV := Lib.hid V
  have MZ := Lib.hid zMb
  have MO := Lib.hid mbT
  have HN : Hid ((mms ys).length = n) := by show _ = _; rw [mms_len]; exact ha.n
  have H40 := Lib.hid h40
  have n40 : (n : Int) ≤ 100 := by omega
  have nc : (n : Int) ≤ cap := by have := ha.c; omega
  clear ha V h40
  go_enter Tryz.func8, Tryz.ntmps8
  go_wp2_with fail
  go_loopw [4, 11] (fun s i wr => ∃ j : Nat, s = .int .i64 (1024 + (szN (mms ys) j : Nat)) ∧ i = .int .i64 j ∧ j ≤ n ∧ (∀ i, i < j → ckE (mz (mms ys) i).e = 0) ∧ Below w.heap.size w wr) (fun _ i _ => n - (intOf i).toNat)
  case atStart => exact ⟨0, rfl, rfl, Nat.zero_le _, fun i h => absurd h (Nat.not_lt_zero i), Below.refl _ _⟩
  case round =>
    obtain ⟨j, rfl, rfl, hj, hp, hB⟩ := hrel
    have HP := Lib.hid hp; have HB := Lib.hid hB
    by_cases hjn : j < n
    · obtain ⟨b, off, y, rfl, hb, hy, hf, hat⟩ := HA.out.get j hjn
      obtain ⟨c0, c1, c2, c3, c4, c5⟩ := (hat.below hB hb).c hy
      have EJ : Hid ((mms ys)[j]? = some y.n) := mms_at hy
      have JN := Lib.hid hjn
      have P1 := Lib.hid (Nat.le_trans hf.p (show 140737488355328 ≤ maxLen by decide)); have P2 := Lib.hid (Nat.le_trans hf.t (show 140737488355328 ≤ maxLen by decide))
      have SL := szN_le (L := mms ys) (j := j) (by rw [HN.out]; exact hj) hp
      clear hp hB hb hat hy hf hjn
      obtain ⟨⟨⟨k, p, m, t, s⟩, d⟩, x, xc⟩ := y
      obtain ⟨L, hL⟩ := named d.length
      have c5' : wr.cell? ⟨b, off + j * 6 + 5, none⟩ = some (.slice x L xc) := by rw [hL.out]; exact c5
      clear c5 hL
      obtain ⟨Z, hZ⟩ := named (szN (mms ys) j)
      rw [← hZ.out] at SL ⊢
      have ZB : (Z : Int) ≤ 109951200000000 := by have := SL.1; have := H40.out; have := JN.out; omega
      have Z0 : (0 : Int) ≤ Z := Int.natCast_nonneg _
      clear SL hj
      have j1 : (j : Int) < n := by have := JN.out; omega
      obtain ⟨E, hE⟩ := named (ckE ⟨k, p, m, t, s⟩)
      obtain ⟨zs, hzs⟩ := named (enZ ⟨k, p, m, t, s⟩)
      have EN : Hid (∀ q, Below w.heap.size w q → Calls Tryz.prog 14 #[.agg (enV k p m t s).toArray] q (RetEn zs E q)) := fun q hq => by rw [hE.out, hzs.out]; exact penc_any ⟨k, p, m, t, s⟩ q (HV.out.go hq) P1.out P2.out
      go_wp2_with (first | (refine wpList_alloc_obj rfl 27 rfl (mbC 0 emp 0 emp 0 none 0 0) MZ.out ?_; intro w5 g5 b5; have G5 := Lib.hid g5; have B5 := Lib.hid b5; clear g5 b5 c0 c1 c2 c3 c4 c5') | (refine wpList_store_obj rfl 27 _ _ rfl wr.heap.size rfl (mbC k p m t s x L xc) (mbC 0 emp 0 emp 0 none 0 0) rfl 27 G5.out MO.out.2 rfl (mb_one _ _ _ _ _ _ _ _) ?_; intro w6 g6 t6; have G6 := Lib.hid g6; have B6 := Lib.hid (HB.out.trans ((B5.out.trans (t6.below (Nat.le_refl _))).mono HB.out.size)); have d0 := g6.get 0 rfl; have d1 := g6.get 1 rfl; have d2 := g6.get 2 rfl; have d3 := g6.get 3 rfl; have d4 := g6.get 4 rfl; clear g6 t6))
      refine (EN.out w6 B6.out).mono ?_; rintro e w7 ⟨hb_, hn_, hc_, rfl, hl, hlc, hlm, _, _, b7⟩
      have B7 := Lib.hid (belT B6.out b7)
      have G7 := Lib.hid (G6.out.below b7 G6.out.lt)
      have d4 := G7.out.get 4 rfl
      clear d0 d1 d2 d3 b7
      by_cases h0 : ¬ E = 0
      · have nE : (E != 0) = true := by simpa using h0
        have RES : Hid (E = szE (mms ys)) := by show _ = _; rw [szE_at EJ.out HP.out (by rw [← hE.out]; exact h0), hE.out]
        have H0 := Lib.hid h0
        clear h0 hE hZ
        go_wp2_with fail
        go_ret2
        exact .bad RES.out H0.out B7.out
      obtain rfl : E = 0 := Decidable.not_not.mp h0
      obtain ⟨o1, o2, o3, o4⟩ := szO_le (x := ⟨⟨k, p, m, t, s⟩, d⟩) hE.out.symm
      have SO : Hid (szO ⟨⟨k, p, m, t, s⟩, d⟩ = hn_ + 512 * blkN s.toNat) := by show _ = _; unfold szO; rw [← hzs.out, hl]
      rw [SO.out] at o1
      have ST := Lib.hid (szN_step EJ.out)
      obtain ⟨BK, hBK⟩ := named (blkN s.toNat)
      have BL : Hid (∀ q, Calls Tryz.prog 15 #[.int .i64 s] q fun e w' => e = .returned (.int .i64 (BK : Nat)) ∧ q = w') := fun q => by rw [hBK.out]; exact blocks_any s (by have o4 : s ≤ 1099511627776 := o4; omega) q
      rw [← hBK.out] at o1 SO
      have hn1 : (hn_ : Int) + 512 * BK ≤ 1099512000000 := by omega
      have CK : Hid (ckE (mz (mms ys) j).e = 0) := by show _ = _; rw [mz_get EJ.out]; exact hE.out.symm
      have hnc : (hn_ : Int) ≤ hc_ := by omega
      clear h0 o1 o2 o3 o4 hBK hl hlc hlm
      go_wp2_with fail
      refine (BL.out w7).mono ?_; rintro e w8 ⟨rfl, rfl⟩
      go_wp2_with fail
      go_round
      case rel => exact ⟨j + 1, by rw [ST.out, ← hZ.out, SO.out]; go_num, by go_num, by have := JN.out; omega, fun i hi => by
        by_cases h : i < j
        · exact HP.out i h
        · obtain rfl : i = j := by omega
          exact CK.out, B7.out⟩
      case measure => simp [intOf]; have := JN.out; omega
    · obtain rfl : j = n := by omega
      have RES : Hid (RetSz (mms ys) w (.returned (.tuple #[.int .i64 (1024 + (szN (mms ys) j : Nat)), .int .i64 0])) wr) := .good HN.out hp rfl hB
      clear hp hB hjn hj
      go_wp2_with fail
      go_ret2
      exact RES.out
end Go.Proofs.YtmbimnnacjbdfaaGreatDoor.Flt
