/-
  The statement RebuildIsStrict: a walk.
-/
import Derived.Test.YtinmkgpmoclcoaaDoorRebUse
import Derived.Test.YtinmkgpmoclcoaaDoorRebLarge
import Derived.Test.YtinmkgpmoclcoaaDoorFltPMem
import Derived.Test.YtinmkgpmoclcoaaDoorPz14
import Derived.Test.YtinmkgpmoclcoaaDoorPz11
namespace Go.Proofs.YtinmkgpmoclcoaaDoor
open Go.RowKit Go.Proofs.YtinmkgpmoclcoaaDoor.Fit Pnm Tre Flt Reb

/-- the members that were added, as the law keeps them -/
structure Kept (w0 wr : World) (S : Nat → Prop) (A : List Mb) (v : Value) (vs : List MbS) : Prop where
  o : wr.ownsRow w0.heap.size 30 6 v A.length (mbCells vs)
  m : mms vs = A
  f : ∀ y ∈ vs, MbF w0 y
  k : ∀ k, v.ownBlock = some k → ¬ S k
theorem Kept.add {w0 w w' : World} {S S' : Nat → Prop} {A : List Mb} {v : Value} {vs : List MbS} (h : Kept w0 w S A v vs) (ho : Only S w w') (hS : ∀ k, S' k → S k ∨ w.heap.size ≤ k) : Kept w0 w' S' A v vs :=
  ⟨own_onlyA h.o ho h.k, h.m, h.f, fun k hk hs => (hS k hs).elim (h.k k hk) fun hl => absurd (own_under h.o k hk).2 (Nat.not_lt_of_le hl)⟩
theorem PBd.gd {w : World} {S : Nat → Prop} {g : Nat} {A : List Mb} (h : PBd w S g A) : Gd A := by
  obtain ⟨_, _, _, _, _, _, _, _, _, h, _⟩ := h
  exact h.good
theorem only_row {w w' : World} {base n size : Nat} {e : TypeId} {v : Value} {xs : List Value} {B : Nat} (_h : w.ownsRow base e size v n xs) (hb : Below B w w') (hk : ∀ k, k < w.heap.size → some k ≠ v.ownBlock → w'.heap[k]? = w.heap[k]?) : Only (fun k => v.ownBlock = some k) w w' :=
  ⟨hb.os, hb.tape, hb.output, hb.size, fun k h1 h2 => hk k h1 fun e => h2 e.symm⟩

set_option maxRecDepth 100000 in
set_option maxHeartbeats 8000000 in
theorem walk_RebuildIsStrict (a : Option Addr) (n cap : Nat) (ys : List MbS) (w : World) (V : Pxr.Vars w) (ha : ArgMbs w a n cap ys) :
    Calls Tryd.prog 5 #[.slice a n cap] w fun e w' => e = .returned (.bool true) ∧ Below w.heap.size w w' := by
  have HV := Lib.hid (FVars.mk V)
  have HA := Lib.hid ha
  have MZ := Lib.hid Flt.zMb
  have MT := Lib.hid Flt.mbT
  have IN : Hid ((Tryd.prog.info? 30).map (fun i => (i.zero, i.size)) = some (some (.agg (mbC 0 emp 0 emp 0 none 0 0).toArray), 6)) := by show _ = _; kernel_rfl
  obtain ⟨i0, HI0⟩ := info_of (P := Tryd.prog) (e := 30) (z := .agg (mbC 0 emp 0 emp 0 none 0 0).toArray) (s := 6) (b := 80) (by kernel_rfl)
  clear V ha
  go_enter Tryd.func5, Tryd.ntmps5
  go_wp2_with fail
  refine (new_any w).mono ?_; rintro e w1 ⟨S, g, rfl, p1, s1, b1⟩
  have P1 := Lib.hid p1; have S1 := Lib.hid s1; have B1 := Lib.hid b1
  clear p1 s1 b1
  go_wp2_with fail
  refine (Reb.large_any a n cap ys w1 (HA.out.below B1.out)).mono ?_; rintro e w2 ⟨R, rfl, hR, b2⟩
  have B2 := Lib.hid (belT B1.out b2)
  have P2 := Lib.hid (P1.out.below b2)
  clear b2 P1
  rcases hR with rfl | ⟨rfl, h40, _⟩
  · go_wp2_with fail
    refine (Reb.alive_any w2 (HV.out.go B2.out)).mono ?_; rintro e w3 ⟨rfl, b3⟩
    have B3 := Lib.hid (belT B2.out b3)
    go_wp2
    go_ret
    exact ⟨rfl, B3.out⟩
  have H1 := Lib.hid h40
  have n40 : (n : Int) ≤ 40 := by omega
  clear h40
  go_wp2_with fail
  go_loopw [24, 4] (fun i v wr => ∃ (j L : Nat) (S' : Nat → Prop) (A : List Mb) (vs : List MbS) (va : Option Addr) (vc : Nat), i = .int .i64 j ∧ v = .slice va L vc ∧ j ≤ n ∧ L = A.length ∧ L ≤ j ∧ (∀ q, S' q → w.heap.size ≤ q) ∧ PBd wr S' g A ∧ Kept w wr S' A (.slice va L vc) vs ∧ Below w.heap.size w wr) (fun i _ _ => n - (intOf i).toNat)
  case atStart => exact ⟨0, 0, S, [], [], none, 0, rfl, rfl, Nat.zero_le _, rfl, Nat.zero_le _, S1.out, P2.out, ⟨⟨rfl, .inl ⟨rfl, rfl⟩⟩, rfl, (fun _ h => by cases h), fun k hk => by cases hk⟩, B2.out⟩
  case round =>
    obtain ⟨j, L, S', A, vs, va, vc, rfl, rfl, hj, hL, hLj, hS, hP, hK, hB⟩ := hrel
    have HS := Lib.hid hS; have HP := Lib.hid hP; have HB := Lib.hid hB; have HK := Lib.hid hK; have HL := Lib.hid hL; have LJ := Lib.hid hLj
    clear hS hP hB hK hL hLj
    by_cases hjn : j < n
    · obtain ⟨bb, off, y, hbe, hbl, hy, hf, hat⟩ := HA.out.get j hjn
      subst hbe
      have HY := Lib.hid hy; have HF := Lib.hid hf; have AT := Lib.hid (at_row (hat.below HB.out hbl) hy)
      have j1 : (j : Int) < n := by omega
      have AL : Hid (A.length ≤ 1000) := by show _ ≤ _; have := HL.out; have := LJ.out; have := H1.out; omega
      clear hbl hy hf hat
      go_wp2_with (first | (refine wpList_load_part rfl 30 6 MT.out _ rfl bb (off + j * 6) rfl (mbV y) rfl AT.out ?_) | (refine wpList_alloc_obj rfl 30 rfl (mbC 0 emp 0 emp 0 none 0 0) MZ.out ?_; intro w5 g5 b5; have G5 := Lib.hid g5; have B5 := Lib.hid b5; clear g5 b5) | (refine wpList_store_obj rfl 30 _ _ rfl wr.heap.size rfl (mbV y) (mbC 0 emp 0 emp 0 none 0 0) rfl 30 G5.out MT.out.2 rfl (mb_one _ _ _ _ _ _ _ _) ?_; intro w6 g6 t6; have G6 := Lib.hid g6; have B6 := Lib.hid (B5.out.trans (t6.below (Nat.le_refl _))); clear g6 t6) | (refine wpList_load_obj rfl 30 6 MT.out _ rfl wr.heap.size rfl 30 (mbV y) G6.out rfl ?_))
      have BW := Lib.hid (HB.out.trans (B6.out.mono HB.out.size))
      have K6 := Lib.hid (HK.out.add (Only.of_below (S := S') B6.out (Nat.le_refl _)) (S' := S') fun k hk => .inl hk)
      refine (pbadd_any (HP.out.below B6.out) (HV.out.go BW.out) y (HF.out.below BW.out) (Reb.MbF.off HF.out HS.out) AL.out).mono ?_; intro e w7 hq
      obtain ⟨X, hX⟩ := named (adR A y.n)
      obtain ⟨rfl, o7, b7, S7, s7, q7, p7⟩ := hq.go hX.out.symm HS.out BW.out
      have P7 := Lib.hid p7; have S7' := Lib.hid s7; have B7 := Lib.hid b7
      have K7 := Lib.hid (K6.out.add o7 q7)
      have G7 := Lib.hid (G6.out.only o7 fun hs => absurd (HP.out.lt _ hs) (Nat.lt_irrefl _))
      clear hq p7 s7 b7 o7 q7 hX
      by_cases x0 : X = 0
      · subst x0
        have P7' : Hid (PBd w7 S7 g (A ++ [y.n])) := P7.out
        have BS7 : Hid (w.heap.size ≤ w7.heap.size) := B7.out.size
        have OW7 : Hid (w7.ownsRow w.heap.size 30 6 (.slice va L vc) L (mbCells vs)) := by show World.ownsRow _ _ _ _ _ _ _; have := K7.out.o; rw [← HL.out] at this; exact this
        go_wp2_with (first | (refine wpList_load_obj rfl 30 6 MT.out _ rfl wr.heap.size rfl 30 (mbV y) G7.out rfl ?_) | (refine wpList_lit_mb1 rfl 22 30 _ rfl Tryd.underlying22 _ IN.out y rfl ?_; intro w8 g8 b8; have G8 := Lib.hid g8; have B8 := Lib.hid b8; have OW8 := Lib.hid (own_stay' OW7.out b8 (Nat.le_refl _)); clear g8 b8) | (at_builtin; refine wpList_append_mms rfl _ _ 22 rfl 30 w.heap.size i0 _ Tryd.underlying22 HI0 rfl (.slice va L vc) L vs rfl OW8.out _ 1 1 [y] rfl (.inr ⟨_, 0, rfl, G8.out.lt, .of_cells G8.out⟩) rfl (by have := LJ.out; have := H1.out; omega) (Nat.le_trans BS7.out B8.out.size) ?_; intro v9 w9 g9 b9 k9 x9; obtain ⟨va', vc', rfl, R9⟩ : ∃ va' vc', v9 = .slice va' (L + 1) vc' ∧ Hid (w9.ownsRow w.heap.size 30 6 v9 (L + 1) (mbCells (vs ++ [y]))) := (by obtain ⟨q1, q2, hq, _⟩ := MbsIn.of_own g9; exact ⟨q1, q2, hq, g9⟩); have B9 := Lib.hid b9; have KK9 := Lib.hid k9; have X9 := Lib.hid x9; clear g9 b9 k9 x9))
        have O9 := Lib.hid (only_row OW8.out B9.out KK9.out)
        have P9 : Hid (PBd w9 S7 g (A ++ [y.n])) := (P7'.out.below B8.out).only O9.out fun k hk e => K7.out.k k e hk
        go_round
        case rel => exact ⟨j + 1, L + 1, S7, A ++ [y.n], vs ++ [y], va', vc', by go_num, rfl, by omega, by rw [List.length_append, HL.out]; rfl, by have := LJ.out; omega, S7'.out, P9.out, ⟨by rw [List.length_append, List.length_singleton, ← HL.out]; exact R9.out, by unfold mms; rw [List.map_append]; exact congrArg (· ++ [y.n]) K7.out.m, fun z hz => (List.mem_append.1 hz).elim (K7.out.f z) fun h => by rw [List.mem_singleton.1 h]; exact HF.out, fun k hk hs => by
          rcases X9.out with hx | hx
          · exact K7.out.k k (by rw [← hx]; exact hk) hs
          · rw [hx] at hk
            injection hk with hk
            have h1 := P7'.out.lt k hs
            have h2 := B8.out.size
            omega⟩, (B7.out.trans (B8.out.mono BS7.out)).trans B9.out⟩
        case measure => simp [intOf]; omega
      · have nx : (X == 0) = false := by simpa using x0
        have P7' : Hid (PBd w7 S7 g A) := by have := P7.out; rw [if_neg x0] at this; exact this
        clear x0 P7
        go_wp2_with fail
        go_round
        case rel => exact ⟨j + 1, L, S7, A, vs, va, vc, by go_num, rfl, by omega, HL.out, by have := LJ.out; omega, S7'.out, P7'.out, K7.out, B7.out⟩
        case measure => simp [intOf]; omega
    · obtain rfl : j = n := by omega
      have GD : Hid (Gd A) := PBd.gd HP.out
      have AL : Hid (A.length ≤ 40) := by show _ ≤ _; have := HL.out; have := LJ.out; have := H1.out; omega
      have NDS : Hid (∀ w', PBd w' S' g A → Calls Tryd.prog 11 #[.pointer (some ⟨g, 0, none⟩)] w' (NdsP w' A L)) := fun w' h => by
        have := pbnds_any h AL.out
        rw [← HL.out] at this
        exact this
      have HVS := Lib.hid HK.out.f
      have HVM := Lib.hid HK.out.m
      obtain ⟨va0, vc0, hve, hva⟩ := MbsIn.of_own HK.out.o
      injection hve with e1 e2 e3
      subst e1; subst e3
      have AR : Hid (ArgMbs wr va L vc vs) := by
        obtain ⟨h1, h2, h3, h4, _⟩ := hva
        exact ⟨by rw [← h1, HL.out], by rw [HL.out]; exact h2, h3, h4, fun y hy => (HVS.out y hy).below HB.out⟩
      clear hva e2 hj hjn
      go_wp2_with fail
      refine (NDS.out _ HP.out).mono ?_; rintro e w3 ⟨a3, c3, zs, rfl, hz, hzn, _, _, b3⟩
      have HZ := Lib.hid hz; have HZN := Lib.hid hzn; have B3 := Lib.hid (belT HB.out b3); have AR3 := Lib.hid (AR.out.below b3)
      clear hz hzn b3
      have CK : Hid (chk (nds zs) = ((L : Int), 0)) := by show _ = _; rw [HZN.out, GD.out.strict.2.2, HL.out]
      go_wp2_with fail
      refine (pchk_any a3 L c3 zs w3 (HV.out.go B3.out) HZ.out).mono ?_; rintro e w4 ⟨rfl, b4⟩
      rw [CK.out]
      have B4 := Lib.hid (belT B3.out b4); have HZ4 := Lib.hid (HZ.out.below b4); have AR4 := Lib.hid (AR3.out.below b4)
      clear b4
      go_wp2_with fail
      refine (pmem_any a3 L c3 zs w4 (HV.out.go B4.out) HZ4.out (by rw [HL.out]; exact AL.out)).mono ?_; rintro e w5 ⟨b5', k5, c5, us, X1, X2, rfl, h1, h2, hm, hu, b5⟩
      have e0 : X2 = 0 := by rw [h2, CK.out]
      subst e0
      have B5 := Lib.hid (belT B4.out b5); have HM5 := Lib.hid hm; have AR5 := Lib.hid (AR4.out.below b5)
      have HU5 : Hid (mms us = A) := by
        show _ = _
        rw [hu]
        unfold mbR
        rw [CK.out, if_pos rfl, HZN.out, canon_canon, GD.out.strict.2.1]
      clear b5 hm hu h1 h2
      go_wp2_with fail
      refine (Reb.alive_any w5 (HV.out.go B5.out)).mono ?_; rintro e w6 ⟨rfl, b6⟩
      have B6 := Lib.hid (belT B5.out b6); have HM6 := Lib.hid (HM5.out.below b6); have AR6 := Lib.hid (AR5.out.below b6)
      clear b6
      go_wp2_with fail
      refine (rsameM_any b5' k5 c5 us va L vc vs w6 HM6.out AR6.out).mono ?_; rintro e w7 ⟨Bs, rfl, hs, b7⟩
      obtain rfl : Bs = true := hs.mpr (by rw [HU5.out, HVM.out])
      have B7 := Lib.hid (belT B6.out b7)
      clear hs b7
      go_wp2
      go_ret
      exact ⟨rfl, B7.out⟩
end Go.Proofs.YtinmkgpmoclcoaaDoor
