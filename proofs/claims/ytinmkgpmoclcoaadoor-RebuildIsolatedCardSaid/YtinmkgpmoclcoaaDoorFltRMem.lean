/-
  Layer 14: the reference's Members. (gen_FltRMem.py writes it.)
-/
import Derived.Test.YtinmkgpmoclcoaaDoorPz18
import Derived.Test.YtinmkgpmoclcoaaDoorPz08
import Derived.Test.YtinmkgpmoclcoaaDoorPz14
import Derived.Test.YtinmkgpmoclcoaaDoorTreRCan
namespace Go.Proofs.YtinmkgpmoclcoaaDoor.Flt
open Go.RowKit Go.Proofs.YtinmkgpmoclcoaaDoor.Fit Pnm Tre

theorem mst {w : World} {zs : List NdS} (hf : ∀ z ∈ zs, NdF w z) {i : Nat} (hi : i < zs.length) (a : Option Addr) (cap : Nat) : MbSt ⟨mb (nds zs) i, a, cap⟩ := by
  have hl : i < (nds zs).length := by rw [nds_len]; exact hi
  have h := hf _ (List.getElem_mem hi)
  have hz : nd (nds zs) i = zs[i].n := nd_y (List.getElem?_eq_getElem hi)
  cases e : fr (nds zs) i (nd (nds zs) i).c with
  | some y =>
    rw [mb_some e, hz]
    obtain ⟨r, hr, rfl, _⟩ := fr_some (Nat.le_of_lt hl) e
    have hr' : r < zs.length := by omega
    have hp := (hf _ (List.getElem_mem hr')).p
    rw [← nd_y (List.getElem?_eq_getElem hr')] at hp
    exact ⟨(show (Lit.int .i64 3).wf = true by decide), h.p, h.m, hp, (show (Lit.int .i64 0).wf = true by decide), (fun z hz => by cases hz), Nat.zero_le _⟩
  | none =>
    rw [mb_none e, hz]
    refine ⟨h.k, h.p, h.m, h.t, ?_, h.d.2.2.2.1, h.l⟩
    show (Lit.int .i64 (if zs[i].n.k = 1 then (zs[i].n.d.length : Int) else 0)).wf = true
    have := h.l
    have e1 : IntKind.i64.min = -9223372036854775808 := by decide
    have e2 : IntKind.i64.max = 9223372036854775807 := by decide
    split <;> simp [Lit.wf] <;> omega

set_option maxRecDepth 100000 in
set_option maxHeartbeats 8000000 in
theorem rmem_any (a : Option Addr) (n cap : Nat) (ys : List NdS) (w : World) (ha : ArgNds w a n cap ys) (h40 : n ≤ 1759218604441) : Calls Tryd.prog 24 #[.slice a n cap] w (RetMb w (nds ys)) := by
  have HA := Lib.hid ha
  have MO := Lib.hid mbT
  have MZ := Lib.hid zMb
  have H40 := Lib.hid h40
  have n40 : (n : Int) ≤ 1759218604441 := by omega
  have HN : Hid ((nds ys).length = n) := by show _ = _; rw [nds_len]; exact ha.n
  obtain ⟨X1, hX1⟩ := named (chk (nds ys)).1
  obtain ⟨X2, hX2⟩ := named (chk (nds ys)).2
  have PC : Hid (Calls Tryd.prog 41 #[.slice a n cap] w fun e w'' => e = .returned (.tuple #[.int .i64 X1, .int .i64 X2]) ∧ Below w.heap.size w w'') := by
    show Calls _ _ _ _ _
    rw [hX1.out, hX2.out]; exact rchk_any a n cap ys w ha
  obtain ⟨i0, HI0⟩ := info_of (P := Tryd.prog) (e := 30) (z := .agg (mbC 0 emp 0 emp 0 none 0 0).toArray) (s := 6) (b := 80) (by kernel_rfl)
  have I6 : Hid ((Tryd.prog.info? 30).map (fun i => (i.zero, i.size)) = some (some (.agg (mbC 0 emp 0 emp 0 none 0 0).toArray), 6)) := by show _ = _; kernel_rfl
  have I8 : Hid ((Tryd.prog.info? 5).map (·.size) = some 1) := by show _ = _; obtain ⟨i, h1, _, h2, _⟩ := u8T; simp [h1, h2]
  have U8 := Lib.hid u8T
  have S30 : Hid ((Tryd.prog.info? 28).map (·.size) = some 1) := by show _ = _; kernel_rfl
  have S5 : Hid ((Tryd.prog.info? 27).map (·.size) = some 5) := by show _ = _; kernel_rfl
  clear ha h40
  go_enter Tryd.func24, Tryd.ntmps24
  go_wp2_with fail
  refine PC.out.mono ?_; rintro e w1 ⟨rfl, b1⟩
  have B1 := Lib.hid b1
  clear b1 PC
  by_cases hx : ¬ X2 = 0
  · have nx : (X2 != 0) = true := by simpa using hx
    go_wp2_with fail
    go_ret3
    exact .bad hX1.out hX2.out hx B1.out
  obtain rfl : X2 = 0 := Decidable.not_not.mp hx
  clear hx
  have VAL : Hid (Val (nds ys)) := chk_ok.mp hX2.out.symm
  obtain rfl : X1 = (n : Int) := by rw [hX1.out, chk_val VAL.out, HN.out]
  go_wp2_with fail
  refine (rcanon_any a n cap ys w1 (HA.out.below B1.out) H40.out).mono ?_; rintro e w4 ⟨c, cc, zs, rfl, hz, ez, _, _, b4⟩
  have CAN : Hid (Can (nds zs)) := by show Can _; rw [ez]; exact can_of VAL.out
  have HZ := Lib.hid hz; have EZ := Lib.hid ez; have B4 := Lib.hid (belT B1.out b4)
  have ZN : Hid (zs.length = n) := hz.n
  have ncc : (n : Int) ≤ cc := by have := hz.c; omega
  clear hz ez b4 B1
  go_wp2_with fail
  go_loopw [8, 7] (fun i v wr => ∃ (j : Nat) (us : List MbS) (va : Option Addr) (vc : Nat), i = .int .i64 j ∧ v = .slice va j vc ∧ j ≤ n ∧ RM w4.heap.size (nds zs) wr us j (.slice va j vc) ∧ Below w4.heap.size w4 wr) (fun i _ _ => n - (intOf i).toNat)
  case atStart => exact ⟨0, [], none, 0, rfl, rfl, Nat.zero_le _, ⟨⟨rfl, .inl ⟨rfl, rfl⟩⟩, fun i u h => by simp at h⟩, Below.refl _ _⟩
  case round =>
    obtain ⟨j, us, va, vc, rfl, rfl, hj, hrm, hB⟩ := hrel
    by_cases hjn : j < n
    · obtain ⟨b, off, z, rfl, hb, hz, hf, hat⟩ := HZ.out.get j hjn
      have RMM := Lib.hid hrm; have HB := Lib.hid hB; have JN := Lib.hid hjn; have BL := Lib.hid hb; have AT := Lib.hid hat
      have BW : Hid (w4.heap.size ≤ wr.heap.size) := hB.size
      have MS : Hid (∀ a cap, MbSt ⟨mb (nds zs) j, a, cap⟩) := fun a cap => mst HZ.out.s (by rw [ZN.out]; exact hjn) a cap
      have EJ : Hid (nd (nds zs) j = z.n) := nd_y hz
      have JL : Hid (j < (nds zs).length) := by show _ < _; rw [nds_len, ZN.out]; exact hjn
      have HY := Lib.hid hz
      have IK := Lib.hid (hf.below hB).d.inK; have DL0 := Lib.hid hf.l
      have OC := Lib.hid (one_c (CAN.out.v.one _ (nd_mem JL.out)))
      obtain ⟨c0, c1, c2, c3, c4, c5⟩ := (hat.below hB hb).c hz
      clear hrm hB hjn hb hat hz hf hj
      obtain ⟨⟨k, p, m, t, d, cl⟩, x, xc⟩ := z
      obtain ⟨L, hL⟩ := named d.length
      have c4' : wr.cell? ⟨b, off + j * 6 + 4, none⟩ = some (.slice x L xc) := by rw [hL.out]; exact c4
      have DL : Hid (L ≤ 140737488355328) := by show _ ≤ _; rw [hL.out]; exact DL0.out
      clear c4 DL0
      have j1 : (j : Int) < n := by have := JN.out; omega
      obtain ⟨s0, hs0⟩ := named (if k = 1 then (L : Int) else 0)
      go_wp2_with fail
      refine (rentry_any k p m t x L xc cl wr).mono ?_; rintro e w5 ⟨rfl, b5⟩
      rw [← hs0.out]
      have B5 := Lib.hid b5
      clear b5 c0 c1 c2 c3 c4' c5
      by_cases hk : ¬ k = 1
      · have nk : (k == 1) = false := by simpa using hk
        have hd0 : d = [] := by have := OC.out.2.2.1 (by rw [EJ.out]; exact hk); rw [EJ.out] at this; exact this
        have EMB : Hid ((⟨⟨k, p, m, t, s0⟩, []⟩ : Mb) = mb (nds zs) j) := by
          have hn : fr (nds zs) j (nd (nds zs) j).c = none := by
            refine (fr_none (Nat.le_of_lt JL.out)).mpr fun i _ hm => ?_
            have := OC.out.2.1 (by rw [EJ.out]; exact hk)
            omega
          show _ = _
          rw [mb_none hn, EJ.out, hs0.out, if_neg hk]
          unfold own1 entN
          dsimp only
          rw [if_neg hk, hd0]
        have EMS : Hid (MbSt ⟨⟨⟨k, p, m, t, s0⟩, []⟩, none, 0⟩) := by show MbSt _; rw [EMB.out]; exact MS.out none 0
        clear hs0 hd0 hk IK
        go_wp2_with (first | (refine wpList_alloc_obj rfl 30 rfl (mbC 0 emp 0 emp 0 none 0 0) MZ.out ?_; intro w6 g6 b6; have G6 := Lib.hid g6; have B6 := Lib.hid (belT B5.out b6); clear g6 b6) | (refine wpList_store_obj rfl 30 _ _ rfl w5.heap.size rfl (mbC k p m t s0 none 0 0) (mbC 0 emp 0 emp 0 none 0 0) rfl 30 G6.out MO.out.2 rfl (mb_one _ _ _ _ _ _ _ _) ?_; intro w7 g7 t7; have G7 := Lib.hid g7; have B7 := Lib.hid (B6.out.trans (t7.below B5.out.size)); have N7 := Lib.hid (HB.out.trans (B7.out.mono BW.out)); have e0 := ((AT.out.below N7.out BL.out).c HY.out).1; have R7 := Lib.hid (RMM.out.below B7.out); have FU : Hid (FrsM w4.heap.size w7 ⟨⟨⟨k, p, m, t, s0⟩, []⟩, none, 0⟩) := frsM_nil _ _ _; have f0 := G7.out.get 0 rfl; have f1 := G7.out.get 1 rfl; have f2 := G7.out.get 2 rfl; have f3 := G7.out.get 3 rfl; have f4 := G7.out.get 4 rfl; have f5 := G7.out.get 5 rfl; clear g7 t7) | (at_builtin; refine wpList_append_mms rfl _ _ 22 rfl 30 w4.heap.size i0 _ Tryd.underlying22 HI0 rfl (.slice va j vc) j us rfl R10.out.own (some ⟨w7.heap.size, 0, none⟩) 1 1 [⟨⟨⟨k, p, m, t, s0⟩, []⟩, none, 0⟩] rfl (.inr ⟨_, 0, rfl, G10.out.lt, .of_cells G10.out⟩) rfl (by have := JN.out; have := H40.out; omega) (Nat.le_trans BW.out B10.out.size) ?_; intro v11 w11 g11 b11 x11 _; have R11 := Lib.hid (R10.out.next (show MbS.n ⟨⟨⟨k, p, m, t, s0⟩, []⟩, none, 0⟩ = _ from EMB.out) (EMS.out) FU10.out g11 x11); obtain ⟨va', vc', rfl, _⟩ := ArgMbs.of_own g11 (fun y hy => by obtain ⟨i, hi, rfl⟩ := List.getElem_of_mem hy; exact (R11.out.el i _ (List.getElem?_eq_getElem hi)).2.1.f (R11.out.el i _ (List.getElem?_eq_getElem hi)).2.2); have B11 := Lib.hid ((HB.out.trans (B10.out.mono BW.out)).trans b11); clear g11 b11 x11) | (refine wpList_lit_mb1 rfl 22 30 _ rfl Tryd.underlying22 _ I6.out ⟨⟨⟨k, p, m, t, s0⟩, []⟩, none, 0⟩ rfl ?_; intro w10 g10 b10; have G10 := Lib.hid g10; have B10 := Lib.hid (belT B7.out b10); have R10 := Lib.hid (R7.out.below b10); have FU10 := Lib.hid (FU.out.below b10); clear g10 b10))
        go_round
        case rel => exact ⟨j + 1, _, va', vc', by go_num, rfl, by have := JN.out; omega, R11.out, B11.out⟩
        case measure => simp [intOf]; have := JN.out; omega
      · obtain rfl : k = 1 := Decidable.not_not.mp hk
        clear hk
        have n1 : ((1 : Int) == 1) = true := by simp
        obtain rfl : s0 = (L : Int) := by rw [hs0.out, if_pos rfl]
        clear hs0
        go_wp2_with (first | (refine wpList_alloc_obj rfl 30 rfl (mbC 0 emp 0 emp 0 none 0 0) MZ.out ?_; intro w6 g6 b6; have G6 := Lib.hid g6; have B6 := Lib.hid (belT B5.out b6); clear g6 b6) | (refine wpList_store_obj rfl 30 _ _ rfl w5.heap.size rfl (mbC 1 p m t L none 0 0) (mbC 0 emp 0 emp 0 none 0 0) rfl 30 G6.out MO.out.2 rfl (mb_one _ _ _ _ _ _ _ _) ?_; intro w7 g7 t7; have G7 := Lib.hid g7; have B7 := Lib.hid (B6.out.trans (t7.below B5.out.size)); have N7 := Lib.hid (HB.out.trans (B7.out.mono BW.out)); have e0 := ((AT.out.below N7.out BL.out).c HY.out).1; clear g7 t7))
        refine (rleast_any (some ⟨b, off, none⟩) n cc zs j w7 (HZ.out.below N7.out) CAN.out JN.out H40.out).mono ?_; rintro e w8 ⟨q, rfl, hle, b8⟩
        obtain ⟨le1, le2⟩ := hle.fr JL.out
        have QJ : Hid (q ≤ j) := hle.le
        have LE1 := Lib.hid le1; have LE2 := Lib.hid le2
        have B8 := Lib.hid (belT B7.out b8)
        have N8 := Lib.hid (HB.out.trans (B8.out.mono BW.out))
        have G8 := Lib.hid (G7.out.below b8 G7.out.lt)
        clear hle le1 le2 b8 e0
        by_cases hq : q = j
        · obtain rfl : j = q := hq.symm
          have nq : ((j : Int) == (j : Int)) = true := by simp
          have c4 := ((AT.out.below N8.out BL.out).c HY.out).2.2.2.2.1
          rw [← hL.out] at c4
          have EMB : Hid ((⟨⟨1, p, m, t, L⟩, d⟩ : Mb) = mb (nds zs) j) := by
            show _ = _
            rw [mb_none (LE1.out rfl), EJ.out, hL.out]
            rfl
          have IK8 := Lib.hid (IK.out.below B8.out)
          have EMS : Hid (∀ a cap, MbSt ⟨⟨⟨1, p, m, t, L⟩, d⟩, a, cap⟩) := fun a cap => by rw [EMB.out]; exact MS.out a cap
          go_wp2_with (first | (refine wpList_lit_k rfl 28 5 .u8 rfl Tryd.underlying28 I8.out ?_; intro w9 h9 b9; have O9 := Lib.hid h9; have B9 := Lib.hid b9; have G9 := Lib.hid (G8.out.below b9 G8.out.lt); have c4 := ((AT.out.below (N8.out.trans (b9.mono (Nat.le_trans BW.out B8.out.size))) BL.out).c HY.out).2.2.2.2.1; rw [← hL.out] at c4; clear h9 b9) | (at_builtin; refine wpList_append_k rfl _ _ 28 rfl w8.heap.size 5 .u8 1 Tryd.underlying28 U8.out (.slice (some ⟨w8.heap.size, 0, none⟩) 0 0) 0 [] rfl O9.out x L xc d rfl (IK8.out.below B9.out) hL.out.symm (by have := DL.out; unfold maxLen; omega) (by have := DL.out; omega) B9.out.size ?_; intro v9 w9' h9 b9; rw [Nat.zero_add, List.nil_append] at h9; obtain ⟨a9, c9, hv9, _⟩ := own_any h9; subst hv9; have P9 := Lib.hid h9; have D9 := Lib.hid (B9.out.trans b9); have G9' := Lib.hid (G9.out.below (b9.mono (Nat.le_refl _)) G8.out.lt); clear h9 b9) | (refine wpList_store_cell rfl 28 _ _ rfl w5.heap.size 5 rfl (.slice a9 L c9) rfl rfl S30.out 30 (mbC 1 p m t L none 0 0) G9'.out (by show 5 < 6; omega) ?_; intro wa ga ta; have GA : Hid (ObjAt wa w5.heap.size 30 (mbC 1 p m t L a9 L c9)) := ga; have BA := Lib.hid ((belT B8.out D9.out).trans (ta.below B5.out.size)); have PA := Lib.hid (own_turnB P9.out ta G8.out.lt); have f0 := GA.out.get 0 rfl; have f1 := GA.out.get 1 rfl; have f2 := GA.out.get 2 rfl; have f3 := GA.out.get 3 rfl; have f4 := GA.out.get 4 rfl; have f5 := GA.out.get 5 rfl; have RA := Lib.hid (RMM.out.below BA.out); have FU : Hid (FrsM w4.heap.size wa ⟨⟨⟨1, p, m, t, L⟩, d⟩, a9, c9⟩) := (by unfold FrsM; show wa.ownsRow _ _ 1 (.slice a9 d.length c9) d.length _; rw [← hL.out]; exact own_base PA.out (Nat.le_trans BW.out B8.out.size)); have EQL : Hid (Value.agg (mbC 1 p m t L a9 L c9).toArray = .agg (mbV (⟨⟨⟨1, p, m, t, L⟩, d⟩, a9, c9⟩ : MbS)).toArray) := (by show _ = _; rw [hL.out]); clear ga ta) | (at_builtin; refine wpList_append_mms rfl _ _ 22 rfl 30 w4.heap.size i0 _ Tryd.underlying22 HI0 rfl (.slice va j vc) j us rfl R10.out.own (some ⟨wa.heap.size, 0, none⟩) 1 1 [⟨⟨⟨1, p, m, t, L⟩, d⟩, a9, c9⟩] rfl (.inr ⟨_, 0, rfl, G10.out.lt, .of_cells G10.out⟩) rfl (by have := JN.out; have := H40.out; omega) (Nat.le_trans BW.out B10.out.size) ?_; intro v11 w11 g11 b11 x11 _; have R11 := Lib.hid (R10.out.next (show MbS.n ⟨⟨⟨1, p, m, t, L⟩, d⟩, a9, c9⟩ = _ from EMB.out) (EMS.out _ _) FU10.out g11 x11); obtain ⟨va', vc', rfl, _⟩ := ArgMbs.of_own g11 (fun y hy => by obtain ⟨i, hi, rfl⟩ := List.getElem_of_mem hy; exact (R11.out.el i _ (List.getElem?_eq_getElem hi)).2.1.f (R11.out.el i _ (List.getElem?_eq_getElem hi)).2.2); have B11 := Lib.hid ((HB.out.trans (B10.out.mono BW.out)).trans b11); clear g11 b11 x11) | (refine wpList_lit_mb1 rfl 22 30 _ rfl Tryd.underlying22 _ I6.out ⟨⟨⟨1, p, m, t, L⟩, d⟩, a9, c9⟩ EQL.out ?_; intro w10 g10 b10; have G10 := Lib.hid g10; have B10 := Lib.hid (belT BA.out b10); have R10 := Lib.hid (RA.out.below b10); have FU10 := Lib.hid (FU.out.below b10); clear g10 b10))
          go_round
          case rel => exact ⟨j + 1, _, va', vc', by go_num, rfl, by have := JN.out; omega, R11.out, B11.out⟩
          case measure => simp [intOf]; have := JN.out; omega
        · have nq : ((q : Int) == (j : Int)) = false := by simp; omega
          have EMB : Hid ((⟨⟨3, p, m, (nd (nds zs) q).p, 0⟩, []⟩ : Mb) = mb (nds zs) j) := by
            show _ = _
            rw [mb_some (LE2.out (by have := QJ.out; omega)), EJ.out]
            rfl
          have z1 := (AT.out.below N8.out BL.out).c HY.out
          have d1 := z1.2.1; have d2 := z1.2.2.1
          have ql : q < n := by have := QJ.out; have := JN.out; omega
          have hy2 : ∃ y, zs[q]? = some y := ⟨_, List.getElem?_eq_getElem (by rw [ZN.out]; exact ql)⟩
          obtain ⟨y, hy2⟩ := hy2
          have e1 := ((AT.out.below N8.out BL.out).c hy2).2.1
          have PY : Hid ((nd (nds zs) q).p = y.n.p) := by show _ = _; rw [nd_y hy2]
          rw [← PY.out] at e1
          obtain ⟨pq, hpq⟩ : ∃ pq, pq = (nd (nds zs) q).p := ⟨_, rfl⟩
          rw [← hpq] at e1 EMB
          have q1 : (q : Int) < n := by omega
          have f0 := G8.out.get 0 rfl; have f1 := G8.out.get 1 rfl; have f2 := G8.out.get 2 rfl; have f3 := G8.out.get 3 rfl; have f4 := G8.out.get 4 rfl; have f5 := G8.out.get 5 rfl
          have y0 := G8.out.frozen 0; have y1 := G8.out.frozen 1; have y2 := G8.out.frozen 2; have y3 := G8.out.frozen 3; have y4 := G8.out.frozen 4
          clear z1 hy2 PY hpq ql
          go_wp2_with fail
          go_big_region_o
          have GE : ObjAt (((((w8.setCell ⟨w5.heap.size, 0, none⟩ (.int .i64 3)).setCell ⟨w5.heap.size, 1, none⟩ (.string p)).setCell ⟨w5.heap.size, 2, none⟩ (.int .i64 m)).setCell ⟨w5.heap.size, 3, none⟩ (.string pq)).setCell ⟨w5.heap.size, 4, none⟩ (.int .i64 0)).drew w5.heap.size 30 (mbC 3 p m pq 0 none 0 0) := ((((G8.out.set 0 (.int .i64 3)).set 1 (.string p)).set 2 (.int .i64 m)).set 3 (.string pq)).set 4 (.int .i64 0)
          have BE : Below wr.heap.size wr (((((w8.setCell ⟨w5.heap.size, 0, none⟩ (.int .i64 3)).setCell ⟨w5.heap.size, 1, none⟩ (.string p)).setCell ⟨w5.heap.size, 2, none⟩ (.int .i64 m)).setCell ⟨w5.heap.size, 3, none⟩ (.string pq)).setCell ⟨w5.heap.size, 4, none⟩ (.int .i64 0)).drew := (((((B8.out.setCell (p := ⟨w5.heap.size, 0, none⟩) B5.out.size (.int .i64 3)).setCell (p := ⟨w5.heap.size, 1, none⟩) B5.out.size (.string p)).setCell (p := ⟨w5.heap.size, 2, none⟩) B5.out.size (.int .i64 m)).setCell (p := ⟨w5.heap.size, 3, none⟩) B5.out.size (.string pq)).setCell (p := ⟨w5.heap.size, 4, none⟩) B5.out.size (.int .i64 0)).drew
          revert GE BE
          generalize (((((w8.setCell ⟨w5.heap.size, 0, none⟩ (.int .i64 3)).setCell ⟨w5.heap.size, 1, none⟩ (.string p)).setCell ⟨w5.heap.size, 2, none⟩ (.int .i64 m)).setCell ⟨w5.heap.size, 3, none⟩ (.string pq)).setCell ⟨w5.heap.size, 4, none⟩ (.int .i64 0)).drew = wa
          intro ge be
          have GA := Lib.hid ge; have BA := Lib.hid be
          clear ge be f0 f1 f2 f3 f4 f5 y0 y1 y2 y3 y4 d1 d2 e1 q1
          have EMS : Hid (MbSt ⟨⟨⟨3, p, m, pq, 0⟩, []⟩, none, 0⟩) := by show MbSt _; rw [EMB.out]; exact MS.out none 0
          have RA := Lib.hid (RMM.out.below BA.out)
          have FU : Hid (FrsM w4.heap.size wa ⟨⟨⟨3, p, m, pq, 0⟩, []⟩, none, 0⟩) := frsM_nil _ _ _
          have f0 := GA.out.get 0 rfl; have f1 := GA.out.get 1 rfl; have f2 := GA.out.get 2 rfl; have f3 := GA.out.get 3 rfl; have f4 := GA.out.get 4 rfl; have f5 := GA.out.get 5 rfl
          go_wp2_with (first | (at_builtin; refine wpList_append_mms rfl _ _ 22 rfl 30 w4.heap.size i0 _ Tryd.underlying22 HI0 rfl (.slice va j vc) j us rfl R10.out.own (some ⟨wa.heap.size, 0, none⟩) 1 1 [⟨⟨⟨3, p, m, pq, 0⟩, []⟩, none, 0⟩] rfl (.inr ⟨_, 0, rfl, G10.out.lt, .of_cells G10.out⟩) rfl (by have := JN.out; have := H40.out; omega) (Nat.le_trans BW.out B10.out.size) ?_; intro v11 w11 g11 b11 x11 _; have R11 := Lib.hid (R10.out.next (show MbS.n ⟨⟨⟨3, p, m, pq, 0⟩, []⟩, none, 0⟩ = _ from EMB.out) (EMS.out) FU10.out g11 x11); obtain ⟨va', vc', rfl, _⟩ := ArgMbs.of_own g11 (fun y hy => by obtain ⟨i, hi, rfl⟩ := List.getElem_of_mem hy; exact (R11.out.el i _ (List.getElem?_eq_getElem hi)).2.1.f (R11.out.el i _ (List.getElem?_eq_getElem hi)).2.2); have B11 := Lib.hid ((HB.out.trans (B10.out.mono BW.out)).trans b11); clear g11 b11 x11) | (refine wpList_lit_mb1 rfl 22 30 _ rfl Tryd.underlying22 _ I6.out ⟨⟨⟨3, p, m, pq, 0⟩, []⟩, none, 0⟩ rfl ?_; intro w10 g10 b10; have G10 := Lib.hid g10; have B10 := Lib.hid (belT BA.out b10); have R10 := Lib.hid (RA.out.below b10); have FU10 := Lib.hid (FU.out.below b10); clear g10 b10))
          go_round
          case rel => exact ⟨j + 1, _, va', vc', by go_num, rfl, by have := JN.out; omega, R11.out, B11.out⟩
          case measure => simp [intOf]; have := JN.out; omega
    · obtain rfl : j = n := by omega
      obtain ⟨d1, d2⟩ := hrm.done (by rw [nds_len, ZN.out])
      obtain ⟨va', vc', e, hA⟩ := ArgMbs.of_own hrm.own d2
      injection e with e1 _ e3
      subst e1; subst e3
      have RES : Hid (RetMb w (nds ys) (.returned (.tuple #[.slice va j vc, .int .i64 (j : Int), .int .i64 0])) wr) := by
        refine ⟨_, _, _, us, _, _, rfl, hX1.out, hX2.out, hA, ?_, belT B4.out hB⟩
        unfold mbR; rw [← hX2.out, if_pos rfl, d1, EZ.out]
      clear hrm hB d1 d2 hA hjn hj
      go_wp2_with fail
      go_ret3
      exact RES.out
end Go.Proofs.YtinmkgpmoclcoaaDoor.Flt
