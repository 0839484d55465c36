/-
  slices.SortStableFunc over at most 40 nodes, by their paths.
-/
import Derived.Test.YtmbimnnacjbdfaaDoorSrtBig
import Derived.Test.YtmbimnnacjbdfaaDoorPk04
namespace Go.Proofs.YtmbimnnacjbdfaaDoor.Tre
open Go.RowKit Go.Proofs.YtmbimnnacjbdfaaDoor.Fit Pnm Go.Sort

set_option maxRecDepth 100000 in
set_option maxHeartbeats 8000000 in
theorem stable_any (w0 : World) (g : Nat) (d0 : Array NdS) (R : RowK ndV 6 w0 g 0 d0) (ys : List NdS) (W : World) (hW : SW w0 g ys W) (N : Nat) (hN : ys.length = N) (hs : N = d0.size) (cap : Nat) (h40 : N ≤ 40) :
    Calls Tryd.prog 38 #[.slice (some ⟨g, 0, none⟩) N cap, .int .i64 N, .func (.func 23) #[] #[]] W fun e w' => e = .returned (.tuple #[]) ∧ ∃ zs, Stab.Mrg keyS ys zs 0 N ∧ SW w0 g zs w' := by
  have HW := Lib.hid hW; have HN := Lib.hid hN
  have INS : Hid (∀ (zs : List NdS) (wq : World) (a b : Nat), zs.length = N → SW w0 g zs wq → a ≤ b → b ≤ N → Calls Tryd.prog 50 #[.slice (some ⟨g, 0, none⟩) N cap, .int .i64 a, .int .i64 b, .func (.func 23) #[] #[]] wq fun e w' => e = .returned (.tuple #[]) ∧ ∃ us, Stab.Mrg keyS zs us a b ∧ SW w0 g us w') := fun zs wq a b hl hz h1 h2 => by
    have h := ins_any w0 g d0 R zs wq hz (by rw [hl, hs]) cap a b h1 (by rw [hl]; exact h2) (by rw [hl]; omega)
    rw [hl] at h; exact h
  have SYM := Lib.hid (sym_any w0 g d0 R N hs cap (by omega) 40)
  clear R hW hs
  by_cases c1 : N < 20
  · have n1 : ¬ (20 : Int) ≤ N := by omega
    have n2 : ¬ (20 : Int) < N := by omega
    have I := Lib.hid (INS.out ys W 0 N HN.out HW.out (Nat.zero_le _) (Nat.le_refl _))
    clear INS SYM c1 h40
    go_enter Tryd.func38, Tryd.ntmps38
    go_wp2_with fail
    go_loopw [7, 8] (fun v u wr => v = .int .i64 0 ∧ u = .int .i64 20 ∧ wr = W) (fun _ _ _ => 0)
    case atStart => exact ⟨rfl, rfl, rfl⟩
    case round =>
      obtain ⟨rfl, rfl, rfl⟩ := hrel
      go_wp2_with fail
      refine I.out.mono ?_; rintro e w1 ⟨rfl, us, hu, hz⟩
      have HU := Lib.hid hu; have HZ := Lib.hid hz
      clear hu hz
      go_wp2_with fail
      go_loopw [6] (fun v wr => v = .int .i64 20 ∧ wr = w1) (fun _ _ => 0)
      case atStart => exact ⟨rfl, rfl⟩
      case round =>
        obtain ⟨rfl, rfl⟩ := hrel
        go_wp2_with fail
        go_end0
        exact ⟨rfl, us, HU.out, HZ.out⟩
  · have N20 : Hid (20 ≤ N) := by show _ ≤ _; omega
    have N40 := Lib.hid h40
    have n40 : (N : Int) ≤ 40 := by omega
    clear c1 h40
    go_enter Tryd.func38, Tryd.ntmps38
    go_wp2_with fail
    go_loopw [7, 8] (fun v u wr => ∃ (A B : Nat) (zs : List NdS), v = .int .i64 A ∧ u = .int .i64 B ∧ B = A + 20 ∧ (A = 0 ∨ A = 20 ∨ A = 40) ∧ A ≤ N ∧ Stab.Win ys zs 0 N ∧ Stab.Stb keyS ys zs ∧ (20 ≤ A → Stab.SrtOn keyS zs 0 20) ∧ (40 ≤ A → Stab.SrtOn keyS zs 20 40) ∧ SW w0 g zs wr) (fun v _ _ => 60 - (intOf v).toNat)
    case atStart => exact ⟨0, 20, ys, rfl, rfl, rfl, .inl rfl, Nat.zero_le _, Stab.Win.refl _ _ _, Stab.Stb.refl _, fun h => by omega, fun h => by omega, HW.out⟩
    case round =>
      obtain ⟨A, B, zs, rfl, rfl, hAB, hA, hAN, hwin, hstb, hs1, hs2, hsw⟩ := hrel
      have WIN := Lib.hid hwin; have STB := Lib.hid hstb; have S1 := Lib.hid hs1; have S2 := Lib.hid hs2; have HZ := Lib.hid hsw
      have ZL : Hid (zs.length = N) := by show _ = _; rw [hwin.len, HN.out]
      have AW := Lib.hid hA; have ABE := Lib.hid hAB
      have Ai : (A : Int) ≤ 40 := by omega
      have Bi : (B : Int) ≤ 60 := by omega
      clear hwin hstb hs1 hs2 hsw hA
      by_cases hB : B ≤ N
      · have hBi : (B : Int) ≤ N := by omega
        have I := Lib.hid (INS.out zs _ A B ZL.out HZ.out (by omega) hB)
        clear hAB
        go_wp2_with fail
        refine I.out.mono ?_; rintro e w1 ⟨rfl, us, hu, hz⟩
        have HU := Lib.hid hu; have HZ1 := Lib.hid hz
        clear hu hz
        go_wp2_with fail
        go_round
        case rel => exact ⟨B, B + 20, us, rfl, by go_num, rfl, by have := AW.out; have := ABE.out; have := N40.out; omega, hB, WIN.out.trans (HU.out.win.wide (Nat.zero_le _) hB), STB.out.trans HU.out.stb, fun _ => by
          rcases AW.out with h | h | h
          · have := HU.out.srt; rw [ABE.out, h] at this; exact this
          · exact (S1.out (by omega)).out HU.out.win (.inl (by omega))
          · exact (S1.out (by omega)).out HU.out.win (.inl (by omega)), fun h40 => by
          rcases AW.out with h | h | h
          · have := ABE.out; omega
          · have := HU.out.srt; rw [ABE.out, h] at this; exact this
          · exact (S2.out (by omega)).out HU.out.win (.inl (by omega)), HZ1.out⟩
        case measure => have := ABE.out; have := AW.out; have := N40.out; simp [intOf]; omega
      · have hBi : ¬ (B : Int) ≤ N := by omega
        have A20 : Hid (20 ≤ A) := by show _ ≤ _; have := N20.out; have := AW.out; omega
        have I := Lib.hid (INS.out zs _ A N ZL.out HZ.out hAN (Nat.le_refl _))
        have AN := Lib.hid hAN
        have BN : Hid (¬ B ≤ N) := hB
        clear hAB hAN hB
        go_wp2_with fail
        refine I.out.mono ?_; rintro e w1 ⟨rfl, us, hu, hz⟩
        have HZ1 := Lib.hid hz
        have UW : Hid (Stab.Win ys us 0 N) := WIN.out.trans (hu.win.wide (Nat.zero_le _) (Nat.le_refl _))
        have UL : Hid (us.length = N) := by show _ = _; rw [UW.out.len, HN.out]
        have US : Hid (Stab.Stb keyS ys us) := STB.out.trans hu.stb
        have U1 : Hid (Stab.SrtOn keyS us 0 20) := (S1.out A20.out).out hu.win (.inl A20.out)
        have U2 : Hid (Stab.SrtOn keyS us 20 N) := by
          show Stab.SrtOn _ _ _ _
          rcases AW.out with h | h | h
          · have := A20.out; omega
          · have := hu.srt; rw [h] at this; exact this
          · have hN4 : N = 40 := by have := AN.out; have := N40.out; omega
            have := (S2.out (by omega)).out hu.win (.inl (by omega))
            rw [hN4]; exact this
        clear hu hz I WIN STB S1 S2 HZ ZL INS
        go_wp2_with fail
        go_loopw [6] (fun v wr => (v = .int .i64 20 ∧ wr = w1) ∨ (v = .int .i64 40 ∧ ∃ fs, Stab.Mrg keyS ys fs 0 N ∧ SW w0 g fs wr)) (fun v _ => 60 - (intOf v).toNat)
        case atStart => exact .inl ⟨rfl, rfl⟩
        case round =>
          rcases hrel with ⟨rfl, hwr⟩ | ⟨rfl, fs, hf, hz⟩
          · have HZr : Hid (SW w0 g us wr) := hwr ▸ HZ1.out
            clear hwr HZ1
            by_cases e20 : N = 20
            · subst e20
              go_wp2_with fail
              go_end0
              exact ⟨rfl, us, ⟨UW.out, US.out, U1.out⟩, HZr.out⟩
            · have g20 : (20 : Int) < N := by have := N20.out; omega
              have G20 : Hid (20 < N) := by show _ < _; omega
              have S := Lib.hid (SYM.out us _ 0 20 N UL.out HZr.out (by omega) G20.out (Nat.le_refl _) (by have := N40.out; omega) U1.out U2.out)
              have MF : Hid (∀ fs, Stab.Mrg keyS us fs 0 N → Stab.Mrg keyS ys fs 0 N) := fun fs h => ⟨UW.out.trans h.win, US.out.trans h.stb, h.srt⟩
              by_cases e40 : N = 40
              · have l40 : (40 : Int) ≤ N := by omega
                have S4 := Lib.hid (SYM.out us _ 0 20 40 UL.out HZr.out (by omega) (by omega) (by omega) (by omega) U1.out (by rw [← e40]; exact U2.out))
                have E40 := Lib.hid e40
                clear e20 e40 S
                go_wp2_with fail
                go_loopw [7, 8] (fun v u wq => (v = .int .i64 0 ∧ u = .int .i64 40 ∧ wq = wr) ∨ (v = .int .i64 40 ∧ u = .int .i64 80 ∧ ∃ fs, Stab.Mrg keyS us fs 0 40 ∧ SW w0 g fs wq)) (fun v _ _ => 60 - (intOf v).toNat)
                case atStart => exact .inl ⟨rfl, rfl, rfl⟩
                case round =>
                  have n80 : ¬ (80 : Int) ≤ N := by omega
                  have n60 : ¬ (60 : Int) < N := by omega
                  rcases hrel with ⟨rfl, rfl, rfl⟩ | ⟨rfl, rfl, fs, hf, hz⟩
                  · go_wp2_with fail
                    refine S4.out.mono ?_; rintro e w2 ⟨rfl, fs, hf, hz⟩
                    have HF := Lib.hid hf; have HZ2 := Lib.hid hz
                    clear hf hz
                    go_wp2_with fail
                    go_round
                    case rel => exact .inr ⟨rfl, rfl, fs, HF.out, HZ2.out⟩
                    case measure => decide
                  · have HF := Lib.hid hf; have HZ2 := Lib.hid hz
                    clear hf hz
                    go_wp2_with fail
                    go_round
                    case rel => exact .inr ⟨rfl, fs, MF.out fs (by rw [E40.out]; exact HF.out), HZ2.out⟩
                    case measure => decide
              · have l40 : ¬ (40 : Int) ≤ N := by omega
                clear e20 e40
                go_wp2_with fail
                go_loopw [7, 8] (fun v u wq => v = .int .i64 0 ∧ u = .int .i64 40 ∧ wq = wr) (fun _ _ _ => 0)
                case atStart => exact ⟨rfl, rfl, rfl⟩
                case round =>
                  obtain ⟨rfl, rfl, rfl⟩ := hrel
                  go_wp2_with fail
                  refine S.out.mono ?_; rintro e w2 ⟨rfl, fs, hf, hz⟩
                  have HF := Lib.hid hf; have HZ2 := Lib.hid hz
                  clear hf hz
                  go_wp2_with fail
                  go_round
                  case rel => exact .inr ⟨rfl, fs, MF.out fs HF.out, HZ2.out⟩
                  case measure => decide
          · have HF := Lib.hid hf; have HZ2 := Lib.hid hz
            have l40 : ¬ (40 : Int) < N := by omega
            clear hf hz
            go_wp2_with fail
            go_end0
            exact ⟨rfl, fs, HF.out, HZ2.out⟩

/-- the nodes of a row that has been sorted -/
theorem srt_of_mrg {ys zs : List NdS} (h : Stab.Mrg keyS ys zs 0 ys.length) : nds zs = srt (nds ys) := by
  refine srt_of ?_ fun q => ?_
  · show List.Pairwise _ _
    rw [List.pairwise_iff_getElem]
    intro i j hi hj hij
    have hl : zs.length = ys.length := h.win.len
    rw [nds_len] at hi hj
    have := h.srt i j (Nat.zero_le _) hij (by omega)
    rw [Stab.g_get (by omega), Stab.g_get (by omega)] at this
    have e : ∀ (k : Nat) (h : k < (nds zs).length), (nds zs)[k] = (zs[k]'(by rw [nds_len] at h; exact h)).n := fun k h => List.getElem_map ..
    rw [e i, e j]
    exact this
  · have := h.stb (numsOf q)
    unfold at_ nds
    rw [List.filter_map, List.filter_map]
    have e : ∀ l : List NdS, l.filter ((fun x : Nd => decide (x.p = q)) ∘ NdS.n) = l.filter (fun x => decide (keyS x = numsOf q)) := fun l => by
      congr 1
      funext x
      show decide (x.n.p = q) = decide (numsOf x.n.p = numsOf q)
      by_cases c : x.n.p = q
      · rw [decide_eq_true c, decide_eq_true (by rw [c])]
      · rw [decide_eq_false c, decide_eq_false (fun e => c (by rw [← strOfNums_numsOf x.n.p, e, strOfNums_numsOf]))]
    rw [e, e, this]
set_option maxHeartbeats 4000000 in
theorem sort_any (g n cap : Nat) (ys : List NdS) (w : World) (hy : NdsAt w g 0 ys) (hf : ∀ j, w.frozen? ⟨g, j, none⟩ = false) (hg : g < w.heap.size) (hn : ys.length = n) (h40 : n ≤ 40) :
    Calls Tryd.prog 22 #[.slice (some ⟨g, 0, none⟩) n cap, .func (.func 23) #[] #[]] w fun e w' => e = .returned (.tuple #[]) ∧ ∃ zs, nds zs = srt (nds ys) ∧ (∀ z ∈ zs, z ∈ ys) ∧ zs.length = n ∧ NdsAt w' g 0 zs ∧ (∀ j, w'.frozen? ⟨g, j, none⟩ = false) ∧ Only (fun k => k = g) w w' := by
  have R := row_of hy hf hg
  have S := stable_any w g ys.toArray R ys w (SWK.start R.hH) n hn (by simpa using hn.symm) cap h40
  have HS := Lib.hid S; have HR := Lib.hid R; have HN := Lib.hid hn; have HF := Lib.hid hf; have HG := Lib.hid hg
  clear S hy hf hg R
  go_enter Tryd.func22, Tryd.ntmps22
  go_wp2_with fail
  refine HS.out.mono ?_; rintro e w1 ⟨rfl, zs, hm, hz⟩
  have HM := Lib.hid hm; have HZ := Lib.hid hz
  clear hm hz
  go_wp2_with fail
  go_end0
  have hl : zs.length = ys.length := HM.out.win.len
  refine ⟨rfl, zs, srt_of_mrg (by rw [HN.out]; exact HM.out), fun z h => HM.out.stb.mem h, by rw [hl, HN.out], SW.nds HR.out HZ.out (by simpa using hl), fun j => ?_, HZ.out.only⟩
  obtain ⟨m, os, rfl⟩ := HZ.out
  unfold sortWorldK
  rw [frozen?_grow _ _ _ (by show g < (putRowK _ _ _ _ _ _).heap.size; rw [size_putRowK]; exact HG.out)]
  unfold putRowK
  rw [frozen?_putRow]
  exact HF.out j
end Go.Proofs.YtmbimnnacjbdfaaDoor.Tre
