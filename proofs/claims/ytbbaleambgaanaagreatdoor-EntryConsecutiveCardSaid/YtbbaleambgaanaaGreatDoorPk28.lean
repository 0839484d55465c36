/-
  Layer 12: plain mathematics: a proper prefix; what is accepted is an encoding. No memory.
-/
import Derived.Test.YtbbaleambgaanaaGreatDoorPk06
import Derived.Test.YtbbaleambgaanaaGreatDoorPk05
namespace Go.Proofs.YtbbaleambgaanaaGreatDoor.Etr
open Go.Lib Go.RowKit Go.Proofs.YtbbaleambgaanaaGreatDoor.Fit Pxr Pnm

/-- a proper prefix of an encoding -/
theorem dcd_pre {e : Ent} (h : ckE e = 0) {Z : List Int} {k : Nat} (hk : k < (enZ e).length) (hZ : Z = (enZ e).take k) :
    (dcd Z 4 0 0).x = ez ∧ (dcd Z 4 0 0).p = k ∧ (dcd Z 4 0 0).e = if k = 0 then 4 else 5 := by
  obtain ⟨l1, l2⟩ := en_len h
  have hl : Z.length = k := by rw [hZ, List.length_take]; omega
  have hz : enZ e = enL e ++ hdB (plH e) := by unfold enZ; rw [if_neg (by simpa using h)]
  by_cases hk5 : 0 + 512 ≤ Z.length
  · have h0 : (plL e).length ≠ 0 := fun h0 => by rw [if_pos h0] at l2; omega
    rw [if_neg h0] at l2
    have hL : enL e = hdB (hX (fmB (plL e)).length) ++ padR (fmB (plL e)) := by unfold enL; rw [if_neg h0]
    obtain ⟨n, hn⟩ : ∃ n, n = (fmB (plL e)).length := ⟨_, rfl⟩
    have hn1 : 1 ≤ n := by rw [hn]; exact fm_pos h0
    have hn2 : n ≤ 196665 := by rw [hn]; exact fm_len h
    rw [← hn] at l2 hL
    obtain ⟨d0, d1, d2, d3, _⟩ := hd_dec (hX_ck (n := n) (by omega))
    have hZA : Z = hdB (hX n) ++ (padR (fmB (plL e)) ++ hdB (plH e)).take (k - 512) := by
      rw [hZ, hz, hL, List.append_assoc, List.take_append, d2, List.take_of_length_le (by omega)]
    have t1 : (Z.drop 0).take 512 = hdB (hX n) := by rw [List.drop_zero, hZA, ← d2, List.take_left]
    obtain ⟨_, n2, _⟩ := nx_go (E := 4) hk5
    have hT : Ust.dT (hdB (hX n)) = 120 := congrArg Hd.T d1
    have hsz : (hX n).sz = (n : Int) := rfl
    have hs : n ≤ 1099511627776 := by omega
    have e1 : dcd Z 4 0 0 = dc2 Z 4 0 (hX n) := by
      unfold dcd dc1
      rw [n2, if_neg (by simp), t1, if_neg d3, if_neg (by simpa using d0), if_pos hT, d1]
    rw [e1]
    unfold dc2
    rw [if_neg (not_not_intro (paxOk_hX hn1 (by omega))), hsz]
    have hk0 : k ≠ 0 := by omega
    rw [if_neg hk0]
    by_cases hr : 512 + 512 * blkN n ≤ k
    · have hZ1' : Z.drop (0 + 512) = fmB (plL e) ++ zeros (padN (fmB (plL e)).length) ++ (hdB (plH e)).take (k - 512 - 512 * blkN n) := by
        have hd : Z.drop (0 + 512) = (padR (fmB (plL e)) ++ hdB (plH e)).take (k - 512) := drop_at (o := 0) (by rw [List.drop_zero]; exact hZA) d2
        rw [hd, List.take_append, padR_len, ← hn, List.take_of_length_le (by rw [padR_len, ← hn]; omega)]
        unfold padR
        rw [← hn]
      obtain ⟨r1, r2, r3, r4, r5⟩ := rd_full (E := 4) hZ1' rfl (by omega) (by omega)
      rw [← hn] at r1 r2 r3 r4 r5
      have hpar := par_fm (pl_good (ck_ok.1 h)) (by omega)
      rw [r1, if_neg (by simp), r3, r4, hpar]
      unfold dc3
      have hst : ¬ (0 + 512 + (n + padN n)) + 512 ≤ Z.length := by rw [padN_blk]; omega
      obtain ⟨_, m2, m3⟩ := nx_stop (E := 4) hst
      rw [if_neg (by simp), m3]
      have m4 : nxE Z 4 (0 + 512 + (n + padN n)) 0 = 5 ∨ nxE Z 4 (0 + 512 + (n + padN n)) 0 = 4 := by
        rw [m2]; split
        · exact .inl rfl
        · exact .inr rfl
      rcases m4 with m4 | m4
      · rw [m4, if_pos (by decide)]; exact ⟨rfl, hl, rfl⟩
      · rw [m4, if_pos (by decide)]; exact ⟨rfl, hl, rfl⟩
    · have hok : ¬ pyOk Z (0 + 512) 0 (blkN n) := fun h => h.elim (fun h => by have := blkN_pos hn1; omega) (fun h => by omega)
      obtain ⟨r1, r2, r3, r4, r5⟩ := rd_no (E := 4) hs rfl hok
      have hp : pyO Z (0 + 512) 0 (blkN n) = Z.length := by unfold pyO; rw [if_neg hok, if_neg (by simp)]
      have he : pyE Z 4 (0 + 512) 0 (blkN n) = 5 ∨ pyE Z 4 (0 + 512) 0 (blkN n) = 4 := by
        unfold pyE; rw [if_neg hok, if_neg (by simp)]; split
        · exact .inl rfl
        · exact .inr rfl
      have hr1 : rdE Z 4 (0 + 512) 0 n = 5 := by rw [r1]; rcases he with he | he <;> rw [he] <;> decide
      rw [hr1, if_pos (by decide)]
      exact ⟨rfl, by show rdP Z (0 + 512) 0 n = k; rw [r2, hp, hl], rfl⟩
  · obtain ⟨_, n2, n3⟩ := nx_stop (E := 4) hk5
    have hne : nxE Z 4 0 0 ≠ 0 := by rw [n2]; split <;> decide
    have e1 : dcd Z 4 0 0 = ⟨ez, nxO Z 0 0, nxE Z 4 0 0, nxO Z 0 0, nxE Z 4 0 0⟩ := by unfold dcd; rw [if_pos hne]
    rw [e1]
    refine ⟨rfl, by show nxO Z 0 0 = k; rw [n3, hl], ?_⟩
    show nxE Z 4 0 0 = _
    rw [n2, hl]
    by_cases h0 : k = 0
    · rw [if_pos h0, if_neg (by omega)]
    · rw [if_neg h0, if_pos ⟨rfl, by omega⟩]

theorem nz_all {P : List Int} (h : ¬ nzI P < P.length) : P = zeros P.length := by
  apply List.ext_getElem?
  intro i
  by_cases hi : i < P.length
  · have h0 := nzI_zero (P := P) (i := i) (by have := nzI_le P; omega)
    rw [List.getD_eq_getElem?_getD, List.getElem?_eq_getElem hi] at h0
    have h1 : P[i] = 0 := h0
    unfold zeros
    rw [List.getElem?_eq_getElem hi, h1, List.getElem?_replicate, if_pos hi]
  · rw [List.getElem?_eq_none (by omega), List.getElem?_eq_none (by rw [zeros_length]; omega)]

/-- what Decode answers, in words -/
def Says (Z : List Int) (o : Nat) (d : DR) : Prop :=
  (d.e = 0 ∧ ckE d.x = 0 ∧ d.p = o ∧ o < d.o ∧ d.o ≤ Z.length ∧ d.s = 0 ∧ (Z.drop o).take (d.o - o) = enZ d.x) ∨ (d.e ≠ 0 ∧ o ≤ d.p ∧ d.p ≤ Z.length ∧ d.o ≤ Z.length ∧ d.x = ez)
theorem says_bad {Z : List Int} {o p o' : Nat} {e s : Int} (he : e ≠ 0) (h1 : o ≤ p) (h2 : p ≤ Z.length) (h3 : o' ≤ Z.length) : Says Z o ⟨ez, p, e, o', s⟩ := .inr ⟨he, h1, h2, h3, rfl⟩
theorem mg_says {Z : List Int} {o last : Nat} {h : Hd} {rs : List Rec} {o2 : Nat} (hl : o ≤ last) (ho : last ≤ Z.length) (h2 : o2 ≤ Z.length) (h3 : o < o2)
    (hok : mgOk h rs → (Z.drop o).take (o2 - o) = enZ (cmpE h rs)) : Says Z o (mgD h rs o last o2) := by
  unfold mgD
  split
  · rename_i hm
    exact .inl ⟨rfl, hm.1, rfl, h3, h2, rfl, hok hm⟩
  · refine .inr ⟨?_, hl, ho, h2, rfl⟩
    show (if rs.length = 0 then (6 : Int) else 17) ≠ 0
    split <;> decide
theorem take_two (L : List Int) (a b : Nat) : L.take (a + b) = L.take a ++ (L.drop a).take b := List.take_add ..
theorem dcd_says {Z : List Int} {E : Int} {o : Nat} {err : Int} (hZB : Bytes Z) (hE : E = 11 ∨ E = 4) (ho : o ≤ Z.length) : Says Z o (dcd Z E o err) := by
  unfold dcd
  by_cases hn : nxE Z E o err ≠ 0
  · rw [if_pos hn]
    have h1 : o ≤ nxO Z o err := by unfold nxO; split; exact Nat.le_refl _; split <;> omega
    exact says_bad hn h1 (nxO_le ho) (nxO_le ho)
  · rw [if_neg hn]
    have hn0 : nxE Z E o err = 0 := Decidable.byContradiction hn
    have hg : err = 0 ∧ o + 512 ≤ Z.length := by
      unfold nxE at hn0
      by_cases he : err ≠ 0
      · rw [if_pos he] at hn0; exact absurd hn0 he
      · rw [if_neg he] at hn0
        refine ⟨Decidable.byContradiction he, ?_⟩
        by_cases hc : o + 512 ≤ Z.length
        · exact hc
        · rw [if_neg hc] at hn0
          split at hn0 <;> omega
    obtain ⟨_, hg⟩ := hg
    obtain ⟨B, hB⟩ : ∃ B, B = (Z.drop o).take 512 := ⟨_, rfl⟩
    rw [← hB]
    unfold dc1
    by_cases hz : zeroB B
    · rw [if_pos hz]; exact says_bad (by decide) (Nat.le_refl _) ho hg
    · rw [if_neg hz]
      by_cases hd : Ust.deE B ≠ 0
      · rw [if_pos hd]; exact says_bad hd (Nat.le_refl _) ho hg
      · rw [if_neg hd]
        obtain ⟨b1, b2, b3, b4⟩ := hd_back (Decidable.byContradiction hd)
        by_cases hT : Ust.dT B = 120
        · rw [if_pos hT]
          unfold dc2
          by_cases hp : paxOk (hdOf B)
          · rw [if_neg (not_not_intro hp)]
            obtain ⟨x1, x2, x3, x4, x5, x6⟩ := hp
            obtain ⟨s, hs⟩ : ∃ s : Nat, (hdOf B).sz = s := ⟨(hdOf B).sz.toNat, by omega⟩
            rw [hs]
            have hs9 : s ≤ 1099511627776 := by omega
            by_cases hr : rdE Z E (o + 512) 0 s ≠ 0
            · rw [if_pos hr]
              refine says_bad hr ?_ ?_ (rdO_le hg)
              · by_cases hok : pyOk Z (o + 512) 0 (blkN s)
                · by_cases hi : nzI (rdPad Z (o + 512) s) < (rdPad Z (o + 512) s).length
                  · rw [(rd_pad (E := E) hs9 rfl hok hi).2.1]; omega
                  · rw [(rd_ok (E := E) hs9 rfl hok hi).2.1]; omega
                · rw [(rd_no (E := E) hs9 rfl hok).2.1]; unfold pyO; rw [if_neg hok, if_neg (by simp)]; omega
              · by_cases hok : pyOk Z (o + 512) 0 (blkN s)
                · have hl := rdPad_len hok
                  have hle : o + 512 + 512 * blkN s ≤ Z.length := by
                    rcases hok with h | h
                    · rw [h]; exact hg
                    · exact h.2
                  have hb := blkN_le s
                  by_cases hi : nzI (rdPad Z (o + 512) s) < (rdPad Z (o + 512) s).length
                  · rw [(rd_pad (E := E) hs9 rfl hok hi).2.1]; rw [hl.1] at hi; omega
                  · rw [(rd_ok (E := E) hs9 rfl hok hi).2.1]; exact hle
                · rw [(rd_no (E := E) hs9 rfl hok).2.1]; exact pyO_le hg
            · rw [if_neg hr]
              have hr0 : rdE Z E (o + 512) 0 s = 0 := Decidable.byContradiction hr
              have hok : pyOk Z (o + 512) 0 (blkN s) := by
                apply Decidable.byContradiction
                intro hok
                have h1 := (rd_no (E := E) hs9 rfl hok).1
                have h2 := pyE_ne hE hok
                rw [h1] at hr0
                split at hr0
                · cases hr0
                · exact h2 hr0
              have hi : ¬ nzI (rdPad Z (o + 512) s) < (rdPad Z (o + 512) s).length := by
                intro hi
                rw [(rd_pad (E := E) hs9 rfl hok hi).1] at hr0
                cases hr0
              obtain ⟨_, _, r3, r4, _⟩ := rd_ok (E := E) hs9 rfl hok hi
              obtain ⟨pl, xl⟩ := rdPad_len hok
              have hle : o + 512 + 512 * blkN s ≤ Z.length := by
                rcases hok with h | h
                · rw [h]; exact hg
                · exact h.2
              have hbs := blkN_le s
              obtain ⟨D, hD⟩ : ∃ D, D = (Z.drop (o + 512)).take s := ⟨_, rfl⟩
              have hDl : D.length = s := by rw [hD, List.length_take, List.length_drop]; omega
              have hDB : Bytes D := by rw [hD]; exact (hZB.drop _).take _
              have hpadD : (Z.drop (o + 512)).take (512 * blkN s) = padR D := by
                have h1 := (List.take_append_drop s ((Z.drop (o + 512)).take (512 * blkN s))).symm
                rw [List.take_take, Nat.min_eq_left hbs, ← hD] at h1
                have h2 : ((Z.drop (o + 512)).take (512 * blkN s)).drop s = rdPad Z (o + 512) s := rfl
                rw [h2, nz_all hi, pl] at h1
                rw [h1]
                unfold padR
                rw [hDl]
                congr 2
                have := padN_blk s
                omega
              rw [r3, r4, ← hD]
              obtain ⟨o2, ho2⟩ : ∃ o2, o2 = o + 512 + 512 * blkN s := ⟨_, rfl⟩
              rw [← ho2]
              have hle2 : o2 ≤ Z.length := by omega
              unfold dc3
              rcases par_says D hDB with ⟨q1, q2, q3, q4⟩ | ⟨q1, q2, q3⟩
              · rw [if_neg (by simpa using q1)]
                by_cases hm : nxE Z E o2 0 ≠ 0
                · rw [if_pos hm]
                  have h1 : o2 ≤ nxO Z o2 0 := by unfold nxO; split; exact Nat.le_refl _; split <;> omega
                  exact says_bad (by split <;> first | decide | exact hm) (by omega) (nxO_le hle2) (nxO_le hle2)
                · rw [if_neg hm]
                  have hm0 : nxE Z E o2 0 = 0 := Decidable.byContradiction hm
                  have hg2 : o2 + 512 ≤ Z.length := by
                    unfold nxE at hm0
                    rw [if_neg (by simp)] at hm0
                    by_cases hc : o2 + 512 ≤ Z.length
                    · exact hc
                    · rw [if_neg hc] at hm0
                      split at hm0 <;> omega
                  unfold dc4
                  obtain ⟨C, hC⟩ : ∃ C, C = (Z.drop o2).take 512 := ⟨_, rfl⟩
                  rw [← hC]
                  by_cases hd2 : Ust.deE C ≠ 0
                  · rw [if_pos hd2]; exact says_bad hd2 (by omega) hle2 hg2
                  · rw [if_neg hd2]
                    obtain ⟨c1, c2, c3, c4⟩ := hd_back (Decidable.byContradiction hd2)
                    refine mg_says (by omega) hle2 hg2 (by omega) fun hmg => ?_
                    obtain ⟨m1, m2, m3⟩ := hmg
                    obtain ⟨x, hx⟩ : ∃ x, x = cmpE (hdOf C) (Pxr.parZ D).1 := ⟨_, rfl⟩
                    rw [← hx] at m1 m2 m3 ⊢
                    have hne : (plL x).length ≠ 0 := by
                      intro h0
                      rw [m3] at h0
                      rw [List.length_eq_zero_iff.1 h0, fmB_nil] at q3
                      rw [← q3] at hDl
                      have : s = 0 := hDl.symm
                      omega
                    have hfm : fmB (plL x) = D := by rw [m3]; exact q3
                    have hBX : B = hdB (hX s) := by
                      rw [← b1]
                      have hT' : (hdOf B).T = 120 := hT
                      unfold hdB
                      rw [hT', x1, x2, x3, x4, hs]
                      rfl
                    unfold enZ enL
                    rw [if_neg (by simpa using m1), if_neg hne, hfm, hDl, ← hBX, m2, c1, show o2 + 512 - o = 512 + 512 * blkN s + 512 by omega, take_two, take_two, List.drop_drop, List.drop_drop, ← hB, ← hpadD, hC, show o + (512 + 512 * blkN s) = o2 by omega]
              · rw [if_pos q1]
                refine says_bad q1 (by omega) ?_ hle2
                omega
          · rw [if_pos hp]; exact says_bad (by decide) (Nat.le_refl _) ho hg
        · rw [if_neg hT]
          refine mg_says (Nat.le_refl _) ho hg (by omega) fun hmg => ?_
          obtain ⟨m1, m2, m3⟩ := hmg
          unfold enZ enL
          rw [if_neg (by simpa using m1), m3, if_pos (show ([] : List Rec).length = 0 from rfl), m2, b1, List.nil_append, show o + 512 - o = 512 by omega, hB]
/-- a reader that has an error -/
theorem dcd_err {Z : List Int} {E : Int} {o : Nat} {err : Int} (h : err ≠ 0) : dcd Z E o err = ⟨ez, o, err, o, err⟩ := by
  obtain ⟨_, n2, n3⟩ := nx_err (Z := Z) (E := E) (o := o) h
  unfold dcd
  rw [n2, n3, if_pos h]
end Go.Proofs.YtbbaleambgaanaaGreatDoor.Etr
/-
  Layer 12: plain mathematics: what the parts of the program's Decode answer. No memory.
-/
namespace Go.Proofs.YtbbaleambgaanaaGreatDoor.Etr
open Go.Lib Go.RowKit Go.Proofs.YtbbaleambgaanaaGreatDoor.Fit Pxr Pnm

/-- a header's cells -/
abbrev hdW (h : Hd) : List Value := Ust.hdV h.T h.nm h.pf h.lk h.md h.sz
/-- the empty header -/
def hz : Hd := ⟨0, emp, emp, emp, 0, 0⟩

theorem nx_zero' {Z : List Int} {E : Int} {o : Nat} {err : Int} (hE : E = 11 ∨ E = 4) (h : nxE Z E o err = 0) : err = 0 ∧ o + 512 ≤ Z.length := by
  unfold nxE at h
  by_cases he : err ≠ 0
  · rw [if_pos he] at h; exact absurd h he
  · rw [if_neg he] at h
    refine ⟨Decidable.byContradiction he, ?_⟩
    by_cases hc : o + 512 ≤ Z.length
    · exact hc
    · rw [if_neg hc] at h
      split at h <;> omega

/-! the last header's block -/
noncomputable def lsE (Z : List Int) (E : Int) (o : Nat) : Int := if nxE Z E o 0 ≠ 0 then (if nxE Z E o 0 = 4 then 5 else nxE Z E o 0) else Ust.deE ((Z.drop o).take 512)
noncomputable def lsP (Z : List Int) (E : Int) (o : Nat) : Nat := if nxE Z E o 0 ≠ 0 then nxO Z o 0 else if Ust.deE ((Z.drop o).take 512) ≠ 0 then o else 0
noncomputable def lsH (Z : List Int) (E : Int) (o : Nat) : Hd := if lsE Z E o ≠ 0 then hz else hdOf ((Z.drop o).take 512)
theorem ls_next {Z : List Int} {E : Int} {o : Nat} (h : nxE Z E o 0 ≠ 0) : lsE Z E o = (if nxE Z E o 0 = 4 then 5 else nxE Z E o 0) ∧ lsP Z E o = nxO Z o 0 ∧ lsH Z E o = hz ∧ lsE Z E o ≠ 0 := by
  have e : lsE Z E o = (if nxE Z E o 0 = 4 then 5 else nxE Z E o 0) := if_pos h
  have n : lsE Z E o ≠ 0 := by rw [e]; split <;> first | decide | assumption
  exact ⟨e, if_pos h, if_pos n, n⟩
theorem ls_bad {Z : List Int} {E : Int} {o : Nat} (h : nxE Z E o 0 = 0) (hd : Ust.deE ((Z.drop o).take 512) ≠ 0) : lsE Z E o = Ust.deE ((Z.drop o).take 512) ∧ lsP Z E o = o ∧ lsH Z E o = hz := by
  have e : lsE Z E o = Ust.deE ((Z.drop o).take 512) := if_neg (by simpa using h)
  refine ⟨e, ?_, if_pos (by rw [e]; exact hd)⟩
  unfold lsP; rw [if_neg (by simpa using h), if_pos hd]
theorem ls_ok {Z : List Int} {E : Int} {o : Nat} (h : nxE Z E o 0 = 0) (hd : Ust.deE ((Z.drop o).take 512) = 0) : lsE Z E o = 0 ∧ lsP Z E o = 0 ∧ lsH Z E o = hdOf ((Z.drop o).take 512) := by
  have e : lsE Z E o = 0 := by unfold lsE; rw [if_neg (by simpa using h)]; exact hd
  refine ⟨e, ?_, if_neg (by simpa using e)⟩
  unfold lsP; rw [if_neg (by simpa using h), if_neg (by simpa using hd)]

/-! the records behind an extended header -/
open Classical in
noncomputable def rcE (Z : List Int) (E : Int) (o : Nat) (h : Hd) : Int := if ¬ paxOk h then 17 else if rdE Z E (o + 512) 0 h.sz ≠ 0 then rdE Z E (o + 512) 0 h.sz else (Pxr.parZ (rdD Z (o + 512) 0 h.sz)).2.2
open Classical in
noncomputable def rcP (Z : List Int) (E : Int) (o : Nat) (h : Hd) : Nat := if ¬ paxOk h then o else if rdE Z E (o + 512) 0 h.sz ≠ 0 then rdP Z (o + 512) 0 h.sz else if (Pxr.parZ (rdD Z (o + 512) 0 h.sz)).2.2 ≠ 0 then o + 512 + (Pxr.parZ (rdD Z (o + 512) 0 h.sz)).2.1 else 0
open Classical in
noncomputable def rcR (Z : List Int) (E : Int) (o : Nat) (h : Hd) : List Rec := if ¬ paxOk h then [] else if rdE Z E (o + 512) 0 h.sz ≠ 0 then [] else if (Pxr.parZ (rdD Z (o + 512) 0 h.sz)).2.2 ≠ 0 then [] else (Pxr.parZ (rdD Z (o + 512) 0 h.sz)).1
open Classical in
noncomputable def rcO (Z : List Int) (o : Nat) (h : Hd) : Nat := if ¬ paxOk h then o + 512 else rdO Z (o + 512) 0 h.sz
open Classical in
noncomputable def rcS (Z : List Int) (E : Int) (o : Nat) (h : Hd) : Int := if ¬ paxOk h then 0 else rdS Z E (o + 512) 0 h.sz
section
variable {Z : List Int} {E : Int} {o : Nat} {h : Hd}
theorem rc_pax (hp : ¬ paxOk h) : rcE Z E o h = 17 ∧ rcP Z E o h = o ∧ rcR Z E o h = [] ∧ rcO Z o h = o + 512 ∧ rcS Z E o h = 0 := ⟨if_pos hp, if_pos hp, if_pos hp, if_pos hp, if_pos hp⟩
theorem rc_read (hp : paxOk h) (hr : rdE Z E (o + 512) 0 h.sz ≠ 0) : rcE Z E o h = rdE Z E (o + 512) 0 h.sz ∧ rcP Z E o h = rdP Z (o + 512) 0 h.sz ∧ rcR Z E o h = [] ∧ rcO Z o h = rdO Z (o + 512) 0 h.sz ∧ rcS Z E o h = rdS Z E (o + 512) 0 h.sz := by
  have hn := not_not_intro hp
  unfold rcE rcP rcR rcO rcS
  rw [if_neg hn, if_neg hn, if_neg hn, if_neg hn, if_neg hn, if_pos hr, if_pos hr, if_pos hr]
  exact ⟨rfl, rfl, rfl, rfl, rfl⟩
theorem rc_par (hp : paxOk h) (hr : rdE Z E (o + 512) 0 h.sz = 0) (hq : (Pxr.parZ (rdD Z (o + 512) 0 h.sz)).2.2 ≠ 0) :
    rcE Z E o h = (Pxr.parZ (rdD Z (o + 512) 0 h.sz)).2.2 ∧ rcP Z E o h = o + 512 + (Pxr.parZ (rdD Z (o + 512) 0 h.sz)).2.1 ∧ rcR Z E o h = [] ∧ rcO Z o h = rdO Z (o + 512) 0 h.sz ∧ rcS Z E o h = rdS Z E (o + 512) 0 h.sz := by
  have hn := not_not_intro hp
  have hr' : ¬ rdE Z E (o + 512) 0 h.sz ≠ 0 := by simpa using hr
  unfold rcE rcP rcR rcO rcS
  rw [if_neg hn, if_neg hn, if_neg hn, if_neg hn, if_neg hn, if_neg hr', if_neg hr', if_neg hr', if_pos hq, if_pos hq]
  exact ⟨rfl, rfl, rfl, rfl, rfl⟩
theorem rc_ok (hp : paxOk h) (hr : rdE Z E (o + 512) 0 h.sz = 0) (hq : (Pxr.parZ (rdD Z (o + 512) 0 h.sz)).2.2 = 0) :
    rcE Z E o h = 0 ∧ rcP Z E o h = 0 ∧ rcR Z E o h = (Pxr.parZ (rdD Z (o + 512) 0 h.sz)).1 ∧ rcO Z o h = rdO Z (o + 512) 0 h.sz ∧ rcS Z E o h = rdS Z E (o + 512) 0 h.sz := by
  have hn := not_not_intro hp
  have hr' : ¬ rdE Z E (o + 512) 0 h.sz ≠ 0 := by simpa using hr
  have hq' : ¬ (Pxr.parZ (rdD Z (o + 512) 0 h.sz)).2.2 ≠ 0 := by simpa using hq
  unfold rcE rcP rcR rcO rcS
  rw [if_neg hn, if_neg hn, if_neg hn, if_neg hn, if_neg hn, if_neg hr', if_neg hr', if_neg hr', if_neg hq', if_neg hq']
  exact ⟨hq, rfl, rfl, rfl, rfl⟩
theorem rd_zero {s : Nat} (hs : s ≤ 1099511627776) (hE : E = 11 ∨ E = 4) (hr : rdE Z E o 0 s = 0) : rdS Z E o 0 s = 0 ∧ rdO Z o 0 s = o + 512 * blkN s ∧ rdP Z o 0 s = o + 512 * blkN s := by
  by_cases hok : pyOk Z o 0 (blkN s)
  · by_cases hi : nzI (rdPad Z o s) < (rdPad Z o s).length
    · rw [(rd_pad (E := E) hs rfl hok hi).1] at hr; cases hr
    · obtain ⟨_, r2, _, r4, r5⟩ := rd_ok (E := E) hs rfl hok hi
      exact ⟨r5, r4, r2⟩
  · have h1 := (rd_no (E := E) hs rfl hok).1
    have h2 := pyE_ne hE hok
    rw [h1] at hr
    split at hr
    · cases hr
    · exact absurd hr h2
theorem rc_zero (hE : E = 11 ∨ E = 4) (hr : rcE Z E o h = 0) : paxOk h ∧ rdE Z E (o + 512) 0 h.sz = 0 ∧ (Pxr.parZ (rdD Z (o + 512) 0 h.sz)).2.2 = 0 ∧ rcS Z E o h = 0 ∧ rcO Z o h = rdO Z (o + 512) 0 h.sz := by
  by_cases hp : paxOk h
  · by_cases h1 : rdE Z E (o + 512) 0 h.sz = 0
    · by_cases h2 : (Pxr.parZ (rdD Z (o + 512) 0 h.sz)).2.2 = 0
      · refine ⟨hp, h1, h2, ?_, (rc_ok hp h1 h2).2.2.2.1⟩
        rw [(rc_ok hp h1 h2).2.2.2.2]
        obtain ⟨s, hs⟩ : ∃ s : Nat, h.sz = s := ⟨h.sz.toNat, by have := hp.2.2.2.2; omega⟩
        have h8 := hp.2.2.2.2.2
        rw [hs] at h1 h8 ⊢
        exact (rd_zero (by omega) hE h1).1
      · rw [(rc_par hp h1 h2).1] at hr; exact absurd hr h2
    · rw [(rc_read hp h1).1] at hr; exact absurd hr h1
  · rw [(rc_pax hp).1] at hr; cases hr
theorem dc2_bad (hE : E = 11 ∨ E = 4) (hr : rcE Z E o h ≠ 0) : dc2 Z E o h = ⟨ez, rcP Z E o h, rcE Z E o h, rcO Z o h, rcS Z E o h⟩ := by
  unfold dc2
  by_cases hp : paxOk h
  · rw [if_neg (not_not_intro hp)]
    by_cases h1 : rdE Z E (o + 512) 0 h.sz = 0
    · by_cases h2 : (Pxr.parZ (rdD Z (o + 512) 0 h.sz)).2.2 = 0
      · exact absurd (rc_ok hp h1 h2).1 hr
      · obtain ⟨e1, e2, _, e4, e5⟩ := rc_par hp h1 h2
        have h8 := hp.2.2.2.2
        obtain ⟨s, hs⟩ : ∃ s : Nat, h.sz = s := ⟨h.sz.toNat, by omega⟩
        have z5 : rdS Z E (o + 512) 0 h.sz = 0 := by rw [hs] at h1 h8 ⊢; exact (rd_zero (by omega) hE h1).1
        rw [if_neg (by simpa using h1), e1, e2, e4, e5, z5]
        unfold dc3
        rw [if_pos h2]
    · obtain ⟨e1, e2, _, e4, e5⟩ := rc_read hp h1
      rw [if_pos h1, e1, e2, e4, e5]
  · obtain ⟨e1, e2, _, e4, e5⟩ := rc_pax (Z := Z) (E := E) (o := o) hp
    rw [if_pos hp, e1, e2, e4, e5]
theorem dc2_last (hE : E = 11 ∨ E = 4) (hr : rcE Z E o h = 0) (hl : lsE Z E (rcO Z o h) ≠ 0) : dc2 Z E o h = ⟨ez, lsP Z E (rcO Z o h), lsE Z E (rcO Z o h), nxO Z (rcO Z o h) 0, nxE Z E (rcO Z o h) 0⟩ := by
  obtain ⟨hp, h1, h2, h3, h4⟩ := rc_zero hE hr
  unfold dc2 dc3
  rw [if_neg (not_not_intro hp), if_neg (by simpa using h1), if_neg (by simpa using h2), ← h4]
  by_cases hn : nxE Z E (rcO Z o h) 0 ≠ 0
  · obtain ⟨e1, e2, _, _⟩ := ls_next hn
    rw [if_pos hn, e1, e2]
  · have hn0 : nxE Z E (rcO Z o h) 0 = 0 := Decidable.byContradiction hn
    obtain ⟨_, hg⟩ := nx_zero' hE hn0
    have hd : Ust.deE ((Z.drop (rcO Z o h)).take 512) ≠ 0 := fun hd => hl (ls_ok hn0 hd).1
    obtain ⟨e1, e2, _⟩ := ls_bad hn0 hd
    unfold dc4
    rw [if_neg hn, if_pos hd, e1, e2, hn0, (nx_go (E := E) hg).2.2]
theorem dc2_ok (hE : E = 11 ∨ E = 4) (hr : rcE Z E o h = 0) (hl : lsE Z E (rcO Z o h) = 0) : dc2 Z E o h = mgD (lsH Z E (rcO Z o h)) (rcR Z E o h) o (rcO Z o h) (rcO Z o h + 512) ∧ nxE Z E (rcO Z o h) 0 = 0 ∧ nxO Z (rcO Z o h) 0 = rcO Z o h + 512 := by
  obtain ⟨hp, h1, h2, h3, h4⟩ := rc_zero hE hr
  have hn0 : nxE Z E (rcO Z o h) 0 = 0 := Decidable.byContradiction fun hn => (ls_next hn).2.2.2 hl
  obtain ⟨_, hg⟩ := nx_zero' hE hn0
  have hd : Ust.deE ((Z.drop (rcO Z o h)).take 512) = 0 := Decidable.byContradiction fun hd => hd ((ls_bad hn0 hd).1.symm.trans hl)
  refine ⟨?_, hn0, (nx_go (E := E) hg).2.2⟩
  rw [(ls_ok hn0 hd).2.2, (rc_ok hp h1 h2).2.2.1]
  unfold dc2 dc3
  rw [if_neg (not_not_intro hp), if_neg (by simpa using h1), if_neg (by simpa using h2), ← h4, if_neg (by simpa using hn0)]
  unfold dc4
  rw [if_neg (by simpa using hd)]
theorem rcO_le (ho : o + 512 ≤ Z.length) : rcO Z o h ≤ Z.length := by
  unfold rcO; split
  · exact ho
  · exact rdO_le ho
end
end Go.Proofs.YtbbaleambgaanaaGreatDoor.Etr
/-
  bytes.Clone.
-/
namespace Go.Proofs.YtbbaleambgaanaaGreatDoor
open Go.RowKit

set_option maxRecDepth 100000 in
set_option maxHeartbeats 1000000 in
theorem bclone (a : Option Addr) (n cap : Nat) (zs : List Int) (w : World) (hb : InK .u8 w a zs) (hl : zs.length = n) (hn : n ≤ 140737488355328) :
    Calls Tryz.prog 32 #[.slice a n cap] w fun e w' => ∃ v, e = .returned v ∧ w'.ownsRow w.heap.size 5 1 v n (zs.map (.int .u8)) ∧ Below w.heap.size w w' := by
  have HB := Lib.hid hb; clear hb
  have HL := Lib.hid hl; clear hl
  have HN := Lib.hid hn; clear hn
  have HE := Lib.hid u8T
  have he : (Tryz.prog.info? 5).map (·.size) = some 1 := by obtain ⟨i, h1, _, h2, _⟩ := u8T; simp [h1, h2]
  have HE1 := Lib.hid he; clear he
  have he : ∀ w : World, (binOp .eql 24 (.slice none n cap) (.slice none 0 0)).run Tryz.prog w = .ok (.bool true) w := fun _ => rfl
  have he' : ∀ (x : Addr) (w : World), (binOp .eql 24 (.slice (some x) n cap) (.slice none 0 0)).run Tryz.prog w = .ok (.bool false) w := fun _ _ => rfl
  cases a with
  | none =>
    have h0 : zs = [] := by
      rcases HB.out with h | ⟨_, _, h, _⟩
      · exact h
      · cases h
    subst h0
    obtain rfl : n = 0 := HL.out.symm
    go_enter Tryz.func32, Tryz.ntmps32
    go_wp2
    go_ret
    exact ⟨_, rfl, ⟨rfl, .inl ⟨rfl, rfl⟩⟩, Below.refl _ _⟩
  | some x =>
    go_enter Tryz.func32, Tryz.ntmps32
    go_wp2_with (first | (refine wpList_lit_k rfl 24 5 .u8 rfl Tryz.underlying24 HE1.out ?_; intro w1 h1 b1; have O1 := Lib.hid h1; have B1 := Lib.hid b1; clear h1 b1) | (at_builtin; refine wpList_append_k rfl _ _ 24 rfl w.heap.size 5 .u8 1 Tryz.underlying24 HE.out (.slice (some ⟨w.heap.size, 0, none⟩) 0 0) 0 [] rfl O1.out (some x) n cap zs rfl (HB.out.below B1.out) HL.out (by have := HN.out; unfold maxLen; omega) (by have := HN.out; omega) B1.out.size ?_; intro v2 w2 h2 b2; rw [Nat.zero_add, List.nil_append] at h2; have O2 := Lib.hid h2; have B2 := Lib.hid b2; clear h2 b2))
    go_ret
    exact ⟨_, rfl, O2.out, B1.out.trans B2.out⟩
end Go.Proofs.YtbbaleambgaanaaGreatDoor
/-
  slices.Clone at []int.
-/
namespace Go.Proofs.YtbbaleambgaanaaGreatDoor
open Go.RowKit

set_option maxRecDepth 100000 in
set_option maxHeartbeats 1000000 in
theorem iclone (a : Option Addr) (n cap : Nat) (zs : List Int) (w : World) (hb : InK .i64 w a zs) (hl : zs.length = n) (hn : n ≤ 17592186044416) :
    Calls Tryz.prog 31 #[.slice a n cap] w fun e w' => ∃ v, e = .returned v ∧ w'.ownsRow w.heap.size 3 1 v n (zs.map (.int .i64)) ∧ Below w.heap.size w w' := by
  have HB := Lib.hid hb; clear hb
  have HL := Lib.hid hl; clear hl
  have HN := Lib.hid hn; clear hn
  have HE := Lib.hid i64T
  have he : (Tryz.prog.info? 3).map (·.size) = some 1 := by obtain ⟨i, h1, _, h2, _⟩ := i64T; simp [h1, h2]
  have HE1 := Lib.hid he; clear he
  have he : ∀ w : World, (binOp .eql 34 (.slice none n cap) (.slice none 0 0)).run Tryz.prog w = .ok (.bool true) w := fun _ => rfl
  have he' : ∀ (x : Addr) (w : World), (binOp .eql 34 (.slice (some x) n cap) (.slice none 0 0)).run Tryz.prog w = .ok (.bool false) w := fun _ _ => rfl
  cases a with
  | none =>
    have h0 : zs = [] := by
      rcases HB.out with h | ⟨_, _, h, _⟩
      · exact h
      · cases h
    subst h0
    obtain rfl : n = 0 := HL.out.symm
    go_enter Tryz.func31, Tryz.ntmps31
    go_wp2
    go_ret
    exact ⟨_, rfl, ⟨rfl, .inl ⟨rfl, rfl⟩⟩, Below.refl _ _⟩
  | some x =>
    go_enter Tryz.func31, Tryz.ntmps31
    go_wp2_with (first | (refine wpList_lit_k rfl 34 3 .i64 rfl Tryz.underlying34 HE1.out ?_; intro w1 h1 b1; have O1 := Lib.hid h1; have B1 := Lib.hid b1; clear h1 b1) | (at_builtin; refine wpList_append_k rfl _ _ 34 rfl w.heap.size 3 .i64 8 Tryz.underlying34 HE.out (.slice (some ⟨w.heap.size, 0, none⟩) 0 0) 0 [] rfl O1.out (some x) n cap zs rfl (HB.out.below B1.out) HL.out (by have := HN.out; unfold maxLen; omega) (by have := HN.out; omega) B1.out.size ?_; intro v2 w2 h2 b2; rw [Nat.zero_add, List.nil_append] at h2; have O2 := Lib.hid h2; have B2 := Lib.hid b2; clear h2 b2))
    go_ret
    exact ⟨_, rfl, O2.out, B1.out.trans B2.out⟩
end Go.Proofs.YtbbaleambgaanaaGreatDoor
/-
  Walks of layer 4: the next chunk size.
-/
namespace Go.Proofs.YtbbaleambgaanaaGreatDoor
open Go.RowKit

/-- the chunks at c -/
def Chk (w : World) (c : Nat) (sa : Option Addr) (sc : Nat) (cs : List Int) (r : Nat) : Prop :=
  ObjAt w c 80 [.slice sa cs.length sc, .int .i64 (ixN cs r)] ∧ InK .i64 w sa cs ∧ cs.length ≤ 140737488355328 ∧ ∀ x, sa = some x → x.block ≠ c

set_option maxHeartbeats 1000000 in
theorem next_any (c : Nat) (sa : Option Addr) (sc : Nat) (cs : List Int) (r : Nat) (w : World) (h : Chk w c sa sc cs r) :
    Calls Tryz.prog 33 #[.pointer (some ⟨c, 0, none⟩)] w fun e w' => e = .returned (.int .i64 (chunkZ cs r)) ∧ Chk w' c sa sc cs (r + 1) ∧ Out c (c + 1) w w' := by
  have H := Lib.hid h
  obtain ⟨ho, hi, hm, hx⟩ := h
  have HO := Lib.hid ho
  by_cases hz : cs.length = 0
  · have HZ := Lib.hid hz
    have c0 : w.cell? ⟨c, 0, none⟩ = some (.slice sa 0 sc) := by have := ho.get 0 rfl; rwa [hz] at this
    clear ho hi hm hx hz
    go_enter Tryz.func33, Tryz.ntmps33
    go_wp2
    go_ret
    refine ⟨?_, ?_, .refl _ _ _⟩
    · unfold chunkZ; rw [if_pos HZ.out]; rfl
    · have := H.out
      unfold Chk ixN at this ⊢
      rw [if_pos HZ.out] at this ⊢
      exact this
  · obtain ⟨L, hL⟩ := named cs.length
    obtain ⟨i, hI⟩ := named (r % cs.length)
    obtain ⟨d, hd⟩ := named (cs.getD i 0)
    have e1 : ixN cs r = i := by unfold ixN; rw [if_neg hz, hI.out]
    have hlt : i < cs.length := by rw [hI.out]; exact Nat.mod_lt _ (by omega)
    obtain ⟨b, off, rfl, hb⟩ := hi.plain (by omega)
    have cd := hi.get i hlt
    have cf := ho.frozen 1
    rw [← hd.out] at cd
    have c0 : w.cell? ⟨c, 0, none⟩ = some (.slice (some ⟨b, off, none⟩) L sc) := by have := ho.get 0 rfl; rwa [← hL.out] at this
    have c1 : w.cell? ⟨c, 1, none⟩ = some (.int .i64 i) := by have := ho.get 1 rfl; rwa [e1] at this
    have hxb : b ≠ c := hx _ rfl
    have hm' : L ≤ 140737488355328 := by rw [hL.out]; exact hm
    have hlt' : (i : Int) < L := by rw [hL.out]; omega
    have hL0 : ¬ L = 0 := by rw [hL.out]; exact hz
    have HX := Lib.hid hx; have HXB := Lib.hid hxb; have HM := Lib.hid hm; have HZ := Lib.hid hz; have E1 := Lib.hid e1; have HLT := Lib.hid hlt; have HIN := Lib.hid hi
    clear ho hi hm hx hz e1 hlt hxb
    go_enter Tryz.func33, Tryz.ntmps33
    go_wp2
    go_quiet (fail)
    go_wp2
    have hnext : ((i : Int) + 1) % (L : Int) = (ixN cs (r + 1) : Nat) := by
      unfold ixN; rw [if_neg HZ.out, hL.out, hI.out]
      rw [show ((r % cs.length : Nat) : Int) + 1 = ((r % cs.length + 1 : Nat) : Int) by omega, ← Int.natCast_emod, Nat.mod_add_mod]
    have hck : chunkZ cs r = max d 1 := by unfold chunkZ; rw [if_neg HZ.out, hd.out, hI.out]
    have HN := Lib.hid hnext; have HK := Lib.hid hck
    clear hnext hck
    have fin : ∀ nq, Chk ((w.drewN nq).setCell ⟨c, 1, none⟩ (.int .i64 ((i + 1 : Int) % L))) c (some ⟨b, off, none⟩) sc cs (r + 1) ∧ Out c (c + 1) w ((w.drewN nq).setCell ⟨c, 1, none⟩ (.int .i64 ((i + 1 : Int) % L))) := by
      intro nq
      have ho : ObjAt (w.drewN nq) c 80 _ := HO.out
      refine ⟨⟨?_, (show InK .i64 (w.drewN nq) _ cs from HIN.out).set _ HX.out, HM.out, HX.out⟩, ?_⟩
      · rw [HN.out]; exact ho.set 1 _
      · have : Out c (c + 1) w (w.drewN nq) := ⟨rfl, rfl, rfl, Nat.le_refl _, fun _ _ _ => rfl⟩
        exact this.setCell (Nat.le_refl _) (Nat.lt_succ_self _) _
    have FIN := Lib.hid fin; clear fin
    by_cases hd1 : 1 ≤ d
    · have HKd : Hid (chunkZ cs r = d) := by show _ = _; rw [HK.out]; omega
      go_region
      all_goals (go_wp2; go_ret; exact ⟨by rw [HKd.out]; rfl, FIN.out _⟩)
    · have HKd : Hid (chunkZ cs r = 1) := by show _ = _; rw [HK.out]; omega
      go_region
      all_goals (go_wp2; go_ret; exact ⟨by rw [HKd.out]; rfl, FIN.out _⟩)
end Go.Proofs.YtbbaleambgaanaaGreatDoor
