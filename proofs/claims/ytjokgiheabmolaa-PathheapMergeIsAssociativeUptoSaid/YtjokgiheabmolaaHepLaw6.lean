/-
  PathheapMergeIsAssociative.
-/
import Derived.Test.YtjokgiheabmolaaHepLaw2
namespace Go.Proofs.Ytjokgiheabmolaa
open Go.RowKit Hep

namespace Hep
theorem mrg_eq {ls ks : List (List ByteArray)} (h : ls.flatten.Perm ks.flatten) : mrg ls = mrg ks := sorted_eq (mrg_sorted ls) (mrg_sorted ks) ((mrg_perm ls).trans (h.trans (mrg_perm ks).symm))
theorem perm2 (A B : List ByteArray) : (mrg [A, B]).Perm (A ++ B) := by simpa using mrg_perm [A, B]
theorem perm1 (A : List ByteArray) : (mrg [A]).Perm A := by simpa using mrg_perm [A]
theorem mrg_cab' (A B C : List ByteArray) : mrg [mrg [C, A], B] = mrg [A, B, C] := mrg_eq (by
  simp only [List.flatten_cons, List.flatten_nil, List.append_nil]
  refine ((perm2 C A).append_right B).trans ?_
  rw [List.append_assoc, ← List.append_assoc A]
  exact List.perm_append_comm)
theorem mrg_bac (A B C : List ByteArray) : mrg [mrg [B], mrg [A, C]] = mrg [A, B, C] := mrg_eq (by
  simp only [List.flatten_cons, List.flatten_nil, List.append_nil]
  refine ((perm1 B).append (perm2 A C)).trans ?_
  rw [← List.append_assoc, ← List.append_assoc]
  exact List.perm_append_comm.append_right C)
end Hep

set_option maxRecDepth 100000 in
set_option maxHeartbeats 8000000 in
theorem walk_PathheapMergeIsAssociative (a : Option Addr) (na ca : Nat) (A : List ByteArray) (b : Option Addr) (nb cb : Nat) (B : List ByteArray) (c : Option Addr) (nc cc : Nat) (C : List ByteArray) (w : World)
    (ha : ArgSs w a na ca A) (hb : ArgSs w b nb cb B) (hc : ArgSs w c nc cc C) (hn : na + nb + nc ≤ 1048576) :
    Calls Try.prog 8 #[.slice a na ca, .slice b nb cb, .slice c nc cc] w fun e w' => e = .returned (.bool true) ∧ Below w.heap.size w w' := by
  have HA := Lib.hid ha; have HB := Lib.hid hb; have HC := Lib.hid hc
  have HN := Lib.hid hn
  obtain ⟨N, hN⟩ := named (na + nb + nc)
  obtain ⟨N1, hN1⟩ := named (nc + na)
  obtain ⟨N2, hN2⟩ := named (na + nc)
  have LA := ha.n; have LB := hb.n; have LC := hc.n
  have F0 : Hid (N = [A, B, C].flatten.length) := by show _ = _; rw [hN.out]; simp; omega
  have F1 : Hid (N1 = [C, A].flatten.length) := by show _ = _; rw [hN1.out]; simp; omega
  have F2 : Hid (N = [mrg [C, A], B].flatten.length) := by
    show _ = _
    have := (mrg_perm [C, A]).length_eq
    rw [← F1.out] at this
    rw [hN.out]; simp; have := hN1.out; omega
  have F3 : Hid (nb = [B].flatten.length) := by show _ = _; simp; omega
  have F4 : Hid (N2 = [A, C].flatten.length) := by show _ = _; rw [hN2.out]; simp; omega
  have F5 : Hid (N = [mrg [B], mrg [A, C]].flatten.length) := by
    show _ = _
    have q1 := (mrg_perm [B]).length_eq
    have q2 := (mrg_perm [A, C]).length_eq
    rw [← F3.out] at q1
    rw [← F4.out] at q2
    rw [hN.out]; simp; have := hN2.out; omega
  have NB : Hid (N ≤ 1048576 ∧ N1 ≤ 1048576 ∧ N2 ≤ 1048576 ∧ nb ≤ 1048576) := by show _ ∧ _; have := hN.out; have := hN1.out; have := hN2.out; omega
  have s1 : (na : Int) + (nb : Int) = ((na + nb : Nat) : Int) := by omega
  have s2 : (na : Int) + (nb : Int) + (nc : Int) = (N : Int) := by have := hN.out; omega
  have s3 : (na : Int) ≤ 1048576 := by omega
  have s4 : (nb : Int) ≤ 1048576 := by omega
  have s5 : (nc : Int) ≤ 1048576 := by omega
  have s6 : (N : Int) ≤ 1048576 := by have := NB.out.1; omega
  have EL : Hid (ElemV Try.prog 22) := elemV_l (by kernel_rfl)
  clear ha hb hc hn LA LB LC s1
  go_enter Try.func8, Try.ntmps8
  go_wp2_with (refine wpList_lit3 rfl 29 22 _ _ _ rfl Try.underlying29 EL.out (.slice a na ca) (.slice b nb cb) (.slice c nc cc) rfl rfl rfl rfl rfl rfl ?_; intro w2 h2 b2; have H2 := Lib.hid h2; have B2 := Lib.hid b2; clear h2 b2)
  have L2 := Lib.hid (ls_three H2.out (HA.out.below B2.out) (HB.out.below B2.out) (HC.out.below B2.out))
  refine (size_any _ 3 3 [A, B, C] w2 L2.out (by omega) (flat_le (by rw [← F0.out]; have := NB.out.1; omega))).mono ?_; rintro e w3 ⟨z, rfl, rfl⟩
  by_cases hz : 3000 < z
  · go_wp2_with fail
    refine (alive_any w2).mono ?_; rintro e w3 ⟨rfl, b3⟩
    have B3 := Lib.hid (belT B2.out b3)
    clear b3
    go_wp2_with fail
    go_ret
    exact ⟨rfl, B3.out⟩
  have hz' : z ≤ 3000 := by omega
  go_wp2_with (refine wpList_lit3 rfl 29 22 _ _ _ rfl Try.underlying29 EL.out (.slice a na ca) (.slice b nb cb) (.slice c nc cc) rfl rfl rfl rfl rfl rfl ?_; intro w3 h3 b3; have H3 := Lib.hid h3; have B3 := Lib.hid (belT B2.out b3); clear h3 b3)
  have G3 := Lib.hid (gmrgN _ 3 3 N [A, B, C] w3 (ls_three H3.out (HA.out.below B3.out) (HB.out.below B3.out) (HC.out.below B3.out)) (by omega) F0 (by have := NB.out; omega))
  go_wp2_with fail
  refine G3.out.mono ?_; rintro e w4 ⟨x, xc, rfl, x4, b4, -⟩
  have X4 := Lib.hid x4; have B4 := Lib.hid (belT B3.out b4)
  clear x4 b4 G3 H3 H2 L2
  go_wp2_with (refine wpList_lit2 rfl 29 22 _ _ rfl Try.underlying29 EL.out (.slice c nc cc) (.slice a na ca) rfl rfl rfl rfl ?_; intro w5 h5 b5; have H5 := Lib.hid h5; have B5 := Lib.hid (belT B4.out b5); have X5 := Lib.hid (X4.out.below b5); clear h5 b5)
  have G5 := Lib.hid (gmrgN _ 2 2 N1 [C, A] w5 (ls_two H5.out (HC.out.below B5.out) (HA.out.below B5.out)) (by omega) F1 (by have := NB.out; omega))
  go_wp2_with fail
  refine G5.out.mono ?_; rintro e w6 ⟨u, uc, rfl, u6, b6, -⟩
  have U6 := Lib.hid u6; have B6 := Lib.hid (belT B5.out b6); have X6 := Lib.hid (X5.out.below b6)
  clear u6 b6 G5 H5 X5 X4
  go_wp2_with (refine wpList_lit2 rfl 29 22 _ _ rfl Try.underlying29 EL.out (.slice u N1 uc) (.slice b nb cb) rfl rfl rfl rfl ?_; intro w7 h7 b7; have H7 := Lib.hid h7; have B7 := Lib.hid (belT B6.out b7); have X7 := Lib.hid (X6.out.below b7); have U7 := Lib.hid (U6.out.below b7); clear h7 b7)
  have G7 := Lib.hid (gmrgN _ 2 2 N [mrg [C, A], B] w7 (ls_two H7.out U7.out (HB.out.below B7.out)) (by omega) F2 (by have := NB.out; omega))
  rw [mrg_cab'] at G7
  go_wp2_with fail
  refine G7.out.mono ?_; rintro e w8 ⟨y, yc, rfl, y8, b8, -⟩
  have Y8 := Lib.hid y8; have B8 := Lib.hid (belT B7.out b8); have X8 := Lib.hid (X7.out.below b8)
  clear y8 b8 G7 H7 U7 U6 X7 X6
  go_wp2_with (refine wpList_lit1 rfl 29 22 _ rfl Try.underlying29 EL.out (.slice b nb cb) rfl rfl ?_; intro w9 h9 b9; have H9 := Lib.hid h9; have B9 := Lib.hid (belT B8.out b9); have X9 := Lib.hid (X8.out.below b9); have Y9 := Lib.hid (Y8.out.below b9); clear h9 b9)
  have G9 := Lib.hid (gmrgN _ 1 1 nb [B] w9 (ls_one H9.out (HB.out.below B9.out)) (by omega) F3 (by have := NB.out; omega))
  go_wp2_with fail
  refine G9.out.mono ?_; rintro e v1 ⟨u, uc, rfl, u1, b1, -⟩
  have U1 := Lib.hid u1; have C1 := Lib.hid (belT B9.out b1); have X1 := Lib.hid (X9.out.below b1); have Y1 := Lib.hid (Y9.out.below b1)
  clear u1 b1 G9 H9 X9 X8 Y9 Y8
  go_wp2_with (refine wpList_lit2 rfl 29 22 _ _ rfl Try.underlying29 EL.out (.slice a na ca) (.slice c nc cc) rfl rfl rfl rfl ?_; intro v2 h2 b2; have H2 := Lib.hid h2; have C2 := Lib.hid (belT C1.out b2); have X2 := Lib.hid (X1.out.below b2); have Y2 := Lib.hid (Y1.out.below b2); have U2 := Lib.hid (U1.out.below b2); clear h2 b2)
  have G2 := Lib.hid (gmrgN _ 2 2 N2 [A, C] v2 (ls_two H2.out (HA.out.below C2.out) (HC.out.below C2.out)) (by omega) F4 (by have := NB.out; omega))
  go_wp2_with fail
  refine G2.out.mono ?_; rintro e v3 ⟨t, tc, rfl, t3, b3, -⟩
  have T3 := Lib.hid t3; have C3 := Lib.hid (belT C2.out b3); have X3 := Lib.hid (X2.out.below b3); have Y3 := Lib.hid (Y2.out.below b3); have U3 := Lib.hid (U2.out.below b3)
  clear t3 b3 G2 H2 X2 X1 Y2 Y1 U2 U1
  go_wp2_with (refine wpList_lit2 rfl 29 22 _ _ rfl Try.underlying29 EL.out (.slice _ nb _) (.slice t N2 tc) rfl rfl rfl rfl ?_; intro v4 h4 b4; have H4 := Lib.hid h4; have C4 := Lib.hid (belT C3.out b4); have X4 := Lib.hid (X3.out.below b4); have Y4 := Lib.hid (Y3.out.below b4); have U4 := Lib.hid (U3.out.below b4); have T4 := Lib.hid (T3.out.below b4); clear h4 b4)
  have G4 := Lib.hid (gmrgN _ 2 2 N [mrg [B], mrg [A, C]] v4 (ls_two H4.out U4.out T4.out) (by omega) F5 (by have := NB.out; omega))
  rw [mrg_bac] at G4
  go_wp2_with fail
  refine G4.out.mono ?_; rintro e v5 ⟨q, qc, rfl, q5, b5, -⟩
  have Q5 := Lib.hid q5; have C5 := Lib.hid (belT C4.out b5); have X5 := Lib.hid (X4.out.below b5); have Y5 := Lib.hid (Y4.out.below b5)
  clear q5 b5 G4 H4 X4 X3 Y4 Y3 U4 U3 T4 T3
  go_wp2_with fail
  refine (alive_any v5).mono ?_; rintro e v6 ⟨rfl, b6⟩
  have C6 := Lib.hid (belT C5.out b6); have X6 := Lib.hid (X5.out.below b6); have Y6 := Lib.hid (Y5.out.below b6); have Q6 := Lib.hid (Q5.out.below b6)
  clear b6 X5 Y5 Q5
  go_wp2_with fail
  refine (seq_any x y N xc N yc _ _ v6 X6.out Y6.out (by have := NB.out; omega) (by have := NB.out; omega)).mono ?_; rintro e v7 ⟨rfl, b7⟩
  have C7 := Lib.hid (belT C6.out b7); have X7 := Lib.hid (X6.out.below b7); have Q7 := Lib.hid (Q6.out.below b7)
  rw [decide_eq_true (rfl : mrg [A, B, C] = mrg [A, B, C])]
  clear b7 X6 Y6 Q6
  go_wp2_with fail
  refine (seq_any x q N xc N qc _ _ v7 X7.out Q7.out (by have := NB.out; omega) (by have := NB.out; omega)).mono ?_; rintro e v8 ⟨rfl, b8⟩
  have C8 := Lib.hid (belT C7.out b8); have X8 := Lib.hid (X7.out.below b8)
  rw [decide_eq_true (rfl : mrg [A, B, C] = mrg [A, B, C])]
  clear b8 X7 Q7
  go_wp2_with fail
  refine (sorted_yes x N xc _ v8 X8.out (by have := NB.out; omega) (mrg_sorted _)).mono ?_; rintro e v9 ⟨rfl, b9⟩
  have C9 := Lib.hid (belT C8.out b9)
  clear b9
  go_wp2_with fail
  go_ret
  exact ⟨rfl, C9.out⟩
end Go.Proofs.Ytjokgiheabmolaa
