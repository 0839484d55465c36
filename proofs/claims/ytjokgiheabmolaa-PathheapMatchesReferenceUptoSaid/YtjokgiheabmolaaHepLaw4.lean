/-
  PathheapIsolated.
-/
import Derived.Test.YtjokgiheabmolaaHepLaw3
import Derived.Test.YtjokgiheabmolaaHepLaw2
namespace Go.Proofs.Ytjokgiheabmolaa
open Go.RowKit Hep

namespace Hep
theorem only_one {w : World} {b i : Nat} (v : Value) : Only (fun k => k = b) w (w.setCell ⟨b, i, none⟩ v) := (Only.refl (fun k => k = b) w).setCell (p := ⟨b, i, none⟩) (.inl rfl) v
theorem own_at {w : World} {base n vc b : Nat} {e : TypeId} {xs : List Value} (h : w.ownsRow base e 1 (.slice (some ⟨b, 0, none⟩) n vc) n xs) {i : Nat} (hi : i < n) :
    (∃ v, w.cell? ⟨b, i, none⟩ = some v) ∧ w.frozen? ⟨b, i, none⟩ = false ∧ n ≤ vc := by
  rcases h.2 with ⟨hv, -⟩ | ⟨g, cap, cur, hv, hb, hh, hc, hm, hs, ht⟩
  · cases hv
  · cases hv
    refine ⟨?_, by unfold World.frozen?; rw [hh]; simp, hc⟩
    have := h.cellAt i (by have := h.1; omega)
    rw [this, List.getElem?_eq_getElem (by have := h.1; omega)]
    exact ⟨_, rfl⟩
theorem mrg_two (ys : List ByteArray) : mrg [ys, ys] = ys.foldl ins (mrg [ys]) := by
  unfold mrg
  rw [List.flatten_cons, List.flatten_cons, List.flatten_nil, List.append_nil, List.foldl_append]
theorem mrg2_len (ys : List ByteArray) : (mrg [ys, ys]).length = ys.length + ys.length := by rw [(mrg_perm [ys, ys]).length_eq]; simp
end Hep

set_option maxRecDepth 100000 in
set_option maxHeartbeats 8000000 in
theorem walk_PathheapIsolated (a : Option Addr) (n cap : Nat) (ys : List ByteArray) (w : World) (ha : ArgSs w a n cap ys) (hn : n ≤ 1048576) :
    Calls Try.prog 6 #[.slice a n cap] w fun e w' => e = .returned (.bool true) ∧ Below w.heap.size w w' := by
  have HA := Lib.hid ha
  have HN := Lib.hid hn
  have nb : (n : Int) ≤ 1048576 := by omega
  have EL : Hid (ElemV Try.prog 22) := elemV_l (by kernel_rfl)
  have ES : Hid (ElemS Try.prog 9) := elemS (by kernel_rfl)
  clear ha hn
  go_enter Try.func6, Try.ntmps6
  go_wp2_with (refine wpList_lit1 rfl 29 22 _ rfl Try.underlying29 EL.out (.slice a n cap) rfl rfl ?_; intro w2 h2 b2; have H2 := Lib.hid h2; have B2 := Lib.hid b2; clear h2 b2)
  refine (size_any _ 1 1 [ys] w2 (ls_one H2.out (HA.out.below B2.out)) (by omega) (fun l hl => by obtain rfl := List.mem_singleton.mp hl; rw [HA.out.n]; have := HN.out; omega)).mono ?_; rintro e w3 ⟨z, rfl, rfl⟩
  by_cases hz : 3000 < z
  · go_wp2_with fail
    refine (alive_any w2).mono ?_; rintro e w3 ⟨rfl, b3⟩
    have B3 := Lib.hid (belT B2.out b3)
    clear b3
    go_wp2_with fail
    go_ret
    exact ⟨rfl, B3.out⟩
  have hz' : z ≤ 3000 := by omega
  go_wp2_with (first | (at_builtin; (have qq := O3.out; clear qq); refine wpList_append_ss rfl _ _ 22 rfl 9 w.heap.size Try.underlying22 ES.out (.slice (some ⟨w2.heap.size, 0, none⟩) 0 0) _ _ rfl O3.out _ _ _ ys rfl (HA.out.below B3.out).r HA.out.n (by have := HN.out; omega) B3.out.size ?_; intro v4 w4 o4 b4 _ _; have O4 := Lib.hid o4; have B4 := Lib.hid (B3.out.trans b4); clear o4 b4) | (refine wpList_lit_ss0 rfl 22 9 rfl Try.underlying22 ES.out ?_; intro w3 o3 b3; have O3 : Hid (w3.ownsRow w.heap.size 9 1 (.slice (some ⟨w2.heap.size, 0, none⟩) 0 0) 0 (ssC [])) := own_base o3 B2.out.size; have B3 : Hid (Below w.heap.size w w3) := belT B2.out b3; clear o3 b3))
  obtain ⟨va, vc, rfl, -⟩ := SsIn.of_own O4.out
  rw [Nat.zero_add] at O4 ⊢
  have O4' : Hid (w4.ownsRow w.heap.size 9 1 (.slice va n vc) n (ssC ys)) := O4.out
  obtain ⟨va', vc', hv, ma⟩ := ArgSs.of_own O4'.out HA.out.s
  cases hv
  have MA := Lib.hid ma
  have VB : Hid (∀ x, va = some x → w.heap.size ≤ x.block ∧ x.off = 0 ∧ x.block < w4.heap.size) := fun x hx => by
    obtain ⟨_, _, hv, _, _, _, _, q⟩ := SsIn.of_own O4'.out
    cases hv
    exact ⟨(q x hx).1, (q x hx).2.1, (q x hx).2.2.1⟩
  clear O4 O3 B3 H2 ma
  obtain ⟨M, hM⟩ := named (mrg [ys])
  obtain ⟨M2, hM2⟩ := named (mrg [ys, ys])
  have ML : Hid (M.length = n) := by show _ = _; rw [hM.out, mrg1_len]; exact HA.out.n
  have ML2 : Hid (M2.length = n + n) := by show _ = _; rw [hM2.out, mrg2_len, HA.out.n]
  have GH := Lib.hid (gnew MA.out (by have := HN.out; omega))
  rw [← hM.out] at GH
  go_wp2_with fail
  refine GH.out.mono ?_; rintro e w5 ⟨Sh, gh, rfl, q5, s5, b5⟩
  have Q5 := Lib.hid q5; have S5 := Lib.hid s5; have B5 := Lib.hid b5
  clear q5 s5 b5 GH
  have VD : Hid (∀ k, (w4.heap.size ≤ k) → ∀ x, va = some x → k ≠ x.block) := fun k hk x hx => by have := (VB.out x hx).2.2; omega
  have PU := Lib.hid (gpush Q5.out (MA.out.below B5.out) (.inr fun x hx c => VD.out _ (S5.out _ c) x hx rfl) (by have := ML.out; have := HN.out; omega))
  rw [hM.out, ← mrg_two, ← hM2.out] at PU
  go_wp2_with fail
  refine PU.out.mono ?_; rintro e w6 ⟨rfl, o6, q6⟩
  have Q6 := Lib.hid q6
  have B6 : Hid (Below w4.heap.size w4 w6) := B5.out.trans (o6.below S5.out B5.out.size)
  have S6 : Hid (∀ k, Grow Sh w5 w6 k → w4.heap.size ≤ k) := fun k hk => Or.elim hk (S5.out k) fun q => Nat.le_trans B5.out.size q.1
  obtain ⟨S, hS⟩ := named (Grow Sh w5 w6)
  rw [← hS.out] at Q6 S6
  clear o6 q6 PU Q5 S5 hS
  have GG := Lib.hid (gnew (MA.out.below B6.out) (by have := HN.out; omega))
  rw [← hM.out] at GG
  go_wp2_with fail
  refine GG.out.mono ?_; rintro e w7 ⟨Sg, gg, rfl, q7, s7, b7⟩
  have Q7 := Lib.hid q7
  have S7 : Hid (∀ k, Sg k → w4.heap.size ≤ k) := fun k hk => Nat.le_trans B6.out.size (s7 k hk)
  have D7 : Hid (∀ k, S k → ¬ Sg k) := fun k hk c => by have := s7 k c; have := Q6.out.2 k hk; omega
  have H7 : Hid (Hq S gh w7 M2) := Q6.out.below b7
  have B7 : Hid (Below w4.heap.size w4 w7) := belT B6.out b7
  have W7 : Hid (Below w.heap.size w w7) := belT B4.out B7.out
  have O7 : Hid (w7.ownsRow w.heap.size 9 1 (.slice va n vc) n (ssC ys)) := own_stay' O4'.out B7.out (Nat.le_refl _)
  clear q7 s7 b7 GG Q6 O4' MA
  go_wp2_with fail
  go_loopw [35] (fun i wr => ∃ (j : Nat) (xs : List Value), i = .int .i64 j ∧ j ≤ n ∧ Hid (wr.ownsRow w.heap.size 9 1 (.slice va n vc) n xs) ∧ Hid (Hq S gh wr M2) ∧ Hid (Hq Sg gg wr M) ∧ Hid (Below w.heap.size w wr)) (fun i _ => n - (intOf i).toNat)
  case atStart => exact ⟨0, ssC ys, rfl, Nat.zero_le _, O7, H7, Q7, W7⟩
  case round =>
    obtain ⟨j, xs, rfl, hj, OX, QH, QG, BW⟩ := hrel
    by_cases hjn : j < n
    · have j1 : (j : Int) < n := by omega
      obtain ⟨b, rfl⟩ : ∃ b, va = some ⟨b, 0, none⟩ := by
        rcases OX.out.2 with ⟨-, hv⟩ | ⟨b, _, _, hv, _⟩
        · omega
        · cases hv; exact ⟨b, rfl⟩
      obtain ⟨⟨v, c1⟩, f1, hc⟩ := own_at OX.out hjn
      have j2 : (j : Int) < vc := by omega
      have JN := Lib.hid hjn
      have OX2 := Lib.hid (own_set (i := j) OX.out (.string ⟨#[]⟩))
      have BB := (VB.out _ rfl).1
      have QH2 : Hid (Hq S gh (wr.setCell ⟨b, j, none⟩ (.string ⟨#[]⟩)) M2) := QH.out.only (only_one _) fun k hk c => VD.out k (S6.out k hk) _ rfl c
      have QG2 : Hid (Hq Sg gg (wr.setCell ⟨b, j, none⟩ (.string ⟨#[]⟩)) M) := QG.out.only (only_one _) fun k hk c => VD.out k (S7.out k hk) _ rfl c
      have BW2 : Hid (Below w.heap.size w (wr.setCell ⟨b, j, none⟩ (.string ⟨#[]⟩))) := BW.out.setCell (p := ⟨b, j, none⟩) BB _
      clear hj hjn hc
      go_wp2_with fail
      go_round
      case rel => exact ⟨j + 1, _, by go_num, JN.out, OX2, QH2, QG2, BW2⟩
      case measure => simp [intOf]; have := JN.out; omega
    · obtain rfl : j = n := by omega
      clear hj hjn OX
      go_wp2_with (refine wpList_lit1 rfl 29 22 _ rfl Try.underlying29 EL.out (.slice a _ cap) rfl rfl ?_; intro w8 h8 b8; have H8 := Lib.hid h8; have B8 := Lib.hid b8; clear h8 b8)
      have BX8 : Hid (Below w.heap.size w w8) := belT BW.out B8.out
      have RM := Lib.hid (rmrgN _ 1 1 j [ys] w8 (ls_one H8.out (HA.out.below BX8.out)) (by omega) (by show j = _; rw [← HA.out.n]; simp) (by have := HN.out; omega))
      rw [← hM.out] at RM
      have QG8 := Lib.hid (QG.out.below B8.out)
      have QH8 := Lib.hid (QH.out.below B8.out)
      go_wp2_with fail
      refine RM.out.mono ?_; rintro e w9 ⟨ra, rc, rfl, g9, b9, r9⟩
      have G9 := Lib.hid g9
      have QG9 := Lib.hid (QG8.out.below b9)
      have QH9 := Lib.hid (QH8.out.below b9)
      have BX9 : Hid (Below w.heap.size w w9) := belT BX8.out b9
      have R9 : Hid (∀ x, ra = some x → ¬ Sg x.block) := fun x hx c => by have := r9 x hx; have := QG8.out.2 _ c; omega
      clear g9 b9 r9 RM QG8 QH8 QG QH
      have SGw : Hid (∀ k, Sg k → w.heap.size ≤ k) := fun k hk => Nat.le_trans B4.out.size (S7.out k hk)
      have SHw : Hid (∀ k, S k → w.heap.size ≤ k) := fun k hk => Nat.le_trans B4.out.size (S6.out k hk)
      have HDR : Hid (Hp w9 Sg gg w9 (M.drop 0)) := QG9.out.1
      go_wp2_with fail
      go_loopw [46] (fun i wr => ∃ q : Nat, i = .int .i64 q ∧ q ≤ j ∧ Hid (Hp w9 Sg gg wr (M.drop q))) (fun i _ => j - (intOf i).toNat)
      case atStart => exact ⟨0, rfl, Nat.zero_le _, HDR⟩
      case round =>
        obtain ⟨q, rfl, hq, HP⟩ := hrel
        by_cases hqn : q < j
        · have q1 : (q : Int) < j := by omega
          obtain ⟨b, off, x, rfl, -, hx, -, -, c1⟩ := (G9.out.only HP.out.only0 (.inr R9.out)).get q hqn
          have q2 : (q : Int) < rc := by have := G9.out.c; omega
          have DR : M.drop q = x :: M.drop (q + 1) := by
            have h1 : q < M.length := by rw [ML.out]; exact hqn
            rw [List.drop_eq_getElem_cons h1]
            rw [List.getElem?_eq_getElem h1] at hx
            rw [Option.some.inj hx]
          rw [DR] at HP
          have QN := Lib.hid hqn
          have PP := Lib.hid (gpopH HP.out (by rw [List.length_drop, ML.out]; have := HN.out; omega))
          clear hq hqn hx DR
          go_wp2_with fail
          refine PP.out.mono ?_; rintro e v1 ⟨rfl, h1⟩
          have H1 := Lib.hid h1
          clear h1
          go_wp2_with fail
          go_round
          case rel => exact ⟨q + 1, by go_num, QN.out, H1⟩
          case measure => simp [intOf]; have := QN.out; omega
        · obtain rfl : q = j := by omega
          have QHx : Hid (Hq S gh wr M2) := QH9.out.only HP.out.only0 D7.out
          have BWx : Hid (Below w.heap.size w wr) := BX9.out.trans (HP.out.only0.below SGw.out BX9.out.size)
          clear hq hqn HP QH9 QG9 G9 R9 HDR
          go_wp2_with (refine wpList_lit2 rfl 29 22 _ _ rfl Try.underlying29 EL.out (.slice a _ cap) (.slice a _ cap) rfl rfl rfl rfl ?_; intro v8 h8 b8; have I8 := Lib.hid h8; have C8 := Lib.hid b8; clear h8 b8)
          have BY8 : Hid (Below w.heap.size w v8) := belT BWx.out C8.out
          obtain ⟨N2, hN2⟩ := named (q + q)
          have RM := Lib.hid (rmrgN _ 2 2 N2 [ys, ys] v8 (ls_two I8.out (HA.out.below BY8.out) (HA.out.below BY8.out)) (by omega) (by show N2 = _; rw [hN2.out, ← HA.out.n]; simp) (by have := HN.out; have := hN2.out; omega))
          rw [← hM2.out] at RM
          have QH8 := Lib.hid (QHx.out.below C8.out)
          go_wp2_with fail
          refine RM.out.mono ?_; rintro e v9 ⟨ra, rc, rfl, g9, b9, r9⟩
          have G9 := Lib.hid g9
          have QH9 := Lib.hid (QH8.out.below b9)
          have BX9 : Hid (Below w.heap.size w v9) := belT BY8.out b9
          have R9 : Hid (∀ x, ra = some x → ¬ S x.block) := fun x hx c => by have := r9 x hx; have := QH8.out.2 _ c; omega
          have nb2 : (N2 : Int) ≤ 2097152 := by have := hN2.out; have := HN.out; omega
          have HDR : Hid (Hp v9 S gh v9 (M2.drop 0)) := QH9.out.1
          have ML3 : Hid (M2.length = N2) := by show _ = _; rw [ML2.out, hN2.out]
          have NB2 : Hid (N2 ≤ 2097152) := by show _ ≤ _; omega
          clear g9 b9 r9 RM QH8 QHx
          go_wp2_with fail
          go_loopw [69] (fun i wr => ∃ p : Nat, i = .int .i64 p ∧ p ≤ N2 ∧ Hid (Hp v9 S gh wr (M2.drop p))) (fun i _ => N2 - (intOf i).toNat)
          case atStart => exact ⟨0, rfl, Nat.zero_le _, HDR⟩
          case round =>
            obtain ⟨p, rfl, hp, HP⟩ := hrel
            by_cases hpn : p < N2
            · have q1 : (p : Int) < N2 := by omega
              obtain ⟨b, off, x, rfl, -, hx, -, -, c1⟩ := (G9.out.only HP.out.only0 (.inr R9.out)).get p hpn
              have q2 : (p : Int) < rc := by have := G9.out.c; omega
              have DR : M2.drop p = x :: M2.drop (p + 1) := by
                have h1 : p < M2.length := by rw [ML3.out]; exact hpn
                rw [List.drop_eq_getElem_cons h1]
                rw [List.getElem?_eq_getElem h1] at hx
                rw [Option.some.inj hx]
              rw [DR] at HP
              have QN := Lib.hid hpn
              have PP := Lib.hid (gpopH HP.out (by rw [List.length_drop, ML3.out]; have := NB2.out; omega))
              clear hp hpn hx DR
              go_wp2_with fail
              refine PP.out.mono ?_; rintro e v1 ⟨rfl, h1⟩
              have H1 := Lib.hid h1
              clear h1
              go_wp2_with fail
              go_round
              case rel => exact ⟨p + 1, by go_num, QN.out, H1⟩
              case measure => simp [intOf]; have := QN.out; omega
            · obtain rfl : p = N2 := by omega
              have HF : Hid (Hp v9 S gh wr []) := by
                have e := HP.out
                rw [List.drop_eq_nil_of_le (by rw [ML3.out]; exact Nat.le_refl _)] at e
                exact e
              have BZ : Hid (Below w.heap.size w wr) := BX9.out.trans (HP.out.only0.below SHw.out BX9.out.size)
              clear hp hpn HP
              have QF := Lib.hid (Hq.of HF.out QH9.out.2)
              go_wp2_with fail
              refine (alive_any wr).mono ?_; rintro e v1 ⟨rfl, bv⟩
              have BV := Lib.hid (belT BZ.out bv)
              have GL := Lib.hid (glen (QF.out.below bv).1)
              clear bv
              go_wp2_with fail
              refine GL.out.mono ?_; rintro e v2 ⟨rfl, rfl⟩
              go_wp2_with fail
              go_ret
              exact ⟨rfl, BV.out⟩
end Go.Proofs.Ytjokgiheabmolaa
