/-
  PathheapMatchesReference.
-/
import Derived.Test.YtjokgiheabmolaaHepLaw4
import Derived.Test.YtjokgiheabmolaaHepLaw1a
import Derived.Test.YtjokgiheabmolaaPaArg
namespace Go.Proofs.Ytjokgiheabmolaa
open Go.RowKit Hep

namespace Hep
theorem mrg_self {M : List ByteArray} (h : M.Pairwise Le) : M.foldl ins [] = M := (fold_mrg (List.Perm.refl M)).trans (sorted_mrg h (by simp)).symm
theorem mrg_next {M L : List ByteArray} (h : M.Pairwise Le) : mrg [M, L] = L.foldl ins M := by
  unfold mrg
  rw [List.flatten_cons, List.flatten_cons, List.flatten_nil, List.append_nil, List.foldl_append, mrg_self h]
theorem flat_take {us : List (Int × List ByteArray)} {j : Nat} {K : Int} {L : List ByteArray} (h : us[j]? = some (K, L)) : ((us.take (j + 1)).map (·.2)).flatten.length = ((us.take j).map (·.2)).flatten.length + L.length := by
  rw [List.take_add_one, h, List.map_append, List.flatten_append, List.length_append]
  simp
theorem flat_part (us : List (Int × List ByteArray)) (j : Nat) : ((us.take j).map (·.2)).flatten.length ≤ (us.map (·.2)).flatten.length := by
  conv => rhs; rw [← List.take_append_drop j us]
  rw [List.map_append, List.flatten_append, List.length_append]
  omega
theorem tail_args {w : World} {b off n c : Nat} {x : ByteArray} {r : List ByteArray} (h : ArgSs w (some ⟨b, off, none⟩) n c (x :: r)) : ArgSs w (some ⟨b, off + 1, none⟩) (n - 1) (c - 1) r := by
  have hn := h.n
  rw [List.length_cons] at hn
  refine ⟨by omega, by have := h.c; omega, by have := h.m; omega, ?_, fun y hy => h.s y (List.mem_cons_of_mem _ hy)⟩
  rcases h.r with q | ⟨b', off', hb, h2, h3⟩
  · cases q
  · cases hb
    refine .inr ⟨b, off + 1, rfl, h2, fun i y hi => ?_⟩
    have := h3 (i + 1) y (by rw [List.getElem?_cons_succ]; exact hi)
    rwa [show off + (i + 1) = off + 1 + i by omega] at this
theorem tail_args1 {w : World} {a : Option Addr} {n : Nat} {x : ByteArray} {r : List ByteArray} (h : ArgSs w a n 1 (x :: r)) : ArgSs w a (n - 1) (1 - 1) r := by
  have hn := h.n
  have hc := h.c
  rw [List.length_cons] at hn
  have : r = [] := List.length_eq_zero_iff.mp (by omega)
  subst this
  exact ⟨by simp at hn ⊢; omega, by omega, by unfold maxLen; omega, .inl rfl, fun y hy => by cases hy⟩
end Hep

set_option maxRecDepth 100000 in
set_option maxHeartbeats 16000000 in
theorem walk_PathheapMatchesReference (a : Option Addr) (n cap : Nat) (ys : List ByteArray) (la : Option Addr) (ln lc : Nat) (us : List (Int × List ByteArray)) (w : World)
    (ha : ArgSs w a n cap ys) (hu : ArgPa w la ln lc us) (hn : n + (ln + (us.map (·.2)).flatten.length) ≤ 1048576) :
    Calls Try.prog 3 #[.slice a n cap, .slice la ln lc] w fun e w' => e = .returned (.bool true) ∧ Below w.heap.size w w' := by
  have HA := Lib.hid ha; have HU := Lib.hid hu; have HN := Lib.hid hn
  have nb : (n : Int) ≤ 1048576 := by omega
  have lb : (ln : Int) ≤ 1048576 := by omega
  have EV : Hid (ElemV Try.prog 9) := elemV_s (by kernel_rfl)
  have EL : Hid (ElemV Try.prog 22) := elemV_l (by kernel_rfl)
  have EA : Hid (ElemL Try.prog 22) := elemL (by kernel_rfl)
  have HZ : Hid ((Try.prog.info? 31).map (·.zero) = some (some (.agg [Value.int .i64 0, .slice none 0 0].toArray))) := by show _ = _; kernel_rfl
  have HZS : Hid ((Try.prog.info? 31).map (·.size) = some 2) := by show _ = _; kernel_rfl
  clear ha hu hn
  go_enter Try.func3, Try.ntmps3
  go_wp2_with (refine wpList_lit1 rfl 22 9 _ rfl Try.underlying22 EV.out (.string ⟨#[97]⟩) rfl rfl ?_; intro w1 h1 b1; have B1 := Lib.hid b1; clear h1 b1)
  refine (gpush_nil _ 1 1 w1).mono ?_; rintro e w2 ⟨rfl, rfl⟩
  go_wp2_with fail
  refine (gpop_nil w1).mono ?_; rintro e w2 ⟨rfl, rfl⟩
  go_wp2_with fail
  refine (gpeek_nil w1).mono ?_; rintro e w2 ⟨rfl, rfl⟩
  go_wp2_with fail
  refine (glen_nil w1).mono ?_; rintro e w2 ⟨rfl, rfl⟩
  go_wp2_with (refine wpList_lit1 rfl 29 22 _ rfl Try.underlying29 EL.out (.slice a n cap) rfl rfl ?_; intro w2 h2 b2; have H2 := Lib.hid h2; have B2 := Lib.hid (belT B1.out b2); clear h2 b2)
  have O2 : Hid (w2.ownsRow w.heap.size 22 1 (.slice (some ⟨w1.heap.size, 0, none⟩) 1 1) 1 [.slice a n cap]) := own_obj1 H2.out B1.out.size
  clear H2
  go_loopw [57, 10] (fun i v wr => ∃ (j N : Nat) (qs : List (Option Addr × Nat × List ByteArray)), i = .int .i64 j ∧ j ≤ ln ∧ Hid (N = j + 1) ∧ Hid (wr.ownsRow w.heap.size 22 1 v N (qs.map fun q => .slice q.1 q.2.2.length q.2.1)) ∧ Hid (∀ q ∈ qs, ArgSs w q.1 q.2.2.length q.2.1 q.2.2 ∧ q.2.2.length ≤ 1048576) ∧ Hid (Below w.heap.size w wr)) (fun i _ _ => ln - (intOf i).toNat)
  case atStart => exact ⟨0, 1, [(a, cap, ys)], rfl, Nat.zero_le _, rfl, (by show World.ownsRow _ _ _ _ _ _ _; have e := O2.out; rw [← HA.out.n] at e; exact e), (fun q hq => by obtain rfl := List.mem_singleton.mp hq; exact ⟨by have := HA.out; rw [← this.n] at this; exact this, by show ys.length ≤ _; have := HA.out.n; have := HN.out; omega⟩), B2⟩
  case round =>
    obtain ⟨j, N, qs, rfl, hj, NE, OR, QS, BW⟩ := hrel
    by_cases hjn : j < ln
    · have j1 : (j : Int) < ln := by omega
      obtain ⟨⟨K, L⟩, hul⟩ : ∃ u, us[j]? = some u := ⟨_, List.getElem?_eq_getElem (by rw [HU.out.ln]; exact hjn)⟩
      obtain ⟨b, off, a', c', rfl, hb, hc0, hc1, hx⟩ := HU.out.get j _ hul
      have c0 : wr.cell? ⟨b, off + j * 2, none⟩ = some (.int .i64 K) := (World.cell?_of_block (BW.out.block b hb)).trans hc0
      have c1 : wr.cell? ⟨b, off + j * 2 + 1, none⟩ = some (.slice a' L.length c') := (World.cell?_of_block (BW.out.block b hb)).trans hc1
      have j2 : (j : Int) < lc := by have := HU.out.lc; omega
      have QS2 : Hid (∀ q ∈ qs ++ [(a', c', L)], ArgSs w q.1 q.2.2.length q.2.1 q.2.2 ∧ q.2.2.length ≤ 1048576) := fun q hq => by
        rcases List.mem_append.mp hq with hq | hq
        · exact QS.out q hq
        · obtain rfl := List.mem_singleton.mp hq
          refine ⟨hx, ?_⟩
          have h1 := flat_take hul
          have h2 := flat_part us (j + 1)
          have h3 := HN.out
          show L.length ≤ _
          omega
      have QE : Hid ((qs ++ [(a', c', L)]).map (fun q => Value.slice q.1 q.2.2.length q.2.1) = qs.map (fun q => Value.slice q.1 q.2.2.length q.2.1) ++ [Value.slice a' L.length c']) := by show _ = _; rw [List.map_append]; rfl
      obtain ⟨nL, hnL⟩ := named L.length
      rw [← hnL.out] at c1 QE
      have JN := Lib.hid hjn
      have NB : Hid (N ≤ 1048576) := by show _ ≤ _; have := NE.out; have := HN.out; omega
      clear hul hb hc0 hc1 hx hj hjn
      go_wp2_with (first | (at_builtin; (have qq := O6.out; clear qq); refine wpList_append_l rfl _ _ 29 rfl 22 w.heap.size Try.underlying29 EA.out _ N _ rfl O6.out v5.heap.size (.slice a' nL c') rfl H6.out rfl NB.out B6.out.size ?_; intro v7 w7 o7 b7; have O7 := Lib.hid o7; have B7 := Lib.hid (B6.out.trans b7); clear o7 b7) | (refine wpList_lit1 rfl 29 22 _ rfl Try.underlying29 EL.out (.slice a' nL c') rfl rfl ?_; intro w6 h6 b6; have H6 := Lib.hid h6; have O6 := Lib.hid (own_stay' O5.out b6 (Nat.le_refl _)); have B6 := Lib.hid (belT B5.out b6); clear h6 b6) | (refine wpList_alloc_obj rfl 31 rfl [.int .i64 0, .slice none 0 0] HZ.out ?_; intro v4 h4 b4; have H4 := Lib.hid h4; have B4 := Lib.hid b4; clear h4 b4) | (refine wpList_store_obj rfl 31 _ _ rfl wr.heap.size rfl [.int .i64 K, .slice a' nL c'] [.int .i64 0, .slice none 0 0] rfl 31 H4.out HZS.out rfl (by intro v hv; simp at hv; rcases hv with rfl | rfl <;> rfl) ?_; intro v5 h5 t5; have OB5 := Lib.hid h5; have X5 := Lib.hid (B4.out.trans (t5.below (Nat.le_refl _))); have O5 := Lib.hid (own_stay' OR.out X5.out (Nat.le_refl _)); have B5 := Lib.hid (belT BW.out X5.out); have d0 := h5.get 0 rfl; have d1 := h5.get 1 rfl; clear h5 t5))
      go_round
      case rel => exact ⟨j + 1, N + 1, qs ++ [(a', c', L)], by go_num, JN.out, (by show _ = _; rw [NE.out]), (by show World.ownsRow _ _ _ _ _ _ _; rw [QE.out]; exact O7.out), QS2, B7⟩
      case measure => simp [intOf]; have := JN.out; omega
    · obtain rfl : j = ln := by omega
      have BX : Hid (∀ q ∈ qs, ArgSs wr q.1 q.2.2.length q.2.1 q.2.2) := fun q hq => (QS.out q hq).1.below BW.out
      obtain ⟨va, vc, rfl, hls⟩ := ls_own qs OR.out BX.out
      have HLS := Lib.hid hls
      have NB : N ≤ 1048577 := by have := NE.out; have := HN.out; omega
      have SZ := Lib.hid (size_any va N vc _ wr hls (by omega) (fun l hl => by obtain ⟨q, hq, rfl⟩ := List.mem_map.mp hl; have := (QS.out q hq).2; show q.2.2.length ≤ _; omega))
      clear hj hjn hls NB OR
      by_cases h100 : 100 < j
      · have h100' : (100 : Int) < j := by omega
        go_wp2_with fail
        refine (alive_any wr).mono ?_; rintro e w3 ⟨rfl, b3⟩
        have B3 := Lib.hid (belT BW.out b3)
        clear b3
        go_wp2_with fail
        go_ret
        exact ⟨rfl, B3.out⟩
      have h100' : (j : Int) ≤ 100 := by omega
      go_wp2_with fail
      refine SZ.out.mono ?_; rintro e w3 ⟨z, rfl, rfl⟩
      by_cases hz : 5000 < z
      · go_wp2_with fail
        refine (alive_any wr).mono ?_; rintro e w3 ⟨rfl, b3⟩
        have B3 := Lib.hid (belT BW.out b3)
        clear b3
        go_wp2_with fail
        go_ret
        exact ⟨rfl, B3.out⟩
      have hz' : z ≤ 5000 := by omega
      have GN := Lib.hid (gnew (HA.out.below BW.out) (by have := HN.out; omega))
      obtain ⟨w3, hw3⟩ : ∃ w3, w3 = wr := ⟨wr, rfl⟩
      rw [← hw3] at GN BW ⊢
      clear SZ HLS QS BX hw3 O2
      go_wp2_with fail
      refine GN.out.mono ?_; rintro e w4 ⟨S4, gg, rfl, q4, s4, b4⟩
      have Q4 := Lib.hid q4
      have S4' : Hid (∀ k, S4 k → w.heap.size ≤ k) := fun k hk => Nat.le_trans BW.out.size (s4 k hk)
      have B4 := Lib.hid (belT BW.out b4)
      clear q4 s4 b4 GN
      go_wp2_with (refine wpList_lit1 rfl 29 22 _ rfl Try.underlying29 EL.out (.slice a n cap) rfl rfl ?_; intro w5 h5 b5; have H5 := Lib.hid h5; have B5 := Lib.hid (belT B4.out b5); have Q5 := Lib.hid (Q4.out.below b5); clear h5 b5)
      have RM := Lib.hid (rmrgN _ 1 1 n [ys] w5 (ls_one H5.out (HA.out.below B5.out)) (by omega) (by show n = _; rw [← HA.out.n]; simp) (by have := HN.out; omega))
      go_wp2_with fail
      refine RM.out.mono ?_; rintro e w6 ⟨ra, rc, rfl, g6, b6, r6⟩
      have G6 := Lib.hid g6
      have Q6 := Lib.hid (Q5.out.below b6)
      have B6 := Lib.hid (belT B5.out b6)
      have R6 : Hid (∀ x, ra = some x → ¬ S4 x.block) := fun x hx c => by have := r6 x hx; have := Q5.out.2 _ c; omega
      clear g6 b6 r6 RM Q5 Q4 H5
      go_wp2_with fail
      go_loopw [85, 14] (fun i v wr => ∃ (q : Nat) (M : List ByteArray) (S : Nat → Prop) (ma : Option Addr) (mN mc : Nat), i = .int .i64 q ∧ v = .slice ma mN mc ∧ q ≤ j ∧ Hid (ArgSs wr ma mN mc M) ∧ Hid (∀ x, ma = some x → ¬ S x.block) ∧ Hid (Hq S gg wr M) ∧ Hid (∀ k, S k → w.heap.size ≤ k) ∧ Hid (M.length ≤ n + ((us.take q).map (·.2)).flatten.length) ∧ Hid (Below w.heap.size w wr)) (fun i _ _ => j - (intOf i).toNat)
      case atStart => exact ⟨0, mrg [ys], S4, ra, n, rc, rfl, rfl, Nat.zero_le _, G6, R6, Q6, S4', (by show _ ≤ _; rw [mrg1_len, HA.out.n]; omega), B6⟩
      case round =>
        obtain ⟨q, M, S, ma, mN, mc, rfl, rfl, hq, MA, MD, HQ, SB, ML, BY⟩ := hrel
        by_cases hqj : q < j
        · have j1 : (q : Int) < j := by omega
          obtain ⟨⟨K, L⟩, hul⟩ : ∃ u, us[q]? = some u := ⟨_, List.getElem?_eq_getElem (by rw [HU.out.ln]; exact hqj)⟩
          obtain ⟨b, off, a', c', rfl, hb, hc0, hc1, hx⟩ := HU.out.get q _ hul
          have c0 : wr.cell? ⟨b, off + q * 2, none⟩ = some (.int .i64 K) := (World.cell?_of_block (BY.out.block b hb)).trans hc0
          have c1 : wr.cell? ⟨b, off + q * 2 + 1, none⟩ = some (.slice a' L.length c') := (World.cell?_of_block (BY.out.block b hb)).trans hc1
          have j2 : (q : Int) < lc := by have := HU.out.lc; omega
          have FT := Lib.hid (flat_take hul)
          have FP := Lib.hid (flat_part us (q + 1))
          obtain ⟨nL, hnL⟩ := named L.length
          have HX : Hid (ArgSs w a' nL c' L) := by show ArgSs _ _ _ _ _; rw [hnL.out]; exact hx
          have LD : Hid (L = [] ∨ ∀ x, a' = some x → ¬ S x.block) := by
            rcases hx.r with u | ⟨b', o', rfl, u, _⟩
            · exact .inl u
            · exact .inr fun x hx c => by injection hx with hx; subst hx; exact absurd (show b' < w.heap.size from u) (Nat.not_lt.mpr (SB.out _ c))
          rw [← hnL.out] at c1
          have JN := Lib.hid hqj
          have MB : Hid (M.length + nL ≤ 1048576) := by show _ ≤ _; have := ML.out; have := FT.out; have := FP.out; have := hnL.out; have := HN.out; omega
          have ML2 : Hid (M.length ≤ n + ((us.take (q + 1)).map (·.2)).flatten.length) := by show _ ≤ _; have := ML.out; have := FT.out; omega
          have GB : Hid (∀ W, Below wr.heap.size wr W → ¬ S wr.heap.size) := fun _ _ c => absurd (HQ.out.2 _ c) (Nat.lt_irrefl _)
          clear hul hb hc0 hc1 hx hq hqj
          cases M with
          | nil =>
            obtain rfl : mN = 0 := MA.out.n.symm
            by_cases k0 : K = 0
            · subst k0
              go_wp2_with (first | (refine wpList_alloc_obj rfl 31 rfl [.int .i64 0, .slice none 0 0] HZ.out ?_; intro v4 h4 b4; have H4 := Lib.hid h4; have C4 := Lib.hid b4; clear h4 b4) | (refine wpList_store_obj rfl 31 _ _ rfl wr.heap.size rfl [.int .i64 0, .slice a' nL c'] [.int .i64 0, .slice none 0 0] rfl 31 H4.out HZS.out rfl (by intro v hv; simp at hv; rcases hv with rfl | rfl <;> rfl) ?_; intro v5 h5 t5; have OB5 := Lib.hid h5; have X5 := Lib.hid (C4.out.trans (t5.below (Nat.le_refl _))); have B5 := Lib.hid (belT BY.out X5.out); have d0 := h5.get 0 rfl; have d1 := h5.get 1 rfl; clear h5 t5 c0 c1))
              have Q5 := Lib.hid (HQ.out.below X5.out)
              have M5 := Lib.hid (MA.out.below X5.out)
              have PU := Lib.hid (gpush Q5.out (HX.out.below B5.out) LD.out (by have := MB.out; omega))
              refine PU.out.mono ?_; rintro e v6 ⟨rfl, o6, q6⟩
              have Q6' := Lib.hid q6
              have OB6 := Lib.hid (OB5.out.only o6 (GB.out _ X5.out))
              have M6 := Lib.hid (M5.out.only o6 (.inr MD.out))
              have C6 : Hid (Below w.heap.size w v6) := B5.out.trans (o6.below SB.out B5.out.size)
              have e0 := OB6.out.get 0 rfl
              have e1 := OB6.out.get 1 rfl
              have S6 : Hid (∀ k, Grow S v5 v6 k → w.heap.size ≤ k) := fun k hk => Or.elim hk (SB.out k) fun u => Nat.le_trans B5.out.size u.1
              clear o6 q6 PU d0 d1
              obtain ⟨N7, hN7⟩ := named (([] : List ByteArray).length + nL)
              have FN : Hid ((L.foldl ins ([] : List ByteArray)).length = N7) := by show _ = _; rw [foldl_len, hN7.out, hnL.out]
              go_wp2_with (refine wpList_lit2 rfl 29 22 _ _ rfl Try.underlying29 EL.out (.slice ma 0 mc) (.slice a' nL c') rfl rfl rfl rfl ?_; intro v7 h7 b7; have H7 := Lib.hid h7; have C7 := Lib.hid (belT C6.out b7); have M7 := Lib.hid (M6.out.below b7); have Q7 := Lib.hid (Q6'.out.below b7); clear h7 b7 e0 e1)
              have RM := Lib.hid (rmrgN _ 2 2 N7 [([] : List ByteArray), L] v7 (ls_two H7.out M7.out (HX.out.below C7.out)) (by omega) (by show N7 = _; rw [hN7.out, hnL.out]; first | (simp; done) | (simp; omega)) (by have := MB.out; have := hN7.out; omega))
              rw [mrg_next HQ.out.1.so] at RM
              go_wp2_with fail
              refine RM.out.mono ?_; rintro e v8 ⟨ua, uc, rfl, g8, b8, r8⟩
              have G8 := Lib.hid g8
              have Q8 := Lib.hid (Q7.out.below b8)
              have C8 := Lib.hid (belT C7.out b8)
              have R8 : Hid (∀ x, ua = some x → ¬ Grow S v5 v6 x.block) := fun x hx c => by have := r8 x hx; have := Q7.out.2 _ c; omega
              have GL := Lib.hid (glen Q8.out.1)
              rw [FN.out] at GL
              have FL : Hid ((L.foldl ins ([] : List ByteArray)).length ≤ n + ((us.take (q + 1)).map (·.2)).flatten.length) := by show _ ≤ _; rw [FN.out, hN7.out, hnL.out]; have := ML.out; have := FT.out; omega
              clear g8 b8 r8 RM Q7 M7 H7 M6 Q6' OB6 OB5
              go_wp2_with fail
              refine GL.out.mono ?_; rintro e v9 ⟨rfl, rfl⟩
              go_wp2_with fail
              go_round
              case rel => exact ⟨q + 1, L.foldl ins ([] : List ByteArray), _, ua, N7, uc, by go_num, rfl, JN.out, G8, R8, Q8, S6, FL, C8⟩
              case measure => simp [intOf]; have := JN.out; omega
            · have k1 : (K == 0) = false := by simpa using k0
              by_cases k2 : K = 1
              · subst k2
                go_wp2_with (first | (refine wpList_alloc_obj rfl 31 rfl [.int .i64 0, .slice none 0 0] HZ.out ?_; intro v4 h4 b4; have H4 := Lib.hid h4; have C4 := Lib.hid b4; clear h4 b4) | (refine wpList_store_obj rfl 31 _ _ rfl wr.heap.size rfl [.int .i64 1, .slice a' nL c'] [.int .i64 0, .slice none 0 0] rfl 31 H4.out HZS.out rfl (by intro v hv; simp at hv; rcases hv with rfl | rfl <;> rfl) ?_; intro v5 h5 t5; have OB5 := Lib.hid h5; have X5 := Lib.hid (C4.out.trans (t5.below (Nat.le_refl _))); have B5 := Lib.hid (belT BY.out X5.out); have d0 := h5.get 0 rfl; have d1 := h5.get 1 rfl; clear h5 t5 c0 c1))
                have Q5 := Lib.hid (HQ.out.below X5.out)
                have M5 := Lib.hid (MA.out.below X5.out)
                have PP := Lib.hid (gpop_none Q5.out.1)
                have GL := Lib.hid (glen Q5.out.1)
                refine PP.out.mono ?_; rintro e v6 ⟨rfl, rfl⟩
                clear PP
                go_wp2_with fail
                refine GL.out.mono ?_; rintro e v7 ⟨rfl, rfl⟩
                go_wp2_with fail
                go_round
                case rel => exact ⟨q + 1, [], S, ma, 0, mc, by go_num, rfl, JN.out, M5, MD, Q5, SB, ML2, B5⟩
                case measure => simp [intOf]; have := JN.out; omega
              · have k3 : (K == 1) = false := by simpa using k2
                go_wp2_with (first | (refine wpList_alloc_obj rfl 31 rfl [.int .i64 0, .slice none 0 0] HZ.out ?_; intro v4 h4 b4; have H4 := Lib.hid h4; have C4 := Lib.hid b4; clear h4 b4) | (refine wpList_store_obj rfl 31 _ _ rfl wr.heap.size rfl [.int .i64 K, .slice a' nL c'] [.int .i64 0, .slice none 0 0] rfl 31 H4.out HZS.out rfl (by intro v hv; simp at hv; rcases hv with rfl | rfl <;> rfl) ?_; intro v5 h5 t5; have OB5 := Lib.hid h5; have X5 := Lib.hid (C4.out.trans (t5.below (Nat.le_refl _))); have B5 := Lib.hid (belT BY.out X5.out); have d0 := h5.get 0 rfl; have d1 := h5.get 1 rfl; clear h5 t5 c0 c1))
                have Q5 := Lib.hid (HQ.out.below X5.out)
                have M5 := Lib.hid (MA.out.below X5.out)
                have PP := Lib.hid (gpeek_none Q5.out.1)
                have GL := Lib.hid (glen Q5.out.1)
                refine PP.out.mono ?_; rintro e v6 ⟨rfl, rfl⟩
                clear PP
                go_wp2_with fail
                refine GL.out.mono ?_; rintro e v7 ⟨rfl, rfl⟩
                go_wp2_with fail
                go_round
                case rel => exact ⟨q + 1, [], S, ma, 0, mc, by go_num, rfl, JN.out, M5, MD, Q5, SB, ML2, B5⟩
                case measure => simp [intOf]; have := JN.out; omega
          | cons x r =>
            obtain ⟨mb, mo, y, rfl, -, hy0, -, -, hy⟩ := MA.out.get 0 (by have := MA.out.n; rw [List.length_cons] at this; omega)
            obtain rfl : x = y := Option.some.inj hy0
            rw [Nat.add_zero] at hy
            have mlt : mb < wr.heap.size := World.block_lt_of_cell? wr (⟨mb, mo, none⟩ : Addr) hy
            have CL : Hid (∀ W, Below wr.heap.size wr W → W.cell? ⟨mb, mo, none⟩ = some (.string x)) := fun W hW => (World.cell?_of_block (hW.block mb mlt)).trans hy
            have mp : (0 : Int) < mN := by have := MA.out.n; rw [List.length_cons] at this; omega
            have mp2 : (0 : Int) < mc := by have := MA.out.c; omega
            have mp3 : (1 : Int) ≤ mN := by omega
            have mp4 : (1 : Int) ≤ mc := by omega
            have mbd : (mN : Int) ≤ 1048576 := by have := MA.out.n; have := MB.out; omega
            clear hy hy0 mlt
            by_cases k0 : K = 0
            · subst k0
              go_wp2_with (first | (refine wpList_alloc_obj rfl 31 rfl [.int .i64 0, .slice none 0 0] HZ.out ?_; intro v4 h4 b4; have H4 := Lib.hid h4; have C4 := Lib.hid b4; clear h4 b4) | (refine wpList_store_obj rfl 31 _ _ rfl wr.heap.size rfl [.int .i64 0, .slice a' nL c'] [.int .i64 0, .slice none 0 0] rfl 31 H4.out HZS.out rfl (by intro v hv; simp at hv; rcases hv with rfl | rfl <;> rfl) ?_; intro v5 h5 t5; have OB5 := Lib.hid h5; have X5 := Lib.hid (C4.out.trans (t5.below (Nat.le_refl _))); have B5 := Lib.hid (belT BY.out X5.out); have d0 := h5.get 0 rfl; have d1 := h5.get 1 rfl; have c2 := CL.out _ X5.out; clear h5 t5 c0 c1))
              have Q5 := Lib.hid (HQ.out.below X5.out)
              have M5 := Lib.hid (MA.out.below X5.out)
              have PU := Lib.hid (gpush Q5.out (HX.out.below B5.out) LD.out (by have := MB.out; omega))
              refine PU.out.mono ?_; rintro e v6 ⟨rfl, o6, q6⟩
              have Q6' := Lib.hid q6
              have OB6 := Lib.hid (OB5.out.only o6 (GB.out _ X5.out))
              have M6 := Lib.hid (M5.out.only o6 (.inr MD.out))
              have C6 : Hid (Below w.heap.size w v6) := B5.out.trans (o6.below SB.out B5.out.size)
              have e0 := OB6.out.get 0 rfl
              have e1 := OB6.out.get 1 rfl
              have S6 : Hid (∀ k, Grow S v5 v6 k → w.heap.size ≤ k) := fun k hk => Or.elim hk (SB.out k) fun u => Nat.le_trans B5.out.size u.1
              clear o6 q6 PU d0 d1 c2
              obtain ⟨N7, hN7⟩ := named ((x :: r).length + nL)
              have FN : Hid ((L.foldl ins (x :: r)).length = N7) := by show _ = _; rw [foldl_len, hN7.out, hnL.out]
              go_wp2_with (refine wpList_lit2 rfl 29 22 _ _ rfl Try.underlying29 EL.out (.slice (some ⟨mb, mo, none⟩) mN mc) (.slice a' nL c') rfl rfl rfl rfl ?_; intro v7 h7 b7; have H7 := Lib.hid h7; have C7 := Lib.hid (belT C6.out b7); have M7 := Lib.hid (M6.out.below b7); have Q7 := Lib.hid (Q6'.out.below b7); clear h7 b7 e0 e1)
              have RM := Lib.hid (rmrgN _ 2 2 N7 [(x :: r), L] v7 (ls_two H7.out M7.out (HX.out.below C7.out)) (by omega) (by show N7 = _; rw [hN7.out, hnL.out]; first | (simp; done) | (simp; omega)) (by have := MB.out; have := hN7.out; omega))
              rw [mrg_next HQ.out.1.so] at RM
              go_wp2_with fail
              refine RM.out.mono ?_; rintro e v8 ⟨ua, uc, rfl, g8, b8, r8⟩
              have G8 := Lib.hid g8
              have Q8 := Lib.hid (Q7.out.below b8)
              have C8 := Lib.hid (belT C7.out b8)
              have R8 : Hid (∀ x, ua = some x → ¬ Grow S v5 v6 x.block) := fun x hx c => by have := r8 x hx; have := Q7.out.2 _ c; omega
              have GL := Lib.hid (glen Q8.out.1)
              rw [FN.out] at GL
              have FL : Hid ((L.foldl ins (x :: r)).length ≤ n + ((us.take (q + 1)).map (·.2)).flatten.length) := by show _ ≤ _; rw [FN.out, hN7.out, hnL.out]; have := ML.out; have := FT.out; omega
              clear g8 b8 r8 RM Q7 M7 H7 M6 Q6' OB6 OB5
              go_wp2_with fail
              refine GL.out.mono ?_; rintro e v9 ⟨rfl, rfl⟩
              go_wp2_with fail
              go_round
              case rel => exact ⟨q + 1, L.foldl ins (x :: r), _, ua, N7, uc, by go_num, rfl, JN.out, G8, R8, Q8, S6, FL, C8⟩
              case measure => simp [intOf]; have := JN.out; omega
            · have k1 : (K == 0) = false := by simpa using k0
              by_cases k2 : K = 1
              · subst k2
                go_wp2_with (first | (refine wpList_alloc_obj rfl 31 rfl [.int .i64 0, .slice none 0 0] HZ.out ?_; intro v4 h4 b4; have H4 := Lib.hid h4; have C4 := Lib.hid b4; clear h4 b4) | (refine wpList_store_obj rfl 31 _ _ rfl wr.heap.size rfl [.int .i64 1, .slice a' nL c'] [.int .i64 0, .slice none 0 0] rfl 31 H4.out HZS.out rfl (by intro v hv; simp at hv; rcases hv with rfl | rfl <;> rfl) ?_; intro v5 h5 t5; have OB5 := Lib.hid h5; have X5 := Lib.hid (C4.out.trans (t5.below (Nat.le_refl _))); have B5 := Lib.hid (belT BY.out X5.out); have d0 := h5.get 0 rfl; have d1 := h5.get 1 rfl; have c2 := CL.out _ X5.out; clear h5 t5 c0 c1))
                have Q5 := Lib.hid (HQ.out.below X5.out)
                have M5 := Lib.hid (MA.out.below X5.out)
                have PP := Lib.hid (gpop Q5.out (by have := MB.out; rw [List.length_cons] at this; omega))
                have RN : Hid (r.length = mN - 1) := by show _ = _; have := MA.out.n; rw [List.length_cons] at this; omega
                have RL2 : Hid (r.length ≤ n + ((us.take (q + 1)).map (·.2)).flatten.length) := by show _ ≤ _; have := ML2.out; rw [List.length_cons] at this; omega
                have ML5 : Hid (mb < v5.heap.size) := World.block_lt_of_cell? v5 (⟨mb, mo, none⟩ : Addr) c2
                by_cases hc1 : mc = 1
                · subst hc1
                  go_wp2_with fail
                  refine PP.out.mono ?_; rintro e v6 ⟨rfl, o6, q6⟩
                  have Q6' := Lib.hid q6
                  have C6 : Hid (Below w.heap.size w v6) := B5.out.trans (o6.below SB.out B5.out.size)
                  have M6 := Lib.hid (tail_args1 (M5.out.only o6 (.inr MD.out)))
                  have S6 : Hid (∀ k, Grow S v5 v6 k → w.heap.size ≤ k) := fun k hk => Or.elim hk (SB.out k) fun u => Nat.le_trans B5.out.size u.1
                  have D6 : Hid (∀ o z, some (⟨mb, o, none⟩ : Addr) = some z → ¬ Grow S v5 v6 z.block) := fun o z hz c => by
                    injection hz with hz
                    subst hz
                    exact Or.elim c (MD.out ⟨mb, mo, none⟩ rfl) fun u => absurd (show v5.heap.size ≤ mb from u.1) (Nat.not_le.mpr (Nat.lt_of_lt_of_le ML5.out (Nat.le_refl _)))
                  have GL := Lib.hid (glen q6.1)
                  rw [RN.out] at GL
                  clear o6 q6 PP
                  go_wp2_with fail
                  refine GL.out.mono ?_; rintro e v7 ⟨rfl, rfl⟩
                  go_wp2_with fail
                  go_round
                  case rel => exact ⟨q + 1, r, _, _, mN - 1, _, by go_num, rfl, JN.out, M6, D6.out _, Q6', S6, RL2, C6⟩
                  case measure => simp [intOf]; have := JN.out; omega
                · have hc2 : ¬ (mc : Int) = 1 := by omega
                  have hc3 : ¬ 1 = mc := by omega
                  go_wp2_with fail
                  refine PP.out.mono ?_; rintro e v6 ⟨rfl, o6, q6⟩
                  have Q6' := Lib.hid q6
                  have C6 : Hid (Below w.heap.size w v6) := B5.out.trans (o6.below SB.out B5.out.size)
                  have M6 := Lib.hid (tail_args (M5.out.only o6 (.inr MD.out)))
                  have S6 : Hid (∀ k, Grow S v5 v6 k → w.heap.size ≤ k) := fun k hk => Or.elim hk (SB.out k) fun u => Nat.le_trans B5.out.size u.1
                  have D6 : Hid (∀ o z, some (⟨mb, o, none⟩ : Addr) = some z → ¬ Grow S v5 v6 z.block) := fun o z hz c => by
                    injection hz with hz
                    subst hz
                    exact Or.elim c (MD.out ⟨mb, mo, none⟩ rfl) fun u => absurd (show v5.heap.size ≤ mb from u.1) (Nat.not_le.mpr (Nat.lt_of_lt_of_le ML5.out (Nat.le_refl _)))
                  have GL := Lib.hid (glen q6.1)
                  rw [RN.out] at GL
                  clear o6 q6 PP
                  go_wp2_with fail
                  refine GL.out.mono ?_; rintro e v7 ⟨rfl, rfl⟩
                  go_wp2_with fail
                  go_round
                  case rel => exact ⟨q + 1, r, _, _, mN - 1, _, by go_num, rfl, JN.out, M6, D6.out _, Q6', S6, RL2, C6⟩
                  case measure => simp [intOf]; have := JN.out; omega
              · have k3 : (K == 1) = false := by simpa using k2
                go_wp2_with (first | (refine wpList_alloc_obj rfl 31 rfl [.int .i64 0, .slice none 0 0] HZ.out ?_; intro v4 h4 b4; have H4 := Lib.hid h4; have C4 := Lib.hid b4; clear h4 b4) | (refine wpList_store_obj rfl 31 _ _ rfl wr.heap.size rfl [.int .i64 K, .slice a' nL c'] [.int .i64 0, .slice none 0 0] rfl 31 H4.out HZS.out rfl (by intro v hv; simp at hv; rcases hv with rfl | rfl <;> rfl) ?_; intro v5 h5 t5; have OB5 := Lib.hid h5; have X5 := Lib.hid (C4.out.trans (t5.below (Nat.le_refl _))); have B5 := Lib.hid (belT BY.out X5.out); have d0 := h5.get 0 rfl; have d1 := h5.get 1 rfl; have c2 := CL.out _ X5.out; clear h5 t5 c0 c1))
                have Q5 := Lib.hid (HQ.out.below X5.out)
                have M5 := Lib.hid (MA.out.below X5.out)
                have PP := Lib.hid (gpeek Q5.out.1)
                have GL := Lib.hid (glen Q5.out.1)
                rw [MA.out.n] at GL
                refine PP.out.mono ?_; rintro e v6 ⟨rfl, rfl⟩
                clear PP
                go_wp2_with fail
                refine GL.out.mono ?_; rintro e v7 ⟨rfl, rfl⟩
                go_wp2_with fail
                go_round
                case rel => exact ⟨q + 1, x :: r, S, _, mN, mc, by go_num, rfl, JN.out, M5, MD, Q5, SB, ML2, B5⟩
                case measure => simp [intOf]; have := JN.out; omega
        · obtain rfl : q = j := by omega
          clear hq hqj
          go_wp2_with fail
          refine (alive_any wr).mono ?_; rintro e w7 ⟨rfl, b7⟩
          have B7 := Lib.hid (belT BY.out b7)
          clear b7
          go_wp2_with fail
          go_ret
          exact ⟨rfl, B7.out⟩
end Go.Proofs.Ytjokgiheabmolaa
