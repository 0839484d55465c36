/-
  The program's Merge.
-/
import Derived.Test.YtjokgiheabmolaaHepPsh
import Derived.Test.YtjokgiheabmolaaHepRMrg
namespace Go.Proofs.Ytjokgiheabmolaa.Hep
open Go.RowKit

theorem foldl_app (a b m : List ByteArray) : (a ++ b).foldl ins m = b.foldl ins (a.foldl ins m) := List.foldl_append
theorem mrg_of {ls : List (List ByteArray)} {j : Nat} {l : List ByteArray} (h : ls[j]? = some l) : (ls.take (j + 1)).flatten.foldl ins [] = l.foldl ins ((ls.take j).flatten.foldl ins []) := by
  rw [take_more h, List.foldl_append]
theorem own_of_only {T : Nat → Prop} {w w' : World} {base n : Nat} {e : TypeId} {v : Value} {xs : List Value} (h : w.ownsRow base e 1 v n xs) (ho : Only T w w') (hd : ∀ k, v.ownBlock = some k → ¬ T k) : w'.ownsRow base e 1 v n xs := own_onlyB h ho hd
theorem only_append {w w' : World} {B : Nat} {v : Value} (hb : Below B w w') (hk : ∀ k, k < w.heap.size → some k ≠ v.ownBlock → w'.heap[k]? = w.heap[k]?) : Only (fun k => v.ownBlock = some k) w w' :=
  ⟨hb.os, hb.tape, hb.output, hb.size, fun k h1 h2 => hk k h1 fun c => h2 c.symm⟩
theorem ls_sizes {w : World} {a : Option Addr} {n cap : Nat} {ls : List (List ByteArray)} (h : ArgLs w a n cap ls) : ∀ y ∈ ls.flatten, y.size ≤ 140737488355328 := by
  intro y hy
  obtain ⟨l, hl, hyl⟩ := List.mem_flatten.mp hy
  obtain ⟨i, hi, rfl⟩ := List.getElem_of_mem hl
  obtain ⟨b, off, a', c', -, -, -, hs⟩ := h.get i _ (List.getElem?_eq_getElem hi)
  exact hs.s y hyl
set_option maxRecDepth 100000 in
set_option maxHeartbeats 8000000 in
theorem gmrg (a : Option Addr) (n cap : Nat) (ls : List (List ByteArray)) (w : World) (ha : ArgLs w a n cap ls) (hn : n < 8796093022208) (ht : ls.flatten.length ≤ 8796093022208) :
    Calls Try.prog 18 #[.slice a n cap] w fun e w' => ∃ v, e = .returned v ∧ w'.ownsRow w.heap.size 9 1 v ls.flatten.length (ssC (mrg ls)) ∧ Below w.heap.size w w' := by
  have HA := Lib.hid ha
  have HT := Lib.hid ht
  have nb : (n : Int) < 8796093022208 := by omega
  have GN := Lib.hid (gnew (ArgSs.nil w) (Nat.zero_le _))
  have ES : Hid (ElemS Try.prog 9) := elemS (by kernel_rfl)
  obtain ⟨i0, HI⟩ : ∃ i0, Hid (Try.prog.info? 9 = some i0 ∧ i0.zero = some (.string ⟨#[]⟩) ∧ i0.size = 1 ∧ i0.bytes = 16) := by
    obtain ⟨i0, h⟩ := ES.out
    exact ⟨i0, h⟩
  clear ha hn ht
  go_enter Try.func18, Try.ntmps18
  go_wp2_with fail
  refine GN.out.mono ?_; rintro e w1 ⟨S1, gg, rfl, q1, s1, b1⟩
  have Q1 : Hid (Hq S1 gg w1 []) := q1
  have SB1 := Lib.hid s1
  have B1 := Lib.hid b1
  clear q1 s1 b1 GN
  go_wp2_with fail
  go_loopw [15] (fun i wr => ∃ (j : Nat) (S : Nat → Prop), i = .int .i64 j ∧ j ≤ n ∧ Hid (Hq S gg wr ((ls.take j).flatten.foldl ins [])) ∧ Hid (∀ k, S k → w.heap.size ≤ k) ∧ Hid (Below w.heap.size w wr)) (fun i _ => n - (intOf i).toNat)
  case atStart => exact ⟨0, S1, rfl, Nat.zero_le _, Q1, SB1, B1⟩
  case round =>
    obtain ⟨j, S, rfl, hj, HQ, SB, BW⟩ := hrel
    by_cases hjn : j < n
    · have j1 : (j : Int) < n := by omega
      have j2 : (j : Int) < cap := by have := HA.out.lc; omega
      obtain ⟨l, hl⟩ : ∃ l, ls[j]? = some l := ⟨_, List.getElem?_eq_getElem (by rw [HA.out.ln]; exact hjn)⟩
      obtain ⟨b, off, a', c', rfl, hb, hc, hx⟩ := HA.out.get j l hl
      have c1 : wr.cell? ⟨b, off + j, none⟩ = some (.slice a' l.length c') := (World.cell?_of_block (BW.out.block b hb)).trans hc
      have HX := Lib.hid (hx.below BW.out)
      have dj : l = [] ∨ ∀ x, a' = some x → ¬ S x.block := by
        rcases hx.r with q | ⟨b', off', rfl, q, _⟩
        · exact .inl q
        · exact .inr fun x hx c => by injection hx with hx; subst hx; have c1 := SB.out _ c; exact absurd (show b' < w.heap.size from q) (Nat.not_lt.mpr c1)
      have TL : Hid ((ls.take (j + 1)).flatten.foldl ins [] = l.foldl ins ((ls.take j).flatten.foldl ins [])) := mrg_of hl
      have LB : ((ls.take j).flatten.foldl ins []).length + l.length ≤ 8796093022208 := by
        obtain ⟨r, hr⟩ := part_at hl l.length
        have := congrArg List.length hr
        rw [List.take_of_length_le (Nat.le_refl _), List.length_append, List.length_append] at this
        rw [foldl_len, List.length_nil]
        have := HT.out; omega
      have PU := Lib.hid (gpush HQ.out HX.out dj LB)
      obtain ⟨L, hL⟩ := named l.length
      rw [← hL.out] at c1 PU
      have JN := Lib.hid hjn
      clear hj hjn hl hb hc hx dj LB
      go_wp2_with fail
      refine PU.out.mono ?_; rintro e w3 ⟨rfl, o3, h3⟩
      have B3 : Hid (Below w.heap.size w w3) := BW.out.trans (o3.below SB.out BW.out.size)
      have H3 : Hid (Hq (Grow S wr w3) gg w3 ((ls.take (j + 1)).flatten.foldl ins [])) := by show Hq _ _ _ _; rw [TL.out]; exact h3
      have S3 : Hid (∀ k, Grow S wr w3 k → w.heap.size ≤ k) := fun k hk => Or.elim hk (SB.out k) fun q => Nat.le_trans BW.out.size q.1
      clear o3 h3
      go_wp2_with fail
      go_round
      case rel => exact ⟨j + 1, _, by go_num, JN.out, H3, S3, B3⟩
      case measure => simp [intOf]; have := JN.out; omega
    · obtain rfl : j = n := by omega
      have ZF : Hid ((ls.take j).flatten = ls.flatten) := by show _ = _; rw [List.take_of_length_le (by rw [HA.out.ln]; omega)]
      have HF : Hid (Hq S gg wr (mrg ls)) := by
        have e := HQ.out
        rw [ZF.out] at e
        exact e
      clear hj hjn
      obtain ⟨M, hM⟩ := named (mrg ls)
      rw [← hM.out] at HF
      have ML : Hid (M.length = ls.flatten.length) := by show _ = _; rw [hM.out]; exact (mrg_perm ls).length_eq
      have GL := Lib.hid (glen HF.out.1)
      obtain ⟨N, hN⟩ := named M.length
      rw [← hN.out] at GL
      have NB : Hid (N ≤ 8796093022208) := by show _ ≤ _; rw [hN.out, ML.out]; exact HT.out
      have nb2 : (N : Int) ≤ 8796093022208 := by have := NB.out; omega
      go_wp2_with fail
      refine GL.out.mono ?_; rintro e w4 ⟨rfl, rfl⟩
      go_wp2_with (refine wpList_make_own _ rfl _ _ 22 rfl wr.heap.size 9 i0 (.string ⟨#[]⟩) 1 Try.underlying22 HI.out.1 HI.out.2.1 HI.out.2.2.1 .i64 .i64 (N : Int) N rfl rfl rfl (by rw [HI.out.2.2.2]; have := NB.out; omega) (by unfold maxLen; have := NB.out; omega) (Nat.le_refl _) ?_; intro w5 h5 g5; have OW5 := Lib.hid h5; have B5 := Lib.hid ((Below.refl wr.heap.size wr).grown g5 (Nat.le_refl _) (fun _ h => by cases h)); clear h5 g5)
      have Q5 := Lib.hid (HF.out.below B5.out)
      have X5 : Hid (¬ S wr.heap.size) := fun c => absurd (HF.out.2 _ c) (Nat.lt_irrefl _)
      have W5 : Hid (Below w.heap.size w w5) := BW.out.trans (B5.out.mono BW.out.size)
      have O5 : Hid (w5.ownsRow w.heap.size 9 1 (.slice (some ⟨wr.heap.size, 0, none⟩) 0 N) 0 (ssC [])) := own_base OW5.out BW.out.size
      have P5 := Lib.hid (gpop_any Q5.out (by rw [← hN.out]; exact NB.out))
      have Z5 : Hid (wr.heap.size < w5.heap.size) := by
        obtain ⟨_, _, hv, _, _, _, _, q⟩ := SsIn.of_own O5.out
        cases hv
        exact (q _ rfl).2.2.1
      obtain ⟨x5, hx5⟩ := named wr.heap.size
      rw [← hx5.out] at X5 O5 Z5
      clear GL HQ ZF Q5 OW5
      go_wp2_with fail
      refine P5.out.mono ?_; rintro e w6 ⟨rfl, o6, q6⟩
      have W6 : Hid (Below w.heap.size w w6) := W5.out.trans (o6.below SB.out W5.out.size)
      have Q6 := Lib.hid q6
      have O6 : Hid (w6.ownsRow w.heap.size 9 1 (.slice (some ⟨x5, 0, none⟩) 0 N) 0 (ssC [])) := own_of_only O5.out o6 fun k hk c => by injection hk with hk; subst hk; exact X5.out c
      have S6 : Hid (∀ k, Grow S w5 w6 k → w.heap.size ≤ k) := fun k hk => Or.elim hk (SB.out k) fun q => Nat.le_trans W5.out.size q.1
      have X6 : Hid (¬ Grow S w5 w6 x5) := fun c => Or.elim c X5.out fun q => absurd q.1 (Nat.not_le.mpr Z5.out)
      clear o6 q6 P5 O5
      rw [← hx5.out]
      go_wp2_with fail
      go_loopw [7, 8, 9] (fun v p o wq => ∃ (done rest : List ByteArray) (S : Nat → Prop) (va : Option Addr) (D vc : Nat), v = .slice va D vc ∧ p = .string (hdd rest) ∧ o = .bool (!rest.isEmpty) ∧ Hid (M = done ++ rest) ∧ Hid (D = done.length) ∧ Hid (wq.ownsRow w.heap.size 9 1 (.slice va D vc) D (ssC done)) ∧ Hid (Hq S gg wq rest.tail) ∧ Hid (∀ k, S k → w.heap.size ≤ k) ∧ Hid (∀ x, va = some x → ¬ S x.block) ∧ Hid (Below w.heap.size w wq)) (fun v _ _ _ => match v with | .slice _ l _ => N - l | _ => 0)
      case atStart => exact ⟨[], M, _, _, 0, N, rfl, rfl, rfl, (by show _ = _; rfl), (by show _ = _; rfl), O6, Q6, S6, (fun x hx => by injection hx with hx; subst hx; exact X6.out), W6⟩
      case round =>
        obtain ⟨done, rest, S2, va, D, vc, rfl, rfl, rfl, MD, DL, OW, HQ2, SB2, XA, BW2⟩ := hrel
        cases rest with
        | nil =>
          have e1 : (!([] : List ByteArray).isEmpty) = false := rfl
          rw [e1]
          go_wp2_with fail
          go_ret
          refine ⟨_, rfl, ?_, BW2.out⟩
          have e := OW.out
          have e2 : done = mrg ls := by rw [← hM.out, MD.out, List.append_nil]
          rw [e2] at e
          have e3 : D = ls.flatten.length := by rw [DL.out, e2, ← hM.out]; exact ML.out
          rw [e3] at e ⊢
          exact e
        | cons x r =>
          have e1 : (!(x :: r).isEmpty) = true := rfl
          have e2 : hdd (x :: r) = x := rfl
          rw [e1, e2]
          have Q2 : Hid (Hq S2 gg wr r) := HQ2.out
          have DN : Hid (D < N) := by show _ < _; rw [hN.out, MD.out, List.length_append, DL.out, List.length_cons]; omega
          have RN : Hid (r.length ≤ 8796093022208) := by
            show _ ≤ _
            have : N = done.length + (r.length + 1) := by rw [hN.out, MD.out, List.length_append, List.length_cons]
            have := NB.out; omega
          clear HQ2 e1 e2
          go_wp2_with (first | (at_builtin; (have qq := G3.out; clear qq); refine wpList_append_ss rfl _ _ 22 rfl 9 w.heap.size Try.underlying22 ES.out (.slice va D vc) _ _ rfl O3.out _ _ _ [x] rfl G3.out.ss rfl (by have := DN.out; have := NB.out; omega) B3.out.size ?_; intro v4 w4 o4 b4 k4 c4; have O4 := Lib.hid o4; have B4 := Lib.hid (B3.out.trans b4); have Y4 := Lib.hid (only_append b4 k4); have C4 := Lib.hid c4; clear o4 b4 k4 c4) | (refine wpList_lit_ss1 rfl 22 9 _ rfl Try.underlying22 ES.out x rfl ?_; intro w3 g3 b3; have G3 := Lib.hid g3; have O3 := Lib.hid (own_stay' OW.out b3 (Nat.le_refl _)); have Q3 := Lib.hid (Q2.out.below b3); have B3 := Lib.hid (BW2.out.trans (b3.mono BW2.out.size)); clear g3 b3))
          obtain ⟨va5, vc5, rfl, -, -, -, -, y5⟩ := SsIn.of_own O4.out
          have Y5 := Lib.hid y5
          clear y5
          have Q5 : Hid (Hq S2 gg w4 r) := Q3.out.only Y4.out fun k hk c => by
            cases va with
            | none => cases c
            | some z => injection c with c; subst c; exact XA.out _ rfl hk
          have X5 : Hid (∀ z, va5 = some z → ¬ S2 z.block) := fun z hz hs => by
            rcases C4.out with c | c
            · cases va with
              | none => rw [hz] at c; cases c
              | some u => rw [hz] at c; injection c with c; rw [show z.block = u.block from c] at hs; exact XA.out _ rfl hs
            · rw [hz] at c
              injection c with c
              have h1 := Q3.out.2 _ hs
              rw [show z.block = w3.heap.size from c] at h1
              exact absurd h1 (Nat.lt_irrefl _)
          have P5 := Lib.hid (gpop_any Q5.out RN.out)
          clear Y4 C4 Q3 OW
          go_wp2_with fail
          refine P5.out.mono ?_; rintro e w6 ⟨rfl, o6, q6⟩
          have W6 : Hid (Below w.heap.size w w6) := B4.out.trans (o6.below SB2.out B4.out.size)
          have Q6 := Lib.hid q6
          have O6 : Hid (w6.ownsRow w.heap.size 9 1 (.slice va5 (D + 1) vc5) (D + 1) (ssC (done ++ [x]))) := own_of_only O4.out o6 fun k hk c => by
            cases va5 with
            | none => cases hk
            | some z => injection hk with hk; subst hk; exact X5.out _ rfl c
          have S6 : Hid (∀ k, Grow S2 w4 w6 k → w.heap.size ≤ k) := fun k hk => Or.elim hk (SB2.out k) fun q => Nat.le_trans B4.out.size q.1
          have X6 : Hid (∀ z, va5 = some z → ¬ Grow S2 w4 w6 z.block) := fun z hz c => Or.elim c (X5.out z hz) fun q => absurd q.1 (Nat.not_le.mpr (Y5.out z hz).2.2.1)
          clear o6 q6 P5
          go_wp2_with fail
          go_round
          case rel => exact ⟨done ++ [x], r, _, va5, D + 1, vc5, rfl, rfl, rfl, (by show _ = _; rw [MD.out, List.append_assoc]; rfl), (by show _ = _; rw [List.length_append, DL.out]; rfl), O6, Q6, S6, X6, W6⟩
          case measure => have := DN.out; show N - (D + 1) < N - D; omega
end Go.Proofs.Ytjokgiheabmolaa.Hep
