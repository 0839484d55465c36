/-
  PathheapPeekIsPop.
-/
import Derived.Test.YtjokgiheabmolaaHepAlive
namespace Go.Proofs.Ytjokgiheabmolaa
open Go.RowKit Hep

namespace Hep
theorem mrg1_len (ys : List ByteArray) : (mrg [ys]).length = ys.length := by rw [(mrg_perm [ys]).length_eq]; simp
theorem mrg1_sizes {ys : List ByteArray} (h : ∀ y ∈ ys, y.size ≤ 140737488355328) : ∀ y ∈ mrg [ys], y.size ≤ 140737488355328 := fun y hy => h y (by have := (mrg_perm [ys]).mem_iff.mp hy; simpa using this)
theorem drop_tail (m : List ByteArray) (j : Nat) : (m.drop j).tail = m.drop (j + 1) := by rw [List.tail_drop]
end Hep

set_option maxRecDepth 100000 in
set_option maxHeartbeats 8000000 in
theorem walk_PathheapPeekIsPop (a : Option Addr) (n cap : Nat) (ys : List ByteArray) (w : World) (ha : ArgSs w a n cap ys) (hn : n * 16 ≤ 140737488355328) :
    Calls Try.prog 7 #[.slice a n cap] w fun e w' => e = .returned (.bool true) ∧ Below w.heap.size w w' := by
  have HA := Lib.hid ha
  have HN : Hid (n ≤ 8796093022208) := by show _ ≤ _; omega
  have nb : (n : Int) ≤ 8796093022208 := by omega
  have EL : Hid (ElemV Try.prog 22) := elemV_l (by kernel_rfl)
  have GN := Lib.hid (gnew ha HN.out)
  clear ha hn
  go_enter Try.func7, Try.ntmps7
  go_wp2_with fail
  refine GN.out.mono ?_; rintro e w1 ⟨S, gg, rfl, q1, s1, b1⟩
  have Q1 := Lib.hid q1; have S1 := Lib.hid s1; have B1 := Lib.hid b1
  clear q1 s1 b1 GN
  go_wp2_with (refine wpList_lit1 rfl 29 22 _ rfl Try.underlying29 EL.out (.slice a n cap) rfl rfl ?_; intro w2 h2 b2; have H2 := Lib.hid h2; have B2 := Lib.hid b2; clear h2 b2)
  have W2 := Lib.hid (belT B1.out B2.out)
  have Q2 := Lib.hid (Q1.out.below B2.out)
  refine (size_any _ 1 1 [ys] w2 (ls_one H2.out (HA.out.below W2.out)) (by omega) (fun l hl => by obtain rfl := List.mem_singleton.mp hl; rw [HA.out.n]; exact HN.out)).mono ?_; rintro e w3 ⟨z, rfl, rfl⟩
  by_cases hz : 3000 < z
  · go_wp2_with fail
    refine (alive_any w2).mono ?_; rintro e w3 ⟨rfl, b3⟩
    have B3 := Lib.hid (belT W2.out b3)
    clear b3
    go_wp2_with fail
    go_ret
    exact ⟨rfl, B3.out⟩
  · have hz' : z ≤ 3000 := by omega
    obtain ⟨M, hM⟩ := named (mrg [ys])
    rw [← hM.out] at Q2
    have ML : Hid (M.length = n) := by show _ = _; rw [hM.out, mrg1_len]; exact HA.out.n
    go_wp2_with fail
    go_loopw [25] (fun i wr => ∃ (j : Nat) (S : Nat → Prop), i = .int .i64 j ∧ j ≤ n + 1 ∧ Hid (Hq S gg wr (M.drop j)) ∧ Hid (∀ k, S k → w.heap.size ≤ k) ∧ Hid (Below w.heap.size w wr)) (fun i _ => n + 1 - (intOf i).toNat)
    case atStart => exact ⟨0, S, rfl, Nat.zero_le _, Q2, S1, W2⟩
    case round =>
      obtain ⟨j, S, rfl, hj, HQ, SB, BW⟩ := hrel
      by_cases hjn : j < n + 1
      · have j1 : (j : Int) < (n : Int) + 1 := by omega
        have JN := Lib.hid hjn
        obtain ⟨m, hm⟩ := named (M.drop j)
        have DT : Hid (m.tail = M.drop (j + 1)) := by show _ = _; rw [hm.out, drop_tail]
        have LM : Hid (m.length ≤ 8796093022208) := by show _ ≤ _; rw [hm.out, List.length_drop, ML.out]; have := HN.out; omega
        rw [← hm.out] at HQ
        clear hj hjn
        cases m with
        | nil =>
          have GL := Lib.hid (glen HQ.out.1)
          have GK := Lib.hid (gpeek_none HQ.out.1)
          have GP := Lib.hid (gpop_none HQ.out.1)
          go_wp2_with fail
          refine GL.out.mono ?_; rintro e w4 ⟨rfl, rfl⟩
          go_wp2_with fail
          refine GK.out.mono ?_; rintro e w4 ⟨rfl, rfl⟩
          go_wp2_with fail
          refine GK.out.mono ?_; rintro e w4 ⟨rfl, rfl⟩
          go_wp2_with fail
          refine GP.out.mono ?_; rintro e w4 ⟨rfl, rfl⟩
          go_wp2_with fail
          go_round
          case rel => exact ⟨j + 1, S, by go_num, JN.out, (by show Hq _ _ _ _; rw [← DT.out]; exact HQ.out), SB, BW⟩
          case measure => simp [intOf]; have := JN.out; omega
        | cons x r =>
          have GL := Lib.hid (glen HQ.out.1)
          have GK := Lib.hid (gpeek HQ.out.1)
          have GP := Lib.hid (gpop HQ.out (by have := LM.out; rw [List.length_cons] at this; omega))
          obtain ⟨L, hL⟩ := named (x :: r).length
          rw [← hL.out] at GL
          obtain ⟨R, hR⟩ := named r.length
          have e1 : (L : Int) - 1 = R := by have := hL.out; have := hR.out; rw [List.length_cons] at *; omega
          have e2 : (0 : Int) < L := by have := hL.out; rw [List.length_cons] at this; omega
          have e3 : (L : Int) ≤ 8796093022208 := by have := hL.out; have := LM.out; omega
          go_wp2_with fail
          refine GL.out.mono ?_; rintro e w4 ⟨rfl, rfl⟩
          go_wp2_with fail
          refine GK.out.mono ?_; rintro e w4 ⟨rfl, rfl⟩
          go_wp2_with fail
          refine GK.out.mono ?_; rintro e w4 ⟨rfl, rfl⟩
          go_wp2_with fail
          refine GP.out.mono ?_; rintro e w4 ⟨rfl, o4, q4⟩
          have Q4 := Lib.hid q4
          have B4 : Hid (Below w.heap.size w w4) := BW.out.trans (o4.below SB.out BW.out.size)
          have S4 : Hid (∀ k, Grow S wr w4 k → w.heap.size ≤ k) := fun k hk => Or.elim hk (SB.out k) fun q => Nat.le_trans BW.out.size q.1
          have GL2 := Lib.hid (glen q4.1)
          rw [← hR.out] at GL2
          clear o4 q4
          go_wp2_with fail
          refine GL2.out.mono ?_; rintro e w5 ⟨rfl, rfl⟩
          go_wp2_with fail
          go_round
          case rel => exact ⟨j + 1, _, by go_num, JN.out, (by show Hq _ _ _ _; rw [← DT.out]; exact Q4.out), S4, B4⟩
          case measure => simp [intOf]; have := JN.out; omega
      · obtain rfl : j = n + 1 := by omega
        have HQ0 : Hid (Hq S gg wr []) := by
          have e := HQ.out
          rw [List.drop_eq_nil_of_le (by rw [ML.out]; omega)] at e
          exact e
        clear hj hjn HQ
        go_wp2_with fail
        refine (alive_any wr).mono ?_; rintro e w5 ⟨rfl, b5⟩
        have B5 := Lib.hid (belT BW.out b5)
        have GL := Lib.hid (glen (HQ0.out.below b5).1)
        clear b5
        go_wp2_with fail
        refine GL.out.mono ?_; rintro e w6 ⟨rfl, rfl⟩
        go_wp2_with fail
        go_ret
        exact ⟨rfl, B5.out⟩
end Go.Proofs.Ytjokgiheabmolaa
