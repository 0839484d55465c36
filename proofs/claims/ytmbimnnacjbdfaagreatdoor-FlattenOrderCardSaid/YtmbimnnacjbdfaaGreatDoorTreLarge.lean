/-
  Layer 13: the statements' own TooLarge.
-/
import Derived.Test.YtmbimnnacjbdfaaGreatDoorPz24
namespace Go.Proofs.YtmbimnnacjbdfaaGreatDoor.Tre
open Go.RowKit Go.Proofs.YtmbimnnacjbdfaaGreatDoor.Fit Pnm

set_option maxRecDepth 100000 in
set_option maxHeartbeats 4000000 in
theorem large_any (a : Option Addr) (n cap : Nat) (ys : List NdS) (w : World) (ha : ArgNds w a n cap ys) :
    Calls Tryz.prog 10 #[.slice a n cap] w fun e w' => ∃ R : Int, e = .returned (.int .i64 R) ∧ (R = 1 ∨ (R = 0 ∧ n ≤ 40 ∧ ∀ y ∈ ys, y.n.p.size ≤ 70000 ∧ y.n.t.size ≤ 70000 ∧ y.n.d.length ≤ 70000)) ∧ Below w.heap.size w w' := by
  have HA := Lib.hid ha
  have NZ := Lib.hid zNd
  have NO := Lib.hid ndT
  have HN : Hid (ys.length = n) := ha.n
  have hn : n ≤ maxLen := Nat.le_trans ha.c ha.m
  unfold maxLen at hn
  clear ha
  by_cases h40 : (40 : Int) < n
  · go_enter Tryz.func10, Tryz.ntmps10
    go_wp2_with fail
    go_ret
    exact ⟨1, rfl, .inl rfl, Below.refl _ _⟩
  · have N40 : Hid (n ≤ 40) := by show _ ≤ _; omega
    go_enter Tryz.func10, Tryz.ntmps10
    go_wp2_with fail
    go_loopw [3, 11] (fun s i wr => ∃ j S : Nat, s = .int .i64 S ∧ i = .int .i64 j ∧ j ≤ n ∧ S ≤ 70000 * j ∧ (∀ k, k < j → (nd (nds ys) k).p.size ≤ 70000 ∧ (nd (nds ys) k).t.size ≤ 70000 ∧ (nd (nds ys) k).d.length ≤ 70000) ∧ Below w.heap.size w wr) (fun _ i _ => n - (intOf i).toNat)
    case atStart => exact ⟨0, 0, rfl, rfl, Nat.zero_le _, Nat.zero_le _, fun k hk => absurd hk (Nat.not_lt_zero k), Below.refl _ _⟩
    case round =>
      obtain ⟨j, S, rfl, rfl, hj, hs, hp, hB⟩ := hrel
      have HP := Lib.hid hp; have HB := Lib.hid hB
      have S1 : (S : Int) ≤ 2800000 := by have := N40.out; omega
      have HS := Lib.hid hs
      clear hp hB hs
      by_cases hjn : j < n
      · obtain ⟨b, off, y, rfl, hb, hy, hf, hat⟩ := HA.out.get j hjn
        obtain ⟨c0, c1, c2, c3, c4, c5⟩ := (hat.below HB.out hb).c hy
        have EY : Hid (nd (nds ys) j = y.n) := nd_y hy
        have hp := hf.p; have ht := hf.t; have hd := hf.l
        clear hat hf hy hb
        obtain ⟨⟨k, p, m, t, d, c⟩, x, xc⟩ := y
        dsimp only at hp ht hd
        obtain ⟨L, hL⟩ := named d.length
        have c4' : wr.cell? ⟨b, off + j * 6 + 4, none⟩ = some (.slice x L xc) := by rw [hL.out]; exact c4
        rw [← hL.out] at hd
        clear c4
        have j1 : (j : Int) < n := by omega
        have hpi : (p.size : Int) ≤ 140737488355328 := by omega
        have hti : (t.size : Int) ≤ 140737488355328 := by omega
        have hdi : (L : Int) ≤ 140737488355328 := by omega
        by_cases h7 : (70000 : Int) < (p.size : Int) + t.size + L
        · clear HP EY hL hp ht hd
          go_wp2_with (first | (refine wpList_alloc_obj rfl 50 rfl (ndL 0 emp 0 emp none 0 0 0) NZ.out ?_; intro w2 g2 b2; have G2 := Lib.hid g2; have B2 := Lib.hid (belT HB.out b2); clear g2 b2 c0 c1 c2 c3 c4' c5) | (refine wpList_store_obj rfl 50 _ _ rfl wr.heap.size rfl (ndL k p m t x L xc c) (ndL 0 emp 0 emp none 0 0 0) rfl 50 G2.out NO.out.2 rfl (nd_one _ _ _ _ _ _ _ _) ?_; intro w3 g3 t3; have B3 := Lib.hid (B2.out.trans (t3.below HB.out.size)); have c1 := g3.get 1 rfl; have c3 := g3.get 3 rfl; have c4 := g3.get 4 rfl; clear g3 t3))
          go_ret
          exact ⟨1, rfl, .inl rfl, B3.out⟩
        · have H7 : Hid (p.size + t.size + L ≤ 70000) := by show _ ≤ _; omega
          have h7' : (p.size : Int) + t.size + L ≤ 70000 := by omega
          clear hp ht hd
          go_wp2_with (first | (refine wpList_alloc_obj rfl 50 rfl (ndL 0 emp 0 emp none 0 0 0) NZ.out ?_; intro w2 g2 b2; have G2 := Lib.hid g2; have B2 := Lib.hid (belT HB.out b2); clear g2 b2 c0 c1 c2 c3 c4' c5) | (refine wpList_store_obj rfl 50 _ _ rfl wr.heap.size rfl (ndL k p m t x L xc c) (ndL 0 emp 0 emp none 0 0 0) rfl 50 G2.out NO.out.2 rfl (nd_one _ _ _ _ _ _ _ _) ?_; intro w3 g3 t3; have B3 := Lib.hid (B2.out.trans (t3.below HB.out.size)); have c1 := g3.get 1 rfl; have c3 := g3.get 3 rfl; have c4 := g3.get 4 rfl; clear g3 t3))
          go_round
          case rel => exact ⟨j + 1, S + (p.size + t.size + L), by go_num, by go_num, by omega, by have := H7.out; have := HS.out; omega, fun k'' hk => by
            by_cases h : k'' < j
            · exact HP.out k'' h
            · obtain rfl : k'' = j := by omega
              rw [EY.out]
              have := H7.out
              have := hL.out
              dsimp only
              omega, B3.out⟩
          case measure => simp [intOf]; omega
      · obtain rfl : j = n := by omega
        by_cases h1 : (100000 : Int) < S
        · go_wp2_with fail
          go_ret
          exact ⟨1, rfl, .inl rfl, HB.out⟩
        · go_wp2_with fail
          go_ret
          exact ⟨0, rfl, .inr ⟨rfl, N40.out, fun y hy => by
            obtain ⟨i, hi, rfl⟩ := List.getElem_of_mem hy
            have := HP.out i (by rw [← HN.out]; exact hi)
            rwa [nd_y (List.getElem?_eq_getElem hi)] at this⟩, HB.out⟩
end Go.Proofs.YtmbimnnacjbdfaaGreatDoor.Tre
