/-
  Layer 19: the statements' own TooLarge. (gen_VfsLarge.py writes it.)
-/
import Derived.Test.YthcbiohmghaobaaDoorPz03
import Derived.Test.YthcbiohmghaobaaDoorPz05
import Derived.Test.YthcbiohmghaobaaDoorPz04
import Derived.Test.YthcbiohmghaobaaDoorRows
namespace Go.Proofs.YthcbiohmghaobaaDoor.Vfs
open Go.RowKit Go.Proofs.YthcbiohmghaobaaDoor.Flt

/-- the bytes of the first j calls -/
def tot (l : List Va) : Nat → Nat
  | 0 => 0
  | j + 1 => tot l j + match l[j]? with
    | none => 0
    | some y => y.p.size + y.d.length + y.t.size
theorem tot_le {l : List Va} {i j : Nat} {y : Va} (h : l[i]? = some y) (hi : i < j) : y.p.size + y.d.length + y.t.size ≤ tot l j := by
  induction j with
  | zero => omega
  | succ j ih =>
    unfold tot
    by_cases e : i < j
    · have := ih e; omega
    · obtain rfl : i = j := by omega
      rw [h]
      exact Nat.le_add_left _ _
set_option maxRecDepth 100000 in
set_option maxHeartbeats 4000000 in
theorem large_any (a : Option Addr) (n cap : Nat) (ys : List VaS) (w : World) (ha : ArgVas w a n cap ys) :
    Calls Tryd.prog 9 #[.slice a n cap] w fun e w' => ∃ R : Int, e = .returned (.int .i64 R) ∧ (R = 1 ∨ (R = 0 ∧ n ≤ 40 ∧ ∀ y ∈ ys, y.n.p.size + y.n.d.length + y.n.t.size ≤ 20000)) ∧ Below w.heap.size w w' := by
  have HA := Lib.hid ha
  have NZ : Hid ((Tryd.prog.info? 40).map (·.zero) = some (some (.agg (vaL 0 ⟨#[]⟩ 0 none 0 0 ⟨#[]⟩).toArray))) := by show _ = _; kernel_rfl
  have NO : Hid (ObjT Tryd.prog 40 5) := ⟨⟨_, Tryd.underlying40⟩, by kernel_rfl⟩
  have HN : Hid (ys.length = n) := ha.n
  have hn : n ≤ maxLen := Nat.le_trans ha.c ha.m
  unfold maxLen at hn
  clear ha
  by_cases h40 : (40 : Int) < n
  · go_enter Tryd.func9, Tryd.ntmps9
    go_wp2_with fail
    go_loopw [3, 8] (fun s i wr => ∃ (j : Nat) (S : Int), s = .int .i64 S ∧ i = .int .i64 j ∧ j ≤ n ∧ Below w.heap.size w wr) (fun _ i _ => n - (intOf i).toNat)
    case atStart => exact ⟨0, 0, rfl, rfl, Nat.zero_le _, Below.refl _ _⟩
    case round =>
      obtain ⟨j, S, rfl, rfl, hj, hB⟩ := hrel
      have HB := Lib.hid hB
      clear hB
      by_cases hjn : j < n
      · skip
        obtain ⟨b, off, y, rfl, hb, hy, hf, hat⟩ := HA.out.get j hjn
        have hcc := (hat.below HB.out hb).c hy
        obtain ⟨c0, c1, c2, c3, c4⟩ := hcc
        have hp := hf.p; have ht := hf.t; have hd := hf.l
        have YY := Lib.hid hy
        clear hat hf hy hb
        obtain ⟨⟨k, p, m, d, t⟩, x, xc⟩ := y
        dsimp only at hp ht hd
        obtain ⟨L, hL⟩ := named d.length
        have c3' : wr.cell? ⟨b, off + j * 5 + 3, none⟩ = some (.slice x L xc) := by rw [hL.out]; exact c3
        rw [← hL.out] at hd
        clear c3
        have CC : Hid (∀ i v, (vaL k p m x L xc t)[i]? = some v → wr.cell? ⟨b, off + j * 5 + i, none⟩ = some v) := by
          intro i v hi
          match i with
          | 0 => obtain rfl : _ = v := Option.some.inj hi; exact c0
          | 1 => obtain rfl : _ = v := Option.some.inj hi; exact c1
          | 2 => obtain rfl : _ = v := Option.some.inj hi; exact c2
          | 3 => obtain rfl : _ = v := Option.some.inj hi; exact c3'
          | 4 => obtain rfl : _ = v := Option.some.inj hi; exact c4
          | i + 5 => simp at hi
        have j1 : (j : Int) < n := by omega
        have j2 : (j : Int) < cap := by have := HA.out.c; omega
        have hpi : (p.size : Int) ≤ 140737488355328 := by omega
        have hti : (t.size : Int) ≤ 140737488355328 := by omega
        have hdi : (L : Int) ≤ 140737488355328 := by omega
        clear c0 c1 c2 c3' c4
        clear hp ht hd
        go_wp2_with (first | (refine wpList_load_part rfl 40 5 NO.out _ rfl b (off + j * 5) rfl (vaL k p m x L xc t) rfl CC.out ?_) | (refine wpList_alloc_obj rfl 40 rfl (vaL 0 ⟨#[]⟩ 0 none 0 0 ⟨#[]⟩) NZ.out ?_; intro w2 g2 b2; have G2 := Lib.hid g2; have B2 := Lib.hid (belT HB.out b2); clear g2 b2) | (refine wpList_store_obj rfl 40 _ _ rfl wr.heap.size rfl (vaL k p m x L xc t) (vaL 0 ⟨#[]⟩ 0 none 0 0 ⟨#[]⟩) rfl 40 G2.out NO.out.2 rfl (by simp [Value.oneCell']) ?_; intro w3 g3 t3; have B3 := Lib.hid (B2.out.trans (t3.below HB.out.size)); have c1 := g3.get 1 rfl; have c3 := g3.get 3 rfl; have c4 := g3.get 4 rfl; clear g3 t3))
        go_roundw
        case rel => exact ⟨j + 1, _, rfl, by go_num, by omega, B3.out⟩
        case measure => simp [intOf]; omega
      · obtain rfl : j = n := by omega
        go_wp2_with fail
        go_ret
        exact ⟨1, rfl, .inl rfl, HB.out⟩
  · have N40 : Hid (n ≤ 40) := by show _ ≤ _; omega
    have n40 : (n : Int) ≤ 40 := by omega
    go_enter Tryd.func9, Tryd.ntmps9
    go_wp2_with fail
    go_loopw [3, 8] (fun s i wr => ∃ j S : Nat, s = .int .i64 S ∧ i = .int .i64 j ∧ j ≤ n ∧ Hid (S = tot (vas ys) j) ∧ S ≤ 422212465065984 * j ∧ Below w.heap.size w wr) (fun _ i _ => n - (intOf i).toNat)
    case atStart => exact ⟨0, 0, rfl, rfl, Nat.zero_le _, Lib.hid rfl, Nat.zero_le _, Below.refl _ _⟩
    case round =>
      obtain ⟨j, S, rfl, rfl, hj, HS, hS, hB⟩ := hrel
      have HB := Lib.hid hB
      have S1 : (S : Int) ≤ 16888498602639360 := by have := N40.out; omega
      have HSL := Lib.hid hS
      clear hB hS
      by_cases hjn : j < n
      · skip
        obtain ⟨b, off, y, rfl, hb, hy, hf, hat⟩ := HA.out.get j hjn
        have hcc := (hat.below HB.out hb).c hy
        obtain ⟨c0, c1, c2, c3, c4⟩ := hcc
        have hp := hf.p; have ht := hf.t; have hd := hf.l
        have YY := Lib.hid hy
        clear hat hf hy hb
        obtain ⟨⟨k, p, m, d, t⟩, x, xc⟩ := y
        dsimp only at hp ht hd
        obtain ⟨L, hL⟩ := named d.length
        have c3' : wr.cell? ⟨b, off + j * 5 + 3, none⟩ = some (.slice x L xc) := by rw [hL.out]; exact c3
        rw [← hL.out] at hd
        clear c3
        have CC : Hid (∀ i v, (vaL k p m x L xc t)[i]? = some v → wr.cell? ⟨b, off + j * 5 + i, none⟩ = some v) := by
          intro i v hi
          match i with
          | 0 => obtain rfl : _ = v := Option.some.inj hi; exact c0
          | 1 => obtain rfl : _ = v := Option.some.inj hi; exact c1
          | 2 => obtain rfl : _ = v := Option.some.inj hi; exact c2
          | 3 => obtain rfl : _ = v := Option.some.inj hi; exact c3'
          | 4 => obtain rfl : _ = v := Option.some.inj hi; exact c4
          | i + 5 => simp at hi
        have j1 : (j : Int) < n := by omega
        have j2 : (j : Int) < cap := by have := HA.out.c; omega
        have hpi : (p.size : Int) ≤ 140737488355328 := by omega
        have hti : (t.size : Int) ≤ 140737488355328 := by omega
        have hdi : (L : Int) ≤ 140737488355328 := by omega
        clear c0 c1 c2 c3' c4
        have HPT := Lib.hid (show p.size + L + t.size ≤ 422212465065984 by omega)
        have TT : Hid (S + (p.size + L + t.size) = tot (vas ys) (j + 1)) := by
          show _ = tot (vas ys) j + _
          rw [vas_at YY.out, HS.out, hL.out]
        clear hp ht hd hL
        go_wp2_with (first | (refine wpList_load_part rfl 40 5 NO.out _ rfl b (off + j * 5) rfl (vaL k p m x L xc t) rfl CC.out ?_) | (refine wpList_alloc_obj rfl 40 rfl (vaL 0 ⟨#[]⟩ 0 none 0 0 ⟨#[]⟩) NZ.out ?_; intro w2 g2 b2; have G2 := Lib.hid g2; have B2 := Lib.hid (belT HB.out b2); clear g2 b2) | (refine wpList_store_obj rfl 40 _ _ rfl wr.heap.size rfl (vaL k p m x L xc t) (vaL 0 ⟨#[]⟩ 0 none 0 0 ⟨#[]⟩) rfl 40 G2.out NO.out.2 rfl (by simp [Value.oneCell']) ?_; intro w3 g3 t3; have B3 := Lib.hid (B2.out.trans (t3.below HB.out.size)); have c1 := g3.get 1 rfl; have c3 := g3.get 3 rfl; have c4 := g3.get 4 rfl; clear g3 t3))
        go_roundw
        case rel => exact ⟨j + 1, S + (p.size + L + t.size), by go_num, by go_num, by omega, TT, by have := HPT.out; have := HSL.out; omega, B3.out⟩
        case measure => simp [intOf]; omega
      · obtain rfl : j = n := by omega
        by_cases h1 : (20000 : Int) < S
        · go_wp2_with fail
          go_ret
          exact ⟨1, rfl, .inl rfl, HB.out⟩
        · have h2 : (S : Int) ≤ 20000 := by omega
          have H2 := Lib.hid h2
          clear h1
          go_wp2_with fail
          go_ret
          exact ⟨0, rfl, .inr ⟨rfl, N40.out, fun y hy => by
            obtain ⟨i, hi, rfl⟩ := List.getElem_of_mem hy
            have := tot_le (l := vas ys) (vas_at (List.getElem?_eq_getElem hi)) hi
            rw [HN.out] at this
            have := HS.out
            have := H2.out
            omega⟩, HB.out⟩
end Go.Proofs.YthcbiohmghaobaaDoor.Vfs
