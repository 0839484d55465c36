/-
  The reference's Merge: all strings of all lists, each set into its place.
-/
import Derived.Test.YtjokgiheabmolaaHepRIns
import Derived.Test.YtjokgiheabmolaaLsArg
namespace Go.Proofs.Ytjokgiheabmolaa.Hep
open Go.RowKit

theorem part_at {ls : List (List ByteArray)} {j : Nat} {l : List ByteArray} (h : ls[j]? = some l) (q : Nat) : ∃ r, ls.flatten = ((ls.take j).flatten ++ l.take q) ++ (l.drop q ++ r) := by
  obtain ⟨hj, hl⟩ := List.getElem?_eq_some_iff.mp h
  refine ⟨(ls.drop (j + 1)).flatten, ?_⟩
  have e : ls.drop j = l :: ls.drop (j + 1) := by rw [List.drop_eq_getElem_cons hj, hl]
  calc ls.flatten = (ls.take j ++ ls.drop j).flatten := by rw [List.take_append_drop]
    _ = (ls.take j).flatten ++ (l ++ (ls.drop (j + 1)).flatten) := by rw [e, List.flatten_append, List.flatten_cons]
    _ = (ls.take j).flatten ++ ((l.take q ++ l.drop q) ++ (ls.drop (j + 1)).flatten) := by rw [List.take_append_drop]
    _ = _ := by simp only [List.append_assoc]
theorem take_more {ls : List (List ByteArray)} {j : Nat} {l : List ByteArray} (h : ls[j]? = some l) : (ls.take (j + 1)).flatten = (ls.take j).flatten ++ l := by
  rw [List.take_add_one, h, List.flatten_append]
  simp
theorem fold_more (z : List ByteArray) (y : ByteArray) : (z ++ [y]).foldl ins [] = ins (z.foldl ins []) y := by rw [List.foldl_append]; rfl

set_option maxRecDepth 100000 in
set_option maxHeartbeats 4000000 in
theorem rmrg_any (a : Option Addr) (n cap : Nat) (ls : List (List ByteArray)) (w : World) (ha : ArgLs w a n cap ls) (hn : n < 8796093022208) (ht : ls.flatten.length ≤ 8796093022208) (hs : ∀ y ∈ ls.flatten, y.size ≤ 140737488355328) :
    Calls Try.prog 16 #[.slice a n cap] w fun e w' => ∃ v, e = .returned v ∧ w'.ownsRow w.heap.size 9 1 v ls.flatten.length (ssC (mrg ls)) ∧ Below w.heap.size w w' := by
  have HA := Lib.hid ha
  have HT := Lib.hid ht
  have HS := Lib.hid hs
  have nb : (n : Int) < 8796093022208 := by omega
  clear ha hn ht hs
  go_enter Try.func16, Try.ntmps16
  go_wp2_with fail
  go_loopw [4, 3] (fun i v wr => ∃ (j N : Nat) (z : List ByteArray) (va : Option Addr) (vc : Nat), i = .int .i64 j ∧ v = .slice va N vc ∧ j ≤ n ∧ Hid (z = (ls.take j).flatten) ∧ Hid (N = z.length) ∧ Hid (wr.ownsRow w.heap.size 9 1 (.slice va N vc) N (ssC (z.foldl ins []))) ∧ Hid (Below w.heap.size w wr)) (fun i _ _ => n - (intOf i).toNat)
  case atStart => exact ⟨0, 0, [], none, 0, rfl, rfl, Nat.zero_le _, (by show _ = _; simp), (by show _ = _; rfl), ⟨rfl, .inl ⟨rfl, rfl⟩⟩, Below.refl _ _⟩
  case round =>
    obtain ⟨j, N, z, va, vc, rfl, rfl, hj, ZE, NE, OW, BW⟩ := hrel
    by_cases hjn : j < n
    · have j1 : (j : Int) < n := by omega
      obtain ⟨l, hl⟩ : ∃ l, ls[j]? = some l := ⟨_, List.getElem?_eq_getElem (by rw [HA.out.ln]; exact hjn)⟩
      obtain ⟨b, off, a', c', rfl, hb, hc, hx⟩ := HA.out.get j l hl
      have HL := Lib.hid hl
      have HX := Lib.hid hx
      have CE : Hid (∀ w', Below w.heap.size w w' → w'.cell? ⟨b, off + j, none⟩ = some (.slice a' l.length c')) := fun w' q => (World.cell?_of_block (q.block b hb)).trans hc
      obtain ⟨L, hL⟩ := named l.length
      rw [← hL.out] at CE HX
      have j2 : (j : Int) < cap := by have := HA.out.lc; omega
      have JN := Lib.hid hjn
      have LB : Hid (L ≤ 8796093022208) := by
        obtain ⟨r, hr⟩ := part_at HL.out 0
        have := congrArg List.length hr
        rw [List.take_zero, List.append_nil, List.drop_zero, List.length_append, List.length_append, ← hL.out] at this
        show _ ≤ _
        have := HT.out; omega
      have lb : (L : Int) ≤ 8796093022208 := by have := LB.out; omega
      clear hl hb hc hx hj hjn
      go_wp2_with fail
      go_loopw [5, 3] (fun k v wq => ∃ (q N : Nat) (z : List ByteArray) (va : Option Addr) (vc : Nat), k = .int .i64 q ∧ v = .slice va N vc ∧ q ≤ L ∧ Hid (z = (ls.take j).flatten ++ l.take q) ∧ Hid (N = z.length) ∧ Hid (wq.ownsRow w.heap.size 9 1 (.slice va N vc) N (ssC (z.foldl ins []))) ∧ Hid (Below w.heap.size w wq)) (fun k _ _ => L - (intOf k).toNat)
      case atStart => exact ⟨0, N, z, va, vc, rfl, rfl, Nat.zero_le _, (by show _ = _; rw [ZE.out]; simp), NE, OW, BW⟩
      case round =>
        obtain ⟨q, N2, z2, va2, vc2, rfl, rfl, hq, ZE2, NE2, OW2, BW2⟩ := hrel
        have c1 := CE.out wr BW2.out
        by_cases hqL : q < L
        · have q1 : (q : Int) < L := by omega
          obtain ⟨b2, off2, y, rfl, -, hy, hsy, -, c2⟩ := (HX.out.below BW2.out).get q hqL
          have q2 : (q : Int) < c' := by have := HX.out.c; omega
          have Z3 : Hid (z2 ++ [y] = (ls.take j).flatten ++ l.take (q + 1)) := by
            show _ = _
            rw [ZE2.out, List.take_add_one, hy, List.append_assoc]; rfl
          obtain ⟨r, hr⟩ := part_at HL.out (q + 1)
          rw [← Z3.out] at hr
          have NB : N2 < 8796093022208 := by
            have := congrArg List.length hr
            rw [List.length_append, List.length_append, ← NE2.out, List.length_singleton] at this
            have := HT.out; omega
          have SZ : ∀ u ∈ z2.foldl ins [], u.size ≤ 140737488355328 := fun u hu => HS.out u (by
            have hm := (fold_sorted z2 [] List.Pairwise.nil).2.mem_iff.mp hu
            rw [hr]
            exact List.mem_append_left _ (List.mem_append_left _ hm))
          obtain ⟨aa, cc, hv, hag⟩ := ArgSs.of_own OW2.out SZ
          cases hv
          have C := Lib.hid (rins_any va2 N2 vc2 _ y wr hag NB)
          have QL := Lib.hid hqL
          clear hr NB SZ hag hy hsy hq hqL
          go_wp2_with fail
          refine C.out.mono ?_; rintro e w3 ⟨v3, rfl, h3, b3⟩
          obtain ⟨va3, vc3, rfl, -⟩ := SsIn.of_own h3
          have O3 : Hid (w3.ownsRow w.heap.size 9 1 (.slice va3 (N2 + 1) vc3) (N2 + 1) (ssC ((z2 ++ [y]).foldl ins []))) := by
            show World.ownsRow _ _ _ _ _ _ _
            rw [fold_more]
            exact ⟨h3.1, h3.2.imp id fun ⟨g', k1, k2, k3, k4, k5⟩ => ⟨g', k1, k2, k3, Nat.le_trans BW2.out.size k4, k5⟩⟩
          have B3 : Hid (Below w.heap.size w w3) := BW2.out.trans (b3.mono BW2.out.size)
          clear h3 b3
          go_wp2_with fail
          go_round
          case rel => exact ⟨q + 1, N2 + 1, z2 ++ [y], va3, vc3, by go_num, rfl, QL.out, Z3, (by show _ = _; rw [List.length_append, ← NE2.out]; rfl), O3, B3⟩
          case measure => simp [intOf]; have := QL.out; omega
        · obtain rfl : q = L := by omega
          have QL : Hid (q ≤ q) := Nat.le_refl _
          clear hq hqL
          go_wp2_with fail
          go_round
          case rel => exact ⟨j + 1, N2, z2, va2, vc2, by go_num, rfl, JN.out, (by show _ = _; rw [ZE2.out, take_more HL.out, show l.take q = l from List.take_of_length_le (by rw [← hL.out]; exact QL.out)]), NE2, OW2, BW2⟩
          case measure => simp [intOf]; have := JN.out; omega
    · obtain rfl : j = n := by omega
      have ZF : Hid (z = ls.flatten) := by show _ = _; rw [ZE.out, List.take_of_length_le (by rw [HA.out.ln]; omega)]
      clear hj hjn
      go_wp2_with fail
      go_ret
      refine ⟨_, rfl, ?_, BW.out⟩
      have e := OW.out
      rw [NE.out, ZF.out] at e
      rw [NE.out, ZF.out]
      exact e
end Go.Proofs.Ytjokgiheabmolaa.Hep
