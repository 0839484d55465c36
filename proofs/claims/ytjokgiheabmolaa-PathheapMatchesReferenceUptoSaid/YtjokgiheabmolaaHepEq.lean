/-
  slices.Equal, slices.IsSorted over strings; the sum of sizes that the statements ask for.
-/
import Derived.Test.YtjokgiheabmolaaHepPsh
import Derived.Test.YtjokgiheabmolaaLsArg
namespace Go.Proofs.Ytjokgiheabmolaa.Hep
open Go.RowKit

theorem str_ne {s t : ByteArray} (h : ¬ s = t) : (s.toList == t.toList) = false := by
  rw [beq_eq_false_iff_ne]
  exact fun e => h (list_inj e)
set_option maxRecDepth 100000 in
set_option maxHeartbeats 4000000 in
theorem seq_any (a b : Option Addr) (n c m d : Nat) (xs ys : List ByteArray) (w : World) (hx : ArgSs w a n c xs) (hy : ArgSs w b m d ys) (hn : n ≤ 8796093022208) (hm : m ≤ 8796093022208) :
    Calls Try.prog 17 #[.slice a n c, .slice b m d] w fun e w' => e = .returned (.bool (decide (xs = ys))) ∧ Below w.heap.size w w' := by
  obtain ⟨R, hR⟩ := named (decide (xs = ys))
  rw [← hR.out]
  have HX := Lib.hid hx; have HY := Lib.hid hy
  have nb : (n : Int) ≤ 8796093022208 := by omega
  have mb : (m : Int) ≤ 8796093022208 := by omega
  clear hx hy hn hm
  by_cases hnm : n = m
  · subst hnm
    go_enter Try.func17, Try.ntmps17
    go_wp2_with fail
    go_loopw [13] (fun i wr => ∃ j : Nat, i = .int .i64 j ∧ j ≤ n ∧ Hid (xs.take j = ys.take j) ∧ Hid (Below w.heap.size w wr)) (fun i _ => n - (intOf i).toNat)
    case atStart => exact ⟨0, rfl, Nat.zero_le _, (by show _ = _; simp), Below.refl _ _⟩
    case round =>
      obtain ⟨j, rfl, hj, TE, BW⟩ := hrel
      by_cases hjn : j < n
      · obtain ⟨p, o, y, rfl, hp, hyj, -, hat, -⟩ := (HX.out.below BW.out).get j hjn
        obtain ⟨p', o', z, rfl, hp', hzj, -, hat', -⟩ := (HY.out.below BW.out).get j hjn
        have q0 : ∀ q : Of (fun w' => Below wr.heap.size wr w'), q.w.cell? ⟨p, o + j, none⟩ = some (.string y) := fun q => hat.below q.h hp j y hyj
        have q1 : ∀ q : Of (fun w' => Below wr.heap.size wr w'), q.w.cell? ⟨p', o' + j, none⟩ = some (.string z) := fun q => hat'.below q.h hp' j z hzj
        have i1 : (j : Int) < n := by omega
        have i2 : (j : Int) < c := by have := HX.out.c; omega
        have i3 : (j : Int) < d := by have := HY.out.c; omega
        have XJ := Lib.hid hyj; have YJ := Lib.hid hzj; have JN := Lib.hid hjn
        clear hp hp' hyj hzj hat hat' hj hjn
        by_cases hyz : y = z
        · subst hyz
          have TM : Hid (xs.take (j + 1) = ys.take (j + 1)) := by show _ = _; rw [List.take_add_one, List.take_add_one, TE.out, XJ.out, YJ.out]
          go_wp2_with fail
          refine wp_region_class (S := fun w' => Below wr.heap.size wr w') (by kernel_rfl) (by kernel_rfl) (Below.refl _ _).drew ?_
          intro hne'
          repeat (go_big_quiet_step (fail))
          refine wpQuiet_nil ?_
          rintro wq ⟨q, rfl⟩
          have BQ : Hid (Below w.heap.size w q.w) := BW.out.trans (q.h.mono BW.out.size)
          go_wp2_with fail
          go_round
          case rel => exact ⟨j + 1, by go_num, JN.out, TM, BQ⟩
          case measure => simp [intOf]; have := JN.out; omega
        · have ne := str_ne hyz
          have RF : Hid (R = false) := by
            show _ = _
            rw [hR.out, decide_eq_false_iff_not]
            intro e
            rw [e, YJ.out] at XJ
            exact hyz (Option.some.inj XJ.out).symm
          clear hyz
          go_wp2_with fail
          refine wp_region_class (S := fun w' => Below wr.heap.size wr w') (by kernel_rfl) (by kernel_rfl) (Below.refl _ _).drew ?_
          intro hne'
          repeat (go_big_quiet_step (fail))
          refine wpQuiet_nil ?_
          rintro wq ⟨q, rfl⟩
          have BQ : Hid (Below w.heap.size w q.w) := BW.out.trans (q.h.mono BW.out.size)
          go_wp2_with fail
          go_ret
          exact ⟨congrArg (fun r => Ending.returned (.bool r)) RF.out.symm, BQ.out⟩
      · obtain rfl : j = n := by omega
        have RT : Hid (R = true) := by
          show _ = _
          rw [hR.out, decide_eq_true_eq]
          have e := TE.out
          rw [List.take_of_length_le (by rw [HX.out.n]; exact Nat.le_refl _), List.take_of_length_le (by rw [HY.out.n]; exact Nat.le_refl _)] at e
          exact e
        clear hj hjn
        go_wp2_with fail
        go_ret
        exact ⟨congrArg (fun r => Ending.returned (.bool r)) RT.out.symm, BW.out⟩
  · have ne : ¬ (n : Int) = m := by omega
    have ne' : ((n : Int) == m) = false := by simpa using ne
    have RF : Hid (R = false) := by
      show _ = _
      rw [hR.out, decide_eq_false_iff_not]
      intro e
      exact hnm (by rw [← HX.out.n, ← HY.out.n, e])
    clear hnm
    go_enter Try.func17, Try.ntmps17
    go_wp2_with fail
    go_ret
    exact ⟨congrArg (fun r => Ending.returned (.bool r)) RF.out.symm, Below.refl _ _⟩

set_option maxRecDepth 100000 in
set_option maxHeartbeats 4000000 in
theorem nan_no (x : ByteArray) (w : World) : Calls Try.prog 26 #[.string x] w fun e w' => e = .returned (.bool false) ∧ w = w' := by
  go_enter Try.func26, Try.ntmps26
  go_wp2_with fail
  go_ret
  exact ⟨by simp, rfl⟩
set_option maxRecDepth 100000 in
set_option maxHeartbeats 4000000 in
theorem cless_any (x y : ByteArray) (w : World) : Calls Try.prog 23 #[.string x, .string y] w fun e w' => e = .returned (.bool (Op.bytesLess x.toList y.toList)) ∧ w = w' := by
  go_enter Try.func23, Try.ntmps23
  go_wp2_with fail
  refine (nan_no x w).mono ?_; rintro e w1 ⟨rfl, rfl⟩
  go_wp2_with fail
  go_ret
  exact ⟨rfl, rfl⟩

set_option maxRecDepth 100000 in
set_option maxHeartbeats 4000000 in
theorem sorted_yes (a : Option Addr) (n c : Nat) (xs : List ByteArray) (w : World) (hx : ArgSs w a n c xs) (hn : n ≤ 8796093022208) (hs : xs.Pairwise Le) :
    Calls Try.prog 19 #[.slice a n c] w fun e w' => e = .returned (.bool true) ∧ Below w.heap.size w w' := by
  have HX := Lib.hid hx; have HS := Lib.hid hs
  have nb : (n : Int) ≤ 8796093022208 := by omega
  clear hx hs
  go_enter Try.func19, Try.ntmps19
  go_wp2_with fail
  go_loopw [3] (fun i wr => ∃ j : Int, i = .int .i64 j ∧ -1 ≤ j ∧ j < n ∧ Hid (Below w.heap.size w wr)) (fun i _ => (intOf i).toNat)
  case atStart => exact ⟨(n : Int) - 1, (by go_num), by omega, by omega, Below.refl _ _⟩
  case round =>
    obtain ⟨j, rfl, hj0, hjn, BW⟩ := hrel
    by_cases h0 : 0 < j
    · obtain ⟨J, rfl⟩ : ∃ J : Nat, j = (J : Int) := ⟨j.toNat, by omega⟩
      obtain ⟨k, hk⟩ := named (J - 1)
      have hJ : J = k + 1 := by have := hk.out; omega
      have kn : k + 1 < n := by omega
      obtain ⟨p, o, y, rfl, hp, hyj, -, hat, -⟩ := (HX.out.below BW.out).get (k + 1) kn
      obtain ⟨p', o', z, hbe, hp', hzj, -, hat', -⟩ := (HX.out.below BW.out).get k (by omega)
      injection hbe with hbe; injection hbe with e1 e2
      subst e1; subst e2
      have q0 : ∀ q : Of (fun w' => Below wr.heap.size wr w'), q.w.cell? ⟨p, o + J, none⟩ = some (.string y) := fun q => by rw [hJ]; exact hat.below q.h hp (k + 1) y hyj
      have q1 : ∀ q : Of (fun w' => Below wr.heap.size wr w'), q.w.cell? ⟨p, o + k, none⟩ = some (.string z) := fun q => hat.below q.h hp k z hzj
      have LE : Op.bytesLess y.toList z.toList = false := by
        have e := List.pairwise_iff_getElem.mp HS.out k (k + 1) (by rw [HX.out.n]; omega) (by rw [HX.out.n]; omega) (by omega)
        rw [List.getElem?_eq_getElem (by rw [HX.out.n]; omega)] at hyj hzj
        rw [Option.some.inj hyj, Option.some.inj hzj] at e
        exact e
      have i0 : (J : Int) - 1 = (k : Int) := by omega
      have i1 : (J : Int) < n := by omega
      have i2 : (J : Int) < c := by have := HX.out.c; omega
      have i3 : (k : Int) < n := by omega
      have i4 : (k : Int) < c := by omega
      have kb : (k : Int) ≤ 8796093022208 := by omega
      have CL : ∀ W, Calls Try.prog 23 #[.string y, .string z] W fun e w' => e = .returned (.bool false) ∧ Below W.heap.size W w' := fun W => by have := cless_any y z W; rw [LE] at this; exact this.mono fun e w' q => ⟨q.1, by rw [← q.2]; exact Below.refl _ _⟩
      have KN : Hid (k + 1 < n) := kn
      have HJ := Lib.hid hJ
      clear hp hp' hyj hzj hat hat' hk hjn hj0 hJ kn
      go_wp2_with fail
      refine wp_region_class (S := fun w' => Below wr.heap.size wr w') (by kernel_rfl) (by kernel_rfl) (Below.refl _ _).drew ?_
      intro hne'
      repeat (go_big_quiet_step (first | (go_at_call 23; exact Calls.in_class (CL _) fun w' hb q => q.trans (hb.mono q.size))))
      refine wpQuiet_nil ?_
      rintro wq ⟨q, rfl⟩
      have BQ : Hid (Below w.heap.size w q.w) := BW.out.trans (q.h.mono BW.out.size)
      go_wp2_with fail
      go_round
      case rel => exact ⟨(k : Int), rfl, by omega, by have := KN.out; omega, BQ⟩
      case measure => simp [intOf]; have := HJ.out; omega
    · have h1 : j ≤ 0 := by omega
      go_wp2_with fail
      go_ret
      exact ⟨rfl, BW.out⟩

theorem _root_.Go.Proofs.Ytjokgiheabmolaa.ArgLs.below {w w' : World} {a : Option Addr} {n cap : Nat} {ls : List (List ByteArray)} (h : ArgLs w a n cap ls) (hb : Below w.heap.size w w') : ArgLs w' a n cap ls :=
  ⟨h.ln, h.lc, h.lm, fun i l hi => by
    obtain ⟨b, off, a', c', h1, h2, h3, h4⟩ := h.get i l hi
    exact ⟨b, off, a', c', h1, Nat.lt_of_lt_of_le h2 hb.size, (World.cell?_of_block (hb.block b h2)).trans h3, h4.below hb⟩⟩
set_option maxRecDepth 100000 in
set_option maxHeartbeats 4000000 in
theorem size_any (a : Option Addr) (n cap : Nat) (ls : List (List ByteArray)) (w : World) (ha : ArgLs w a n cap ls) (hn : n < 8796093022208) (hl : ∀ l ∈ ls, l.length ≤ 8796093022208) :
    Calls Try.prog 13 #[.slice a n cap] w fun e w' => ∃ z : Int, e = .returned (.int .i64 z) ∧ w = w' := by
  have HA := Lib.hid ha; have HL := Lib.hid hl
  have nb : (n : Int) < 8796093022208 := by omega
  clear ha hn hl
  go_enter Try.func13, Try.ntmps13
  go_wp2_with fail
  go_loopw [3, 10] (fun v i wr => ∃ (z : Int) (j : Nat), v = .int .i64 z ∧ i = .int .i64 j ∧ j ≤ n ∧ w = wr) (fun _ i _ => n - (intOf i).toNat)
  case atStart => exact ⟨0, 0, rfl, rfl, Nat.zero_le _, rfl⟩
  case round =>
    obtain ⟨z, j, rfl, rfl, hj, rfl⟩ := hrel
    by_cases hjn : j < n
    · have j1 : (j : Int) < n := by omega
      obtain ⟨l, hl⟩ : ∃ l, ls[j]? = some l := ⟨_, List.getElem?_eq_getElem (by rw [HA.out.ln]; exact hjn)⟩
      obtain ⟨b, off, a', c', rfl, hb, hc, hx⟩ := HA.out.get j l hl
      have HX := Lib.hid hx
      have lb0 := HL.out l (List.mem_of_getElem? hl)
      obtain ⟨L, hL⟩ := named l.length
      rw [← hL.out] at hc HX lb0
      have j2 : (j : Int) < cap := by have := HA.out.lc; omega
      have JN := Lib.hid hjn
      have lb : (L : Int) ≤ 8796093022208 := by omega
      clear hl hb hx hj hjn lb0
      go_wp2_with fail
      go_loopw [3, 16] (fun v k wq => ∃ (z : Int) (q : Nat), v = .int .i64 z ∧ k = .int .i64 q ∧ q ≤ L ∧ w = wq) (fun _ k _ => L - (intOf k).toNat)
      case atStart => exact ⟨z, 0, rfl, rfl, Nat.zero_le _, rfl⟩
      case round =>
        obtain ⟨z, q, rfl, rfl, hq, rfl⟩ := hrel
        by_cases hqL : q < L
        · have q1 : (q : Int) < L := by omega
          obtain ⟨b2, off2, y, rfl, -, -, -, -, c2⟩ := HX.out.get q hqL
          have q2 : (q : Int) < c' := by have := HX.out.c; omega
          have QL := Lib.hid hqL
          clear hq hqL
          go_wp2_with fail
          go_round
          case rel => exact ⟨_, q + 1, rfl, by go_num, QL.out, trivial⟩
          case measure => simp [intOf]; have := QL.out; omega
        · obtain rfl : q = L := by omega
          clear hq hqL
          go_wp2_with fail
          go_round
          case rel => exact ⟨z, j + 1, rfl, by go_num, JN.out, trivial⟩
          case measure => simp [intOf]; have := JN.out; omega
    · obtain rfl : j = n := by omega
      clear hj hjn
      go_wp2_with fail
      go_ret
      exact ⟨z, rfl, rfl⟩
end Go.Proofs.Ytjokgiheabmolaa.Hep
