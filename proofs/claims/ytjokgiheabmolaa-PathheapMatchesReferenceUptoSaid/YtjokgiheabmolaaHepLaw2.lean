/-
  PathheapMergeMatchesReference.
-/
import Derived.Test.YtjokgiheabmolaaHepAlive
namespace Go.Proofs.Ytjokgiheabmolaa
open Go.RowKit Hep

namespace Hep
theorem mrg_sizes {ls : List (List ByteArray)} (h : ∀ y ∈ ls.flatten, y.size ≤ 140737488355328) : ∀ y ∈ mrg ls, y.size ≤ 140737488355328 := fun y hy => h y ((mrg_perm ls).mem_iff.mp hy)
theorem flat_le {ls : List (List ByteArray)} {N : Nat} (h : ls.flatten.length ≤ N) : ∀ l ∈ ls, l.length ≤ N := fun l hl => by
  obtain ⟨i, hi, rfl⟩ := List.getElem_of_mem hl
  obtain ⟨r, hr⟩ := part_at (List.getElem?_eq_getElem hi) 0
  have := congrArg List.length hr
  rw [List.take_zero, List.append_nil, List.drop_zero, List.length_append, List.length_append] at this
  omega
/-- a list that Merge has answered, as a slice that can be read -/
theorem args_of {w : World} {base n : Nat} {e : TypeId} {v : Value} {ls : List (List ByteArray)} (h : w.ownsRow base e 1 v n (ssC (mrg ls))) (hs : ∀ y ∈ ls.flatten, y.size ≤ 140737488355328) : ∃ a c, v = .slice a n c ∧ ArgSs w a n c (mrg ls) := ArgSs.of_own h (mrg_sizes hs)
/-- Merge with its length under a name -/
theorem gmrgN (a : Option Addr) (n cap N : Nat) (ls : List (List ByteArray)) (w : World) (ha : ArgLs w a n cap ls) (hn : n < 8796093022208) (hN : Hid (N = ls.flatten.length)) (ht : N ≤ 8796093022208) :
    Calls Try.prog 18 #[.slice a n cap] w fun e w' => ∃ a' c', e = .returned (.slice a' N c') ∧ ArgSs w' a' N c' (mrg ls) ∧ Below w.heap.size w w' ∧ ∀ x, a' = some x → w.heap.size ≤ x.block := by
  rw [hN.out] at ht ⊢
  refine (gmrg a n cap ls w ha hn ht).mono ?_; rintro e w2 ⟨v2, rfl, o2, b2⟩
  obtain ⟨a2, c2, rfl, g2⟩ := args_of o2 (ls_sizes ha)
  refine ⟨a2, c2, rfl, g2, b2, fun x hx => ?_⟩
  obtain ⟨_, _, hv, _, _, _, _, q⟩ := SsIn.of_own o2
  cases hv
  exact (q x hx).1
theorem rmrgN (a : Option Addr) (n cap N : Nat) (ls : List (List ByteArray)) (w : World) (ha : ArgLs w a n cap ls) (hn : n < 8796093022208) (hN : Hid (N = ls.flatten.length)) (ht : N ≤ 8796093022208) :
    Calls Try.prog 16 #[.slice a n cap] w fun e w' => ∃ a' c', e = .returned (.slice a' N c') ∧ ArgSs w' a' N c' (mrg ls) ∧ Below w.heap.size w w' ∧ ∀ x, a' = some x → w.heap.size ≤ x.block := by
  rw [hN.out] at ht ⊢
  refine (rmrg_any a n cap ls w ha hn ht (ls_sizes ha)).mono ?_; rintro e w2 ⟨v2, rfl, o2, b2⟩
  obtain ⟨a2, c2, rfl, g2⟩ := args_of o2 (ls_sizes ha)
  refine ⟨a2, c2, rfl, g2, b2, fun x hx => ?_⟩
  obtain ⟨_, _, hv, _, _, _, _, q⟩ := SsIn.of_own o2
  cases hv
  exact (q x hx).1
end Hep

set_option maxRecDepth 100000 in
set_option maxHeartbeats 4000000 in
theorem walk_PathheapMergeMatchesReference (a : Option Addr) (n cap : Nat) (ls : List (List ByteArray)) (w : World) (ha : ArgLs w a n cap ls) (ht : n + ls.flatten.length ≤ 1048576) :
    Calls Try.prog 4 #[.slice a n cap] w fun e w' => e = .returned (.bool true) ∧ Below w.heap.size w w' := by
  have HA := Lib.hid ha
  have HT : Hid (ls.flatten.length ≤ 1048576) := by show _ ≤ _; omega
  have HN : Hid (n ≤ 1048576) := by show _ ≤ _; omega
  have SZ := Lib.hid (size_any a n cap ls w ha (by omega) (flat_le (by omega)))
  have AL := Lib.hid (alive_any w)
  obtain ⟨N, hN⟩ := named ls.flatten.length
  have NB : Hid (N ≤ 1048576) := by show _ ≤ _; rw [hN.out]; exact HT.out
  clear ha ht HT
  go_enter Try.func4, Try.ntmps4
  go_wp2_with fail
  refine SZ.out.mono ?_; rintro e w1 ⟨z, rfl, rfl⟩
  by_cases hz : 5000 < z
  · go_wp2_with fail
    refine AL.out.mono ?_; rintro e w1 ⟨rfl, b1⟩
    have B1 := Lib.hid b1
    clear b1
    go_wp2_with fail
    go_ret
    exact ⟨rfl, B1.out⟩
  · have hz' : z ≤ 5000 := by omega
    go_wp2_with fail
    refine AL.out.mono ?_; rintro e w1 ⟨rfl, b1⟩
    have B1 := Lib.hid b1
    clear b1
    go_wp2_with fail
    refine (gmrgN a n cap N ls w1 (HA.out.below B1.out) (by have := HN.out; omega) hN (by have := NB.out; omega)).mono ?_; rintro e w2 ⟨a2, c2, rfl, g2, b2, -⟩
    have G2 := Lib.hid g2
    have B2 := Lib.hid (belT B1.out b2)
    clear b2 g2
    go_wp2_with fail
    refine (rmrgN a n cap N ls w2 (HA.out.below B2.out) (by have := HN.out; omega) hN (by have := NB.out; omega)).mono ?_; rintro e w3 ⟨a3, c3, rfl, g3, b3, -⟩
    have G3 := Lib.hid g3
    have G2' := Lib.hid (G2.out.below b3)
    have B3 := Lib.hid (belT B2.out b3)
    clear b3 g3
    go_wp2_with fail
    refine (seq_any a2 a3 N c2 N c3 _ _ w3 G2'.out G3.out (by have := NB.out; omega) (by have := NB.out; omega)).mono ?_; rintro e w4 ⟨rfl, b4⟩
    have B4 := Lib.hid (belT B3.out b4)
    rw [decide_eq_true (rfl : mrg ls = mrg ls)]
    clear b4
    go_wp2_with fail
    go_ret
    exact ⟨rfl, B4.out⟩
end Go.Proofs.Ytjokgiheabmolaa
