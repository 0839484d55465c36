/-
  The reference's Insert: a string set into an ascending list. (gen_HepRIns.py writes it.)
-/
import Derived.Test.YtjokgiheabmolaaHeapStr
import Derived.Test.YtjokgiheabmolaaStrsArg
import Derived.Test.YtjokgiheabmolaaRows
namespace Go.Proofs.Ytjokgiheabmolaa.Hep
open Go.RowKit

theorem SsAt.takes {w : World} {b off : Nat} {ys : List ByteArray} (h : SsAt w b off ys) (k : Nat) : SsAt w b off (ys.take k) := fun i y hi => h i y (by
  rw [List.getElem?_take] at hi
  split at hi
  · exact hi
  · cases hi)
theorem SsAt.drops {w : World} {b off : Nat} {ys : List ByteArray} (h : SsAt w b off ys) (k : Nat) : SsAt w b (off + k) (ys.drop k) := fun i y hi => by
  rw [List.getElem?_drop] at hi
  rw [Nat.add_assoc]
  exact h (k + i) y hi

set_option maxRecDepth 100000 in
set_option maxHeartbeats 4000000 in
theorem rins_any (a : Option Addr) (n cap : Nat) (l : List ByteArray) (s : ByteArray) (w : World) (ha : ArgSs w a n cap l) (hn : n < 8796093022208) :
    Calls Try.prog 22 #[.slice a n cap, .string s] w fun e w' => ∃ v, e = .returned v ∧ w'.ownsRow w.heap.size 9 1 v (n + 1) (ssC (ins l s)) ∧ Below w.heap.size w w' := by
  have HA := Lib.hid ha
  have HN := Lib.hid hn
  have ES : Hid (ElemS Try.prog 9) := elemS (by kernel_rfl)
  have nb : (n : Int) < 8796093022208 := by omega
  have nc : (n : Int) ≤ cap := by have := ha.c; omega
  have D : Hid (ins l s = l.take (at_ l s n) ++ [s] ++ l.drop (at_ l s n)) := by show ins l s = _; unfold ins; rw [ha.n]
  clear ha hn
  go_enter Try.func22, Try.ntmps22
  go_wp2_with fail
  go_loopw [5] (fun v wr => ∃ k : Nat, v = .int .i64 k ∧ wr = w ∧ k ≤ n ∧ at_ l s k = at_ l s n) (fun v _ => (intOf v).toNat)
  case atStart => exact ⟨n, rfl, rfl, Nat.le_refl _, rfl⟩
  case round =>
    obtain ⟨k, rfl, rfl, hk, hat⟩ := hrel
    have HT := Lib.hid hat
    have kn : (k : Int) ≤ n := by omega
    clear hat
    by_cases h0 : k = 0
    · subst h0
      have KN : Hid (0 ≤ n) := Nat.zero_le n
      have AT : Hid (at_ l s 0 = 0) := rfl
      have LK : Hid ((l.take 0).length = 0) := rfl
      have LD : Hid ((l.drop 0).length = n - 0) := HA.out.n
      have TK : Hid (∀ w', Below wr.heap.size wr w' → SsIn w' a (l.take 0)) := fun _ _ => .inl rfl
      have DR : Hid (∀ w', Below wr.heap.size wr w' → SsIn w' a (l.drop 0)) := fun _ hb => HA.out.r.below hb
      clear hk
      go_wp2_with (first | (at_builtin; (have qq := O4.out; clear qq); refine wpList_append_ss rfl _ _ 22 rfl 9 wr.heap.size Try.underlying22 ES.out v4 _ _ rfl O4.out _ _ _ (l.drop (0)) rfl (DR.out _ B4.out) LD.out (by have := HN.out; have := KN.out; omega) B4.out.size ?_; intro v5 w5 o5 b5 _ _; have O5 := Lib.hid o5; have B5 := Lib.hid (B4.out.trans b5); clear o5 b5) | (at_builtin; (have qq := O3.out; clear qq); refine wpList_append_ss rfl _ _ 22 rfl 9 wr.heap.size Try.underlying22 ES.out v2 _ _ rfl O3.out _ _ _ [s] rfl G3.out.ss rfl (by have := HN.out; have := KN.out; omega) B3.out.size ?_; intro v4 w4 o4 b4 _ _; have O4 := Lib.hid o4; have B4 := Lib.hid (B3.out.trans b4); clear o4 b4) | (refine wpList_lit_ss1 rfl 22 9 _ rfl Try.underlying22 ES.out s rfl ?_; intro w3 g3 b3; have G3 := Lib.hid g3; have O3 := Lib.hid (own_stay' O2.out b3 (Nat.le_refl _)); have B3 := Lib.hid (B2.out.trans (b3.mono B2.out.size)); clear g3 b3) | (at_builtin; (have qq := O1.out; clear qq); refine wpList_append_ss rfl _ _ 22 rfl 9 wr.heap.size Try.underlying22 ES.out (.slice (some ⟨wr.heap.size, 0, none⟩) 0 0) _ _ rfl O1.out _ _ _ (l.take (0)) rfl (TK.out _ B1.out) LK.out (by have := HN.out; have := KN.out; omega) B1.out.size ?_; intro v2 w2 o2 b2 _ _; have O2 := Lib.hid o2; have B2 := Lib.hid (B1.out.trans b2); clear o2 b2) | (refine wpList_lit_ss0 rfl 22 9 rfl Try.underlying22 ES.out ?_; intro w1 o1 b1; have O1 : Hid (w1.ownsRow wr.heap.size 9 1 (.slice (some ⟨wr.heap.size, 0, none⟩) 0 0) 0 (ssC [])) := o1; have B1 : Hid (Below wr.heap.size wr w1) := b1; clear o1 b1))
      go_ret
      refine ⟨v5, rfl, ?_, B5.out⟩
      rw [D.out, ← HT.out]
      have e := O5.out
      rw [Nat.zero_add, List.nil_append, AT.out] at *
      rw [show n + 1 = 0 + 1 + (n - (0)) by have := KN.out; omega]
      exact e
    · obtain ⟨m, rfl⟩ : ∃ m, k = m + 1 := ⟨k - 1, by omega⟩
      have KN : Hid (m + 1 ≤ n) := hk
      obtain ⟨b, off, y, rfl, hb, hy, hs, hat', c0⟩ := HA.out.get m (by omega)
      have G : Hid (g l m = y) := by show g l m = y; unfold g; rw [hy]; rfl
      have gl := gtr_le y s
      have e1 : ((m + 1 : Nat) : Int) - 1 = (m : Int) := by omega
      have e2 : (0 : Int) < ((m + 1 : Nat) : Int) := by omega
      have e3 : (m : Int) < n := by omega
      have e4 : (m : Int) < cap := by omega
      have LK : Hid ((l.take (m + 1)).length = m + 1) := by show _ = _; rw [List.length_take, HA.out.n]; omega
      have LD : Hid ((l.drop (m + 1)).length = n - (m + 1)) := by show _ = _; rw [List.length_drop, HA.out.n]
      have TK : Hid (∀ w', Below wr.heap.size wr w' → SsIn w' (some ⟨b, off, none⟩) (l.take (m + 1))) := fun w' q => .inr ⟨b, off, rfl, Nat.lt_of_lt_of_le hb q.size, SsAt.takes (hat'.below q hb) _⟩
      have DR0 : Hid (∀ w', Below wr.heap.size wr w' → SsIn w' (some ⟨b, off + (m + 1), none⟩) (l.drop (m + 1))) := fun w' q => .inr ⟨b, off + (m + 1), rfl, Nat.lt_of_lt_of_le hb q.size, SsAt.drops (hat'.below q hb) _⟩
      clear hk h0 hb hy hs hat'
      by_cases hle : Le y s
      · rw [decide_eq_false (not_not_intro hle)] at gl
        have AT : Hid (at_ l s (m + 1) = m + 1) := by show (if Le (g l m) s then m + 1 else at_ l s m) = m + 1; rw [G.out, if_pos hle]
        have e5 : ((m + 1 : Nat) : Int) ≤ cap := by omega
        by_cases hcm : cap = m + 1
        · have DR : Hid (∀ w', Below wr.heap.size wr w' → SsIn w' (some ⟨b, off, none⟩) (l.drop (m + 1))) := fun w' q => .inl (List.drop_eq_nil_of_le (by have := HA.out.n; have := HA.out.c; omega))
          go_wp2_with (first | (at_builtin; (have qq := O4.out; clear qq); refine wpList_append_ss rfl _ _ 22 rfl 9 wr.heap.size Try.underlying22 ES.out v4 _ _ rfl O4.out _ _ _ (l.drop (m + 1)) rfl (DR.out _ B4.out) LD.out (by have := HN.out; have := KN.out; omega) B4.out.size ?_; intro v5 w5 o5 b5 _ _; have O5 := Lib.hid o5; have B5 := Lib.hid (B4.out.trans b5); clear o5 b5) | (at_builtin; (have qq := O3.out; clear qq); refine wpList_append_ss rfl _ _ 22 rfl 9 wr.heap.size Try.underlying22 ES.out v2 _ _ rfl O3.out _ _ _ [s] rfl G3.out.ss rfl (by have := HN.out; have := KN.out; omega) B3.out.size ?_; intro v4 w4 o4 b4 _ _; have O4 := Lib.hid o4; have B4 := Lib.hid (B3.out.trans b4); clear o4 b4) | (refine wpList_lit_ss1 rfl 22 9 _ rfl Try.underlying22 ES.out s rfl ?_; intro w3 g3 b3; have G3 := Lib.hid g3; have O3 := Lib.hid (own_stay' O2.out b3 (Nat.le_refl _)); have B3 := Lib.hid (B2.out.trans (b3.mono B2.out.size)); clear g3 b3) | (at_builtin; (have qq := O1.out; clear qq); refine wpList_append_ss rfl _ _ 22 rfl 9 wr.heap.size Try.underlying22 ES.out (.slice (some ⟨wr.heap.size, 0, none⟩) 0 0) _ _ rfl O1.out _ _ _ (l.take (m + 1)) rfl (TK.out _ B1.out) LK.out (by have := HN.out; have := KN.out; omega) B1.out.size ?_; intro v2 w2 o2 b2 _ _; have O2 := Lib.hid o2; have B2 := Lib.hid (B1.out.trans b2); clear o2 b2) | (refine wpList_lit_ss0 rfl 22 9 rfl Try.underlying22 ES.out ?_; intro w1 o1 b1; have O1 : Hid (w1.ownsRow wr.heap.size 9 1 (.slice (some ⟨wr.heap.size, 0, none⟩) 0 0) 0 (ssC [])) := o1; have B1 : Hid (Below wr.heap.size wr w1) := b1; clear o1 b1))
          go_ret
          refine ⟨v5, rfl, ?_, B5.out⟩
          rw [D.out, ← HT.out]
          have e := O5.out
          rw [Nat.zero_add, List.nil_append, AT.out] at *
          rw [show n + 1 = m + 1 + 1 + (n - (m + 1)) by have := KN.out; omega]
          exact e
        · have DR := Lib.hid DR0.out
          go_wp2_with (first | (at_builtin; (have qq := O4.out; clear qq); refine wpList_append_ss rfl _ _ 22 rfl 9 wr.heap.size Try.underlying22 ES.out v4 _ _ rfl O4.out _ _ _ (l.drop (m + 1)) rfl (DR.out _ B4.out) LD.out (by have := HN.out; have := KN.out; omega) B4.out.size ?_; intro v5 w5 o5 b5 _ _; have O5 := Lib.hid o5; have B5 := Lib.hid (B4.out.trans b5); clear o5 b5) | (at_builtin; (have qq := O3.out; clear qq); refine wpList_append_ss rfl _ _ 22 rfl 9 wr.heap.size Try.underlying22 ES.out v2 _ _ rfl O3.out _ _ _ [s] rfl G3.out.ss rfl (by have := HN.out; have := KN.out; omega) B3.out.size ?_; intro v4 w4 o4 b4 _ _; have O4 := Lib.hid o4; have B4 := Lib.hid (B3.out.trans b4); clear o4 b4) | (refine wpList_lit_ss1 rfl 22 9 _ rfl Try.underlying22 ES.out s rfl ?_; intro w3 g3 b3; have G3 := Lib.hid g3; have O3 := Lib.hid (own_stay' O2.out b3 (Nat.le_refl _)); have B3 := Lib.hid (B2.out.trans (b3.mono B2.out.size)); clear g3 b3) | (at_builtin; (have qq := O1.out; clear qq); refine wpList_append_ss rfl _ _ 22 rfl 9 wr.heap.size Try.underlying22 ES.out (.slice (some ⟨wr.heap.size, 0, none⟩) 0 0) _ _ rfl O1.out _ _ _ (l.take (m + 1)) rfl (TK.out _ B1.out) LK.out (by have := HN.out; have := KN.out; omega) B1.out.size ?_; intro v2 w2 o2 b2 _ _; have O2 := Lib.hid o2; have B2 := Lib.hid (B1.out.trans b2); clear o2 b2) | (refine wpList_lit_ss0 rfl 22 9 rfl Try.underlying22 ES.out ?_; intro w1 o1 b1; have O1 : Hid (w1.ownsRow wr.heap.size 9 1 (.slice (some ⟨wr.heap.size, 0, none⟩) 0 0) 0 (ssC [])) := o1; have B1 : Hid (Below wr.heap.size wr w1) := b1; clear o1 b1))
          go_ret
          refine ⟨v5, rfl, ?_, B5.out⟩
          rw [D.out, ← HT.out]
          have e := O5.out
          rw [Nat.zero_add, List.nil_append, AT.out] at *
          rw [show n + 1 = m + 1 + 1 + (n - (m + 1)) by have := KN.out; omega]
          exact e
      · rw [decide_eq_true hle] at gl
        go_wp2_with fail
        go_round
        case rel => exact ⟨m, rfl, trivial, by have := KN.out; omega, by rw [← HT.out]; show _ = if Le (g l m) s then m + 1 else at_ l s m; rw [G.out, if_neg hle]⟩
        case measure => simp [intOf]
end Go.Proofs.Ytjokgiheabmolaa.Hep
