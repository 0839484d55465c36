/-
  The heap as a law sees it: at block gg it holds the strings of m, in ascending order. Len, Peek, Pop.
-/
import Derived.Test.YtjokgiheabmolaaHepMthP
namespace Go.Proofs.Ytjokgiheabmolaa.Hep
open Go.RowKit

/-- the heap at block gg holds m; since w0 only blocks of S0 and new ones have turned -/
structure Hp (w0 : World) (S0 : Nat → Prop) (gg : Nat) (w : World) (m : List ByteArray) : Prop where
  ex : ∃ l, HS w0 S0 gg w l ∧ HP Le 0 l.length l ∧ l.Perm m
  so : m.Pairwise Le
theorem Hp.only0 {w0 w : World} {S0 : Nat → Prop} {gg : Nat} {m : List ByteArray} (h : Hp w0 S0 gg w m) : Only S0 w0 w := by
  obtain ⟨l, ⟨⟨a, cap, S, h1, h2, h3, h4, h5, h6, h7⟩, hs⟩, hh, hp⟩ := h.ex
  exact h7
theorem HO.rebase {w0 w : World} {S0 : Nat → Prop} {gg : Nat} {l : List ByteArray} (h : HO w0 S0 gg w l) : HO w (Grow S0 w0 w) gg w l := by
  obtain ⟨a, cap, S, h1, h2, h3, h4, h5, h6, h7⟩ := h
  exact ⟨a, cap, S, h1, h2, h3, h4, fun k hk => .inl ((h5 k hk).imp id fun q => ⟨q, h6 k hk⟩), h6, .refl _ _⟩
theorem HO.framed {S T : Nat → Prop} {w w' : World} {gg : Nat} {l : List ByteArray} (h : HO w S gg w l) (ho : Only T w w') (hd : ∀ k, S k → ¬ T k) : HO w' S gg w' l := by
  obtain ⟨a, cap, S', h1, h2, h3, h4, h5, h6, h7⟩ := h
  have hs : ∀ k, S' k → S k := fun k hk => (h5 k hk).resolve_right (by have := h6 k hk; omega)
  refine ⟨a, cap, S', h1.only ho (hd _ (hs _ h3)), own_onlyB h2 ho fun k hk => ?_, h3, h4, fun k hk => .inl (hs k hk), fun k hk => Nat.lt_of_lt_of_le (h6 k hk) ho.size, .refl _ _⟩
  cases a with
  | none => cases hk
  | some x => injection hk with hk; subst hk; exact hd _ (hs _ (h4 x rfl))
/-- the heap at block gg holds m, and all its blocks are in S -/
def Hq (S : Nat → Prop) (gg : Nat) (w : World) (m : List ByteArray) : Prop := Hp w S gg w m ∧ ∀ k, S k → k < w.heap.size
theorem Hq.of {w0 w : World} {S0 : Nat → Prop} {gg : Nat} {m : List ByteArray} (h : Hp w0 S0 gg w m) (hs : ∀ k, S0 k → k < w0.heap.size) : Hq (Grow S0 w0 w) gg w m := by
  obtain ⟨l, h1, h2, h3⟩ := h.ex
  refine ⟨⟨⟨l, ⟨h1.1.rebase, h1.2⟩, h2, h3⟩, h.so⟩, fun k hk => ?_⟩
  rcases hk with hk | hk
  · exact Nat.lt_of_lt_of_le (hs k hk) h.only0.size
  · exact hk.2
theorem Hq.only {S T : Nat → Prop} {w w' : World} {gg : Nat} {m : List ByteArray} (h : Hq S gg w m) (ho : Only T w w') (hd : ∀ k, S k → ¬ T k) : Hq S gg w' m := by
  obtain ⟨l, h1, h2, h3⟩ := h.1.ex
  exact ⟨⟨⟨l, ⟨h1.1.framed ho hd, h1.2⟩, h2, h3⟩, h.1.so⟩, fun k hk => Nat.lt_of_lt_of_le (h.2 k hk) ho.size⟩
theorem Hq.below {S : Nat → Prop} {w w' : World} {gg : Nat} {m : List ByteArray} (h : Hq S gg w m) (hb : Below w.heap.size w w') : Hq S gg w' m := h.only (T := fun _ => False) (.of_below hb (Nat.le_refl _)) fun _ _ c => c
theorem HO.wider {S S' : Nat → Prop} {w : World} {gg : Nat} {l : List ByteArray} (h : HO w S gg w l) (hs : ∀ k, S k → S' k) : HO w S' gg w l := by
  obtain ⟨a, cap, S1, h1, h2, h3, h4, h5, h6, h7⟩ := h
  exact ⟨a, cap, S1, h1, h2, h3, h4, fun k hk => (h5 k hk).imp (hs k) id, h6, .refl _ _⟩
theorem Hq.wide {S S' : Nat → Prop} {w : World} {gg : Nat} {m : List ByteArray} (h : Hq S gg w m) (hs : ∀ k, S k → S' k) (hb : ∀ k, S' k → k < w.heap.size) : Hq S' gg w m := by
  obtain ⟨l, h1, h2, h3⟩ := h.1.ex
  exact ⟨⟨⟨l, ⟨h1.1.wider hs, h1.2⟩, h2, h3⟩, h.1.so⟩, hb⟩

/-- what is there to read -/
theorem Hp.row {w0 w : World} {S0 : Nat → Prop} {gg : Nat} {m : List ByteArray} (h : Hp w0 S0 gg w m) :
    ∃ a cap, w.cell? ⟨gg, 0, none⟩ = some (.slice a m.length cap) ∧ m.length ≤ cap ∧ cap ≤ maxLen ∧ ∀ x r, m = x :: r → ∃ b, a = some ⟨b, 0, none⟩ ∧ w.cell? ⟨b, 0, none⟩ = some (.string x) := by
  obtain ⟨l, ⟨⟨a, cap, S, h1, h2, h3, h4, h5, h6, h7⟩, hs⟩, hh, hp⟩ := h.ex
  obtain ⟨a', c', hv, -, hc, hm, hi, hx⟩ := SsIn.of_own h2
  cases hv
  have hl := hp.length_eq
  refine ⟨a, cap, by rw [← hl]; exact h1.get 0 rfl, by rw [← hl]; exact hc, hm, fun x r hr => ?_⟩
  have l0 : 0 < l.length := by rw [hl, hr]; simp
  obtain ⟨b, off, rfl, hb, hat⟩ : ∃ b off, a = some ⟨b, off, none⟩ ∧ b < w.heap.size ∧ SsAt w b off l := by
    rcases hi with hi | hi
    · rw [hi] at l0; cases l0
    · exact hi
  obtain ⟨-, ho, -, hf⟩ := hx _ rfl
  have ho : off = 0 := ho
  subst ho
  refine ⟨b, rfl, ?_⟩
  have := hat 0 (g l 0) (by rw [g_get l0]; exact List.getElem?_eq_getElem l0)
  rw [root_head le_rf le_tr le_an hh (by rw [← hr]; exact h.so) (by rw [← hr]; exact hp)] at this
  exact this

set_option maxRecDepth 100000 in
set_option maxHeartbeats 2000000 in
theorem glen {w0 w : World} {S0 : Nat → Prop} {gg : Nat} {m : List ByteArray} (h : Hp w0 S0 gg w m) :
    Calls Try.prog 12 #[.pointer (some ⟨gg, 0, none⟩)] w fun e w' => e = .returned (.int .i64 (m.length : Int)) ∧ w = w' := by
  obtain ⟨a, cap, c0, -, -, -⟩ := h.row
  obtain ⟨n, hn⟩ := named m.length
  rw [← hn.out] at c0 ⊢
  clear h
  go_enter Try.func12, Try.ntmps12
  go_wp2_with fail
  go_ret
  exact ⟨rfl, rfl⟩
set_option maxRecDepth 100000 in
set_option maxHeartbeats 2000000 in
theorem glen_nil (w : World) : Calls Try.prog 12 #[.pointer none] w fun e w' => e = .returned (.int .i64 0) ∧ w = w' := by
  go_enter Try.func12, Try.ntmps12
  go_wp2_with fail
  go_ret
  exact ⟨rfl, rfl⟩
set_option maxRecDepth 100000 in
set_option maxHeartbeats 2000000 in
theorem gpeek {w0 w : World} {S0 : Nat → Prop} {gg : Nat} {m : List ByteArray} {x : ByteArray} (h : Hp w0 S0 gg w (x :: m)) :
    Calls Try.prog 11 #[.pointer (some ⟨gg, 0, none⟩)] w fun e w' => e = .returned (.tuple #[.string x, .bool true]) ∧ w = w' := by
  obtain ⟨a, cap, c0, hc, hm, hr⟩ := h.row
  obtain ⟨b, rfl, c1⟩ := hr x m rfl
  have GL := Lib.hid (glen h)
  obtain ⟨n, hn⟩ := named (x :: m).length
  rw [← hn.out] at c0 GL hc
  have n0 : 0 < n := by rw [hn.out]; simp
  have n1 : (0 : Int) < n := by omega
  have n2 : ¬ (n : Int) = 0 := by omega
  have n3 : ((n : Int) == 0) = false := by simpa using n2
  have n4 : (0 : Int) < cap := by omega
  clear h hr hm
  go_enter Try.func11, Try.ntmps11
  go_wp2_with fail
  refine GL.out.mono ?_; rintro e w1 ⟨rfl, rfl⟩
  go_wp2_with fail
  go_ret2
  exact ⟨rfl, rfl⟩
set_option maxRecDepth 100000 in
set_option maxHeartbeats 2000000 in
theorem gpeek_none {w0 w : World} {S0 : Nat → Prop} {gg : Nat} (h : Hp w0 S0 gg w []) :
    Calls Try.prog 11 #[.pointer (some ⟨gg, 0, none⟩)] w fun e w' => e = .returned (.tuple #[.string ⟨#[]⟩, .bool false]) ∧ w = w' := by
  have GL := Lib.hid (glen h)
  clear h
  go_enter Try.func11, Try.ntmps11
  go_wp2_with fail
  refine GL.out.mono ?_; rintro e w1 ⟨rfl, rfl⟩
  go_wp2_with fail
  go_ret2
  exact ⟨rfl, rfl⟩
set_option maxRecDepth 100000 in
set_option maxHeartbeats 2000000 in
theorem gpeek_nil (w : World) : Calls Try.prog 11 #[.pointer none] w fun e w' => e = .returned (.tuple #[.string ⟨#[]⟩, .bool false]) ∧ w = w' := by
  have GL := Lib.hid (glen_nil w)
  go_enter Try.func11, Try.ntmps11
  go_wp2_with fail
  refine GL.out.mono ?_; rintro e w1 ⟨rfl, rfl⟩
  go_wp2_with fail
  go_ret2
  exact ⟨rfl, rfl⟩
theorem Hp.pop {w0 w : World} {S0 : Nat → Prop} {gg : Nat} {m : List ByteArray} {x : ByteArray} (h : Hp w0 S0 gg w (x :: m)) (hb : m.length < 8796093022208) :
    Calls Try.prog 21 #[.iface 45 (.pointer (some ⟨gg, 0, none⟩))] w fun e w' => e = .returned (.iface 9 (.string x)) ∧ Hp w0 S0 gg w' m := by
  obtain ⟨l, h1, h2, h3⟩ := h.ex
  have hl : l.length = m.length + 1 := h3.length_eq
  refine (heap_pop w0 S0 gg m.length x m l w h1 (by omega) hl (by rw [← hl]; exact h2) h.so h3).mono fun e w' ⟨l', q1, q2, q3, q4⟩ => ⟨q1, ⟨l', q2, by rw [q3.length_eq]; exact q4, q3⟩, (List.pairwise_cons.mp h.so).2⟩
theorem Hp.push {w0 w : World} {S0 : Nat → Prop} {gg : Nat} {m : List ByteArray} (h : Hp w0 S0 gg w m) (s : ByteArray) (hb : m.length < 8796093022208) (hz : s.size ≤ 140737488355328) :
    Calls Try.prog 20 #[.iface 45 (.pointer (some ⟨gg, 0, none⟩)), .iface 9 (.string s)] w fun e w' => e = .returned (.tuple #[]) ∧ Hp w0 S0 gg w' (ins m s) := by
  obtain ⟨l, h1, h2, h3⟩ := h.ex
  have hl : l.length = m.length := h3.length_eq
  refine (heap_push w0 S0 gg s l w h1 (by omega) hz h2).mono fun e w' ⟨l', q1, q2, q3, q4⟩ => ⟨q1, ⟨l', q2, by rw [q3.length_eq, List.length_cons]; exact q4, (q3.trans (h3.cons s)).trans (ins_perm m s).symm⟩, ins_sorted h.so s⟩
set_option maxRecDepth 100000 in
set_option maxHeartbeats 2000000 in
theorem gpopH {w0 w : World} {S0 : Nat → Prop} {gg : Nat} {m : List ByteArray} {x : ByteArray} (h : Hp w0 S0 gg w (x :: m)) (hb : m.length < 8796093022208) :
    Calls Try.prog 10 #[.pointer (some ⟨gg, 0, none⟩)] w fun e w' => e = .returned (.tuple #[.string x, .bool true]) ∧ Hp w0 S0 gg w' m := by
  have GL := Lib.hid (glen h)
  have GP := Lib.hid (h.pop hb)
  obtain ⟨n, hn⟩ := named (x :: m).length
  rw [← hn.out] at GL
  have n0 : 0 < n := by rw [hn.out]; simp
  have n2 : ¬ (n : Int) = 0 := by omega
  have n3 : ((n : Int) == 0) = false := by simpa using n2
  have TA : ∀ W : World, (Instr.typeAssert (.iface 9 (.string x)) 20 9 false).run Try.prog W = .ok (.string x) W := fun W => by kernel_rfl
  clear h hb
  go_enter Try.func10, Try.ntmps10
  go_wp2_with fail
  refine GL.out.mono ?_; rintro e w1 ⟨rfl, rfl⟩
  go_wp2_with fail
  refine GP.out.mono ?_; rintro e w1 ⟨rfl, h1⟩
  have H1 := Lib.hid h1
  clear h1
  go_wp2_with fail
  go_ret2
  exact ⟨rfl, H1.out⟩
theorem gpop {w : World} {S : Nat → Prop} {gg : Nat} {m : List ByteArray} {x : ByteArray} (h : Hq S gg w (x :: m)) (hb : m.length < 8796093022208) :
    Calls Try.prog 10 #[.pointer (some ⟨gg, 0, none⟩)] w fun e w' => e = .returned (.tuple #[.string x, .bool true]) ∧ Only S w w' ∧ Hq (Grow S w w') gg w' m :=
  (gpopH h.1 hb).mono fun _ _ q => ⟨q.1, q.2.only0, Hq.of q.2 h.2⟩
set_option maxRecDepth 100000 in
set_option maxHeartbeats 2000000 in
theorem gpop_none {w0 w : World} {S0 : Nat → Prop} {gg : Nat} (h : Hp w0 S0 gg w []) :
    Calls Try.prog 10 #[.pointer (some ⟨gg, 0, none⟩)] w fun e w' => e = .returned (.tuple #[.string ⟨#[]⟩, .bool false]) ∧ w = w' := by
  have GL := Lib.hid (glen h)
  clear h
  go_enter Try.func10, Try.ntmps10
  go_wp2_with fail
  refine GL.out.mono ?_; rintro e w1 ⟨rfl, rfl⟩
  go_wp2_with fail
  go_ret2
  exact ⟨rfl, rfl⟩
set_option maxRecDepth 100000 in
set_option maxHeartbeats 2000000 in
theorem gpop_nil (w : World) : Calls Try.prog 10 #[.pointer none] w fun e w' => e = .returned (.tuple #[.string ⟨#[]⟩, .bool false]) ∧ w = w' := by
  have GL := Lib.hid (glen_nil w)
  go_enter Try.func10, Try.ntmps10
  go_wp2_with fail
  refine GL.out.mono ?_; rintro e w1 ⟨rfl, rfl⟩
  go_wp2_with fail
  go_ret2
  exact ⟨rfl, rfl⟩
end Go.Proofs.Ytjokgiheabmolaa.Hep
