/-
  Layer 15: the reference's builder beside the program's: its blocks are not the other's. No walks of loops.
-/
import Derived.Test.YtinmkgpmoclcoaaDoorRebUse
import Derived.Test.YtinmkgpmoclcoaaDoorRebRAdd
import Derived.Test.YtinmkgpmoclcoaaDoorRebRNds
import Derived.Test.YtinmkgpmoclcoaaDoorRebRChk
import Derived.Test.YtinmkgpmoclcoaaDoorTreRCan
namespace Go.Proofs.YtinmkgpmoclcoaaDoor.Reb
open Go.RowKit Go.MapKept Go.Proofs.YtinmkgpmoclcoaaDoor.Fit Pnm Tre Flt

theorem PBd.gd {w : World} {S : Nat → Prop} {g : Nat} {A : List Mb} (h : PBd w S g A) : Gd A := by
  obtain ⟨_, _, _, _, _, _, _, _, _, h, _⟩ := h
  exact h.good
/-- the reference's builder with the members A, off the blocks of S -/
structure Rf (w : World) (S : Nat → Prop) (g : Nat) (A : List Mb) (a : Option Addr) (cap : Nat) (rs : List MbS) : Prop where
  b : RBd w g a A.length cap rs
  m : mms rs = A
  g : ¬ S g
  a : rs = [] ∨ ∀ x, a = some x → ¬ S x.block
  y : ∀ y ∈ rs, y.n.d = [] ∨ ∀ x, y.a = some x → ¬ S x.block
def RfB (w : World) (S : Nat → Prop) (g : Nat) (A : List Mb) : Prop := ∃ a cap rs, Rf w S g A a cap rs
theorem RfB.below {w w' : World} {S : Nat → Prop} {g : Nat} {A : List Mb} (h : RfB w S g A) (hb : Below w.heap.size w w') : RfB w' S g A := by
  obtain ⟨a, cap, rs, h1, h2, h3, h4, h5⟩ := h
  exact ⟨a, cap, rs, h1.below hb, h2, h3, h4, h5⟩
theorem RfB.off {w : World} {S : Nat → Prop} {g : Nat} {A : List Mb} (h : RfB w S g A) : ¬ S g := by
  obtain ⟨a, cap, rs, h1, h2, h3, h4, h5⟩ := h
  exact h3
theorem RfB.lt {w : World} {S : Nat → Prop} {g : Nat} {A : List Mb} (h : RfB w S g A) : g < w.heap.size := by
  obtain ⟨a, cap, rs, h1, h2, h3, h4, h5⟩ := h
  exact h1.o.lt
/-- the program's builder has turned its own blocks -/
theorem RfB.only {w w' : World} {S S' : Nat → Prop} {g : Nat} {A : List Mb} (h : RfB w S g A) (ho : Only S w w') (hS : ∀ k, S' k → S k ∨ w.heap.size ≤ k) : RfB w' S' g A := by
  obtain ⟨a, cap, rs, h1, h2, h3, h4, h5⟩ := h
  have off : ∀ k, k < w.heap.size → ¬ S k → ¬ S' k := fun k hk hn hs => (hS k hs).elim hn fun hl => absurd hk (Nat.not_lt_of_le hl)
  have hr : rs = [] ∨ ∃ b off, a = some ⟨b, off, none⟩ ∧ b < w.heap.size ∧ MbsAt w b off rs := h1.r.r
  refine ⟨a, cap, rs, ⟨h1.o.only ho h3, h1.r.n, h1.r.c, h1.r.m, ?_, fun y hy => MbF.onlyE (h1.r.s y hy) ho (h5 y hy)⟩, h2, off _ h1.o.lt h3, ?_, fun y hy => ?_⟩
  · rcases hr with hr | ⟨b, o, ha, hb, hat⟩
    · exact .inl hr
    · rcases h4 with h4 | h4
      · exact .inl h4
      · exact .inr ⟨b, o, ha, Nat.lt_of_lt_of_le hb ho.size, hat.block (ho.block b hb (h4 _ ha))⟩
  · rcases hr with hr | ⟨b, o, ha, hb, hat⟩
    · exact .inl hr
    · rcases h4 with h4 | h4
      · exact .inl h4
      · exact .inr fun x hx => by
          rw [ha] at hx; cases hx
          exact off b hb (h4 _ ha)
  · obtain ⟨_, _, _, _, h6⟩ := (h1.r.s y hy).d
    rcases h6 with h6 | ⟨b, o, ha, hb, _⟩
    · exact .inl (List.length_eq_zero_iff.mp h6)
    · rcases h5 y hy with h5 | h5
      · exact .inl h5
      · exact .inr fun x hx => by
          rw [ha] at hx; cases hx
          exact off b hb (h5 _ ha)
theorem RfB.nil {w : World} {S : Nat → Prop} {g : Nat} (ho : ObjAt w g 39 [.slice none 0 0]) (hg : ¬ S g) : RfB w S g [] :=
  ⟨none, 0, [], ⟨ho, rfl, Nat.le_refl _, Nat.zero_le _, .inl rfl, fun _ h => by cases h⟩, rfl, hg, .inl rfl, fun _ h => by cases h⟩
theorem rf_check {w : World} {S : Nat → Prop} {g : Nat} {A : List Mb} (h : RfB w S g A) (k : Int) (p : ByteArray) (m : Int) (t : ByteArray) (s : Int) (hp : p.size ≤ maxLen) (ht : t.size ≤ maxLen) :
    Calls Tryd.prog 15 #[.pointer (some ⟨g, 0, none⟩), .agg (enV k p m t s).toArray] w fun e w' => e = .returned (.int .i64 (chR A ⟨k, p, m, t, s⟩)) ∧ Below w.heap.size w w' := by
  obtain ⟨a, cap, rs, h1, h2, h3, h4, h5⟩ := h
  rw [← h2] at h1 ⊢
  exact rbchk_any g a _ cap rs k p m t s w h1 hp ht
theorem rf_add {w : World} {S : Nat → Prop} {g : Nat} {A : List Mb} (h : RfB w S g A) (hS : ∀ k, S k → k < w.heap.size) (y : MbS) (hy : MbF w y) (hA : A.length ≤ 1000) :
    Calls Tryd.prog 16 #[.pointer (some ⟨g, 0, none⟩), .agg (mbV y).toArray] w fun e w' => ∃ X, e = .returned (.int .i64 X) ∧ X = adR A y.n ∧ Only (fun k => k = g) w w' ∧ RfB w' S g (if X = 0 then A ++ [y.n] else A) := by
  obtain ⟨a, cap, rs, h1, h2, h3, h4, h5⟩ := h
  refine (rbadd_any g a _ cap rs y w h1 hy hA).mono ?_
  rintro e w' ⟨X, rfl, hX, ho, hw⟩
  refine ⟨X, rfl, by rw [hX, h2], ho, ?_⟩
  rcases hw with ⟨x0, hb⟩ | ⟨x0, a', cap', y', hn, hr, ha, hy'⟩
  · rw [if_neg x0]
    exact ⟨a, cap, rs, h1.below hb, h2, h3, h4, h5⟩
  · rw [if_pos x0]
    have hl : rs.length = A.length := h1.r.n
    refine ⟨a', cap', rs ++ [y'], by rw [List.length_append, List.length_singleton, ← hl]; exact hr, ?_, h3, .inr fun x hx hs => ?_, fun z hz => ?_⟩
    · have : mms (rs ++ [y']) = mms rs ++ [y'.n] := by unfold mms; rw [List.map_append]; rfl
      rw [this, h2, hn]
    · exact absurd (hS _ hs) (Nat.not_lt_of_le (ha x hx))
    · rcases List.mem_append.1 hz with hz | hz
      · exact h5 z hz
      · rw [List.mem_singleton.1 hz]
        exact .inr fun x hx hs => absurd (hS _ hs) (Nat.not_lt_of_le (hy' x hx))
theorem rf_nodes {w : World} {S : Nat → Prop} {g : Nat} {A : List Mb} (h : RfB w S g A) (hG : Gd A) (h40 : A.length ≤ 40) :
    Calls Tryd.prog 18 #[.pointer (some ⟨g, 0, none⟩)] w fun e w' => ∃ a c zs, e = .returned (.slice a A.length c) ∧ ArgNds w' a A.length c zs ∧ nds zs = canon (ndsOf A) ∧ Below w.heap.size w w' := by
  obtain ⟨a, cap, rs, h1, h2, h3, h4, h5⟩ := h
  refine (rbnds_any CanP (fun a n cap zs w ha hn => rcanon_any a n cap zs w ha (Nat.le_trans hn (by decide))) (fun w n zs e w' ⟨a, c, _, h, _⟩ => ⟨_, h⟩) g a _ cap rs w h1 (by rw [h2]; exact hG) h40).mono ?_
  rintro e w' ⟨us, w1, hu, b1, a', c', zs, rfl, ha, hz, _, _, b2⟩
  refine ⟨a', c', zs, rfl, ha, by rw [hz, hu, h2], b1.trans (b2.mono b1.size)⟩
end Go.Proofs.YtinmkgpmoclcoaaDoor.Reb
