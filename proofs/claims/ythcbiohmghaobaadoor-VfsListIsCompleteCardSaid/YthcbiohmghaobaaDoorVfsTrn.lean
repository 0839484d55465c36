/-
  Layer 19: slices.Reverse in place; the program's nextRotation.
-/
import Derived.Test.YthcbiohmghaobaaDoorVfsConc
import Derived.Test.YthcbiohmghaobaaDoorPz10
namespace Go.Proofs.YthcbiohmghaobaaDoor.Vfs
open Go.RowKit Go.MapKept Go.Shelf Go.Proofs.YthcbiohmghaobaaDoor.Pnm Flt Hep Go.Sort

theorem unB_rev (zs : List ByteArray) : toB (unB zs).reverse = zs.reverse := by
  have e : (unB zs).reverse = unB zs.reverse := by unfold unB; rw [List.map_reverse]
  rw [e, toB_unB]
theorem rev_own {w : World} {base len cap : Nat} {a : Option Addr} {zs : List ByteArray} (h : w.ownsRow base 9 1 (.slice a len cap) len (ssC zs)) (hlen : len ≤ 8796093022208) :
    Calls Tryd.prog 70 #[.slice a len cap] w fun e w' => e = .returned (.tuple #[]) ∧ w'.ownsRow base 9 1 (.slice a len cap) len (ssC zs.reverse) ∧ Only (fun k => base ≤ k ∧ (Value.slice a len cap).ownBlock = some k) w w' := by
  rcases h.2 with ⟨hv, h0⟩ | ⟨g, cap', cur, hv, hb, hg, h1, h2, h3, h4⟩
  · simp only [Value.slice.injEq] at hv
    obtain ⟨rfl, rfl, rfl⟩ := hv
    have hz : zs = [] := List.length_eq_zero_iff.1 (by have := h.1; simpa using this)
    subst hz
    exact (Tryd.slices_Reverse_string_empty none 0 w).mono fun e w' ⟨q1, q2⟩ => by subst q2; exact ⟨q1, h, Only.refl _ _⟩
  · simp only [Value.slice.injEq, true_and] at hv
    obtain ⟨rfl, rfl⟩ := hv
    have hl : (unB zs).length = len := by unfold unB; rw [List.length_map]; have := h.1; simpa using this
    have hh : Holds encStr w g 0 (unB zs).toArray := holds_of_block hg (by rw [hl, ← ssC_enc]; have := h4; rwa [Nat.mul_one] at this)
    have := Tryd.slices_Reverse_string g 0 cap (unB zs) w hh (by omega)
    rw [hl] at this
    refine this.mono ?_
    rintro e w' ⟨rfl, nn, rfl⟩
    have eg : ∀ x : World, grow x #[] = x := fun x => by simp [grow]
    have r := ownsRow_sorted (w := w) (n := nn) (os := #[]) (ss := unB zs) (ts := (unB zs).reverse) (by simp) hb hg (by rw [hl]; exact h1) h2 h3
    rw [hl, enc_ssC, eg, unB_rev] at r
    refine ⟨rfl, r, ?_⟩
    have q := grownBy_sorted (w := w) (g := g) (n := nn) (os := #[]) (unB zs).reverse.toArray
    rw [eg] at q
    exact ⟨q.os, q.tape, q.output, q.size, fun k hk hn => q.block k hk fun e => hn ⟨by injection e with e; omega, e.symm⟩⟩
end Go.Proofs.YthcbiohmghaobaaDoor.Vfs
