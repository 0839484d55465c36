/-
  Pop of the heap's slice type. (Scratch: names of types as in our own copy.)
-/
import Derived.Test.YtjokgiheabmolaaHepMth
namespace Go.Proofs.Ytjokgiheabmolaa.Hep
open Go.RowKit

theorem own_take {w : World} {base n cap b k : Nat} {e : TypeId} {xs : List Value} (h : w.ownsRow base e 1 (.slice (some ⟨b, 0, none⟩) n cap) n xs) (hk : k ≤ n) :
    w.ownsRow base e 1 (.slice (some ⟨b, 0, none⟩) k cap) k (xs.take k) := by
  obtain ⟨h1, h2 | ⟨g', cap', cur, hv, hb, hh, hc, hm, hs, ht⟩⟩ := h
  · cases h2.1
  · cases hv
    refine ⟨by rw [List.length_take, h1]; omega, .inr ⟨b, cap, cur, rfl, hb, hh, Nat.le_trans hk hc, hm, hs, ?_⟩⟩
    rw [← ht, List.take_take]
    congr 1; omega
theorem HO.apart {w : World} {gg base n : Nat} {v : Value} {ys : List Value} {u : Value} (h1 : ObjAt w gg 48 [u]) (h2 : w.ownsRow base 9 1 v n ys) : v.ownBlock ≠ some gg := by
  rcases h2.2 with ⟨rfl, -⟩ | ⟨b', cap', cur, rfl, -, hh, -⟩
  · exact fun c => by cases c
  · intro c
    injection c with c
    have c : b' = gg := c
    subst c
    have h1 : w.heap[b']? = _ := h1
    rw [h1] at hh
    injection hh with hh
    injection hh with _ hh
    exact absurd hh (by decide)
theorem HO.pop {w0 w : World} {S0 : Nat → Prop} {gg n : Nat} {l : List ByteArray} (h : HO w0 S0 gg w l) (hn : l.length = n + 1) (u : Value) :
    ∃ b cap, w.cell? ⟨gg, 0, none⟩ = some (.slice (some ⟨b, 0, none⟩) (n + 1) cap) ∧ n + 1 ≤ cap ∧ cap ≤ maxLen ∧ w.cell? ⟨b, n, none⟩ = some (.string (g l n)) ∧ (∀ k, w.frozen? ⟨gg, k, none⟩ = false) ∧ (∀ k, w.frozen? ⟨b, k, none⟩ = false) ∧ b ≠ gg ∧
      HO w0 S0 gg ((w.setCell ⟨b, n, none⟩ u).setCell ⟨gg, 0, none⟩ (.slice (some ⟨b, 0, none⟩) n cap)) (l.take n) := by
  obtain ⟨a, cap, S, h1, h2, h3, h4, h5, h6, h7⟩ := h
  obtain ⟨a', c', hv, -, hc, hm, hi, hx⟩ := SsIn.of_own h2
  cases hv
  obtain ⟨b, off, rfl, hb, hat⟩ : ∃ b off, a = some ⟨b, off, none⟩ ∧ b < w.heap.size ∧ SsAt w b off l := by
    rcases hi with hi | hi
    · rw [hi] at hn; cases hn
    · exact hi
  obtain ⟨-, ho, -, hf⟩ := hx _ rfl
  have ho : off = 0 := ho
  subst ho
  have at' : w.cell? ⟨b, n, none⟩ = some (.string (g l n)) := by
    have := hat n (g l n) (by rw [g_get (by omega)]; exact List.getElem?_eq_getElem (by omega))
    rwa [Nat.zero_add] at this
  have ap := HO.apart h1 h2
  have ne : b ≠ gg := fun c => ap (by subst c; rfl)
  have lt : (l.take n).length = n := by rw [List.length_take]; omega
  rw [hn] at h1 h2 hc
  have sb : S b := h4 _ rfl
  refine ⟨b, cap, h1.get 0 rfl, hc, hm, at', fun k => h1.frozen k, hf, ne, some ⟨b, 0, none⟩, cap, S, ?_, ?_, h3, h4, h5, fun k hk => ?_, (h7.setCell (p := ⟨b, n, none⟩) (h5 b sb) _).setCell (p := ⟨gg, 0, none⟩) (h5 gg h3) _⟩
  · rw [lt]; exact (h1.set_other n _ (Ne.symm ne)).set 0 _
  · rw [lt]
    have e : ssC (l.take n) = ((ssC l).set n u).take n := by
      rw [List.take_set_of_le (Nat.le_refl n)]
      exact List.map_take ..
    rw [e]
    exact ownsRow_setCell_other (own_take (own_set h2 u) (Nat.le_succ n)) (by rw [hn] at ap; exact ap) _
  · have := h6 k hk
    simpa [World.setCell] using this

set_option maxRecDepth 100000 in
set_option maxHeartbeats 2000000 in
theorem mpop_any {w0 w : World} {S0 : Nat → Prop} {gg n : Nat} {l : List ByteArray} (h : HS w0 S0 gg w l) (hn : l.length = n + 1) (hb : n < 8796093022208) :
    Calls Try.prog 45 #[.pointer (some ⟨gg, 0, none⟩)] w fun e w' => e = .returned (.iface 9 (.string (g l n))) ∧ HS w0 S0 gg w' (l.take n) := by
  obtain ⟨b, cap, c0, hc, hm, c1, hf, hg, ne, hH⟩ := h.1.pop hn (.string ⟨#[]⟩)
  have H2 : Hid (HS w0 S0 gg ((w.setCell ⟨b, n, none⟩ (.string ⟨#[]⟩)).setCell ⟨gg, 0, none⟩ (.slice (some ⟨b, 0, none⟩) n cap)) (l.take n)) := ⟨hH, fun y hy => h.2 y (List.mem_of_mem_take hy)⟩
  obtain ⟨z, hz⟩ := named (g l n)
  rw [← hz.out] at c1 ⊢
  have f1 := hg n
  have c2 : (w.setCell ⟨b, n, none⟩ (.string ⟨#[]⟩)).cell? ⟨gg, 0, none⟩ = some (.slice (some ⟨b, 0, none⟩) (n + 1) cap) := by
    rw [World.cell?_setCell_other (h := fun c => ne (Addr.mk.inj c).1)]; exact c0
  have f0 : (w.setCell ⟨b, n, none⟩ (.string ⟨#[]⟩)).frozen? ⟨gg, 0, none⟩ = false := by rw [World.frozen?_setCell]; exact hf 0
  have i1 : (n : Int) < ((n + 1 : Nat) : Int) := by omega
  have i2 : (n : Int) ≤ cap := by omega
  have i3 : (n : Int) < cap := by omega
  have e1 : ((n + 1 : Nat) : Int) - 1 = (n : Int) := by omega
  have nb : (n : Int) < 8796093022208 := by omega
  clear h hn hc hm hf hg hH hb
  go_enter Try.func45, Try.ntmps45
  go_wp2_with fail
  go_ret
  exact ⟨rfl, H2.out⟩
end Go.Proofs.Ytjokgiheabmolaa.Hep
