/-
  Layer 4: Read in the words that the laws use; what the call owns beside a source.
-/
import Derived.Test.YtnnengigahakaaaSrcRead
namespace Go.Proofs.Ytnnengigahakaaa
open Go.RowKit

theorem Src.size {w : World} {lo hi s : Nat} {zs cs : List Int} {E : Int} {o r : Nat} (h : Src w lo hi s zs E cs o r) : hi ≤ w.heap.size ∧ lo ≤ s ∧ s < hi := by
  obtain ⟨_, _, _, _, _, _, _, _, _, _, _, h7, _⟩ := h; exact ⟨h7.2.2.2.2.2, h7.1, h7.2.1⟩

theorem readK_bd {L : Nat} {cs : List Int} {o r : Nat} {n : Int} (hn : 1 ≤ n) (ho : o < L) : 1 ≤ readK L cs o r n ∧ o + readK L cs o r n ≤ L ∧ (readK L cs o r n : Int) ≤ n := by
  have := chunkZ_pos cs r
  unfold readK
  omega

/-- a read at the end -/
theorem read_stop {lo hi s : Nat} {zs cs : List Int} {E : Int} {o r : Nat} (n : Int) (w : World) (h : Src w lo hi s zs E cs o r) (hn : 1 ≤ n) (ho : o = zs.length) :
    Calls Try.prog 36 #[.pointer (some ⟨s, 0, none⟩), .int .i64 n] w fun e w' => ∃ a c, e = .returned (.tuple #[.slice a 0 c, .int .i64 E]) ∧
      w'.ownsRow w.heap.size 5 1 (.slice a 0 c) 0 (([] : List Int).map (.int .u8)) ∧ Src w' lo hi s zs E cs o r ∧ Out lo hi w w' := by
  refine (read_any n w h).mono ?_
  rintro e w' ⟨v, rfl, h1, h2, h3⟩
  have e1 : readB zs cs o r n = [] := if_pos (.inr ho)
  have e2 : readE zs E o n = E := by unfold readE; rw [if_neg (by omega), if_pos ho]
  have e3 : readO zs cs o r n = o := if_pos (.inr ho)
  have e4 : readR zs o r n = r := if_pos (.inr ho)
  rw [e1] at h1; rw [e3, e4] at h2; rw [e2]
  obtain ⟨b, c, rfl, _⟩ := own_any (zs := []) h1
  exact ⟨b, c, rfl, h1, h2, h3⟩

/-- a read before the end -/
theorem read_go {lo hi s : Nat} {zs cs : List Int} {E : Int} {o r : Nat} (n : Int) (w : World) (h : Src w lo hi s zs E cs o r) (hn : 1 ≤ n) (ho : o < zs.length) (k : Nat) (hk : readK zs.length cs o r n = k) :
    Calls Try.prog 36 #[.pointer (some ⟨s, 0, none⟩), .int .i64 n] w fun e w' => ∃ g c, e = .returned (.tuple #[.slice (some ⟨g, 0, none⟩) k c, .int .i64 0]) ∧
      w'.ownsRow w.heap.size 5 1 (.slice (some ⟨g, 0, none⟩) k c) k (((zs.drop o).take k).map (.int .u8)) ∧ Src w' lo hi s zs E cs (o + k) (r + 1) ∧ Out lo hi w w' := by
  refine (read_any n w h).mono ?_
  rintro e w' ⟨v, rfl, h1, h2, h3⟩
  have hb := readK_bd (cs := cs) (r := r) hn ho
  rw [hk] at hb
  have e1 : readB zs cs o r n = (zs.drop o).take k := by unfold readB; rw [if_neg (by omega), hk]
  have e2 : readE zs E o n = 0 := by unfold readE; rw [if_neg (by omega), if_neg (by omega)]
  have e3 : readO zs cs o r n = o + k := by unfold readO; rw [if_neg (by omega), hk]
  have e4 : readR zs o r n = r + 1 := if_neg (by omega)
  have hl : ((zs.drop o).take k).length = k := by rw [List.length_take, List.length_drop]; omega
  rw [e1, hl] at h1; rw [e3, e4] at h2; rw [e2]
  obtain ⟨g, c, rfl, _⟩ := own_shape h1 (by omega)
  exact ⟨g, c, rfl, h1, h2, h3⟩

theorem readB_len (zs cs : List Int) (o r : Nat) (n : Int) : (readB zs cs o r n).length ≤ zs.length := by
  unfold readB
  split
  · exact Nat.zero_le _
  · rw [List.length_take, List.length_drop]; omega
theorem readB_bytes {zs : List Int} (h : Bytes zs) (cs : List Int) (o r : Nat) (n : Int) : Bytes (readB zs cs o r n) := by
  unfold readB
  split
  · exact fun z hz => by simp at hz
  · exact (h.drop o).take _
theorem endE_ne (F : Int) (n : Nat) : endE F n = 11 ∨ endE F n = 4 := by unfold endE; split <;> simp
theorem endN_le (F : Int) (n : Nat) : endN F n ≤ n := by unfold endN; split <;> omega
theorem take_take_drop (zs : List Int) (o k : Nat) : zs.take o ++ (zs.drop o).take k = zs.take (o + k) := by rw [List.take_add]
theorem Src.bytes {w : World} {lo hi s : Nat} {zs cs : List Int} {E : Int} {o r : Nat} (h : Src w lo hi s zs E cs o r) : Bytes zs ∧ o ≤ zs.length ∧ r ≤ o := by
  obtain ⟨_, _, _, _, _, _, _, h3, _, _, _, _, _, _, h10⟩ := h; exact ⟨h3.bytes, h10⟩
end Go.Proofs.Ytnnengigahakaaa
