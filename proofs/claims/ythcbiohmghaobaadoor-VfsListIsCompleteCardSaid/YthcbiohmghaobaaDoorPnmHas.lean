/-
  Layer 8: 'strings.Contains' of one byte.
-/
import Derived.Test.YthcbiohmghaobaaDoorPz07
import Derived.Test.YthcbiohmghaobaaDoorShelfB
namespace Go.Proofs.YthcbiohmghaobaaDoor.Pnm
open Go.RowKit

theorem idx_byte (s : ByteArray) (c : UInt8) : 0 ≤ Lib.indexByte s.data.toList c ↔ (c.toNat : Int) ∈ numsOf s := by
  constructor
  · intro h
    obtain ⟨o, ho⟩ : ∃ o : Nat, Lib.indexByte s.data.toList c = o := ⟨(Lib.indexByte s.data.toList c).toNat, by omega⟩
    have h1 := (Lib.indexByte_some ho).1
    rw [numsOf_eq, List.mem_map]
    exact ⟨c, List.mem_of_getElem? h1, rfl⟩
  · intro h
    rw [numsOf_eq, List.mem_map] at h
    obtain ⟨b, hb, h0⟩ := h
    obtain rfl : b = c := by
      apply UInt8.toNat_inj.1
      omega
    rcases Int.lt_or_le (Lib.indexByte s.data.toList b) 0 with h | h
    · exfalso
      have h1 := Lib.indexByte_ge s.data.toList b
      obtain ⟨k, hk⟩ := List.getElem?_of_mem hb
      exact Lib.indexByte_none (c := b) (by omega) k hk
    · exact h
theorem has_any (s : ByteArray) (c : UInt8) (w : World) (b : Bool) (h : decide ((c.toNat : Int) ∈ numsOf s) = b) :
    Calls Tryd.prog 32 #[.string s, .string ⟨#[c]⟩] w fun e w' => e = .returned (.bool b) ∧ w = w' := by
  have h1 := Tryd.strings_Contains_one s c w
  have e : decide (0 ≤ Lib.indexByte s.data.toList c) = b := by
    rw [← h]
    by_cases hm : (c.toNat : Int) ∈ numsOf s
    · rw [decide_eq_true hm, decide_eq_true ((idx_byte s c).2 hm)]
    · rw [decide_eq_false hm, decide_eq_false (fun h' => hm ((idx_byte s c).1 h'))]
  rw [e] at h1
  exact h1.mono fun _ _ h => ⟨h.1, h.2.symm⟩
end Go.Proofs.YthcbiohmghaobaaDoor.Pnm
