/-
  Strings made of one byte, again and again.
-/
import Derived.Test.YtbchehpjimgapaaCstAlive
import Derived.Test.YtbchehpjimgapaaShelf
namespace Go.Proofs.Ytbchehpjimgapaa
open Go.RowKit

theorem nums_rep (x : UInt8) (c : Nat) : numsOf ⟨(Lib.repeatL [x] c).toArray⟩ = List.replicate c (x.toNat : Int) := by
  have : ∀ c, Lib.repeatL [x] c = List.replicate c x := by
    intro c
    induction c with
    | zero => rfl
    | succ c ih => rw [Lib.repeatL, ih]; rfl
  rw [numsOf_eq, this]
  simp

theorem fits_is (s : ByteArray) (wd : Int) (w : World) (b : Bool) (h : (ceF (numsOf s) wd == 0) = b) :
    Calls Try.prog 9 #[.string s, .int .i64 wd] w fun e w' => e = .returned (.bool b) ∧ w = w' := by
  have := fits_any s wd w
  rw [h] at this
  exact this
theorem fmt_err (s : ByteArray) (wd : Int) (w : World) (E : Int) (h : ceF (numsOf s) wd = E) (h0 : (E != 0) = true) :
    Calls Try.prog 7 #[.string s, .int .i64 wd] w fun e w' => e = .returned (.tuple #[.slice none 0 0, .int .i64 E]) ∧ w = w' := by
  have := fmt_bad s wd w (by rw [h]; exact h0)
  rw [h] at this
  exact this
theorem fld_len {s : ByteArray} {k : Nat} (h : ceF (numsOf s) k = 0) : (fldS (numsOf s) k).length = k := fldS_length _ _ (by have := (ceF_zero.1 h).2.2.2; omega)

end Go.Proofs.Ytbchehpjimgapaa
