/-
  Strings made of one byte, again and again.
-/
import Derived.Test.YtbchehpjimgapaaCstAlive
import Derived.Test.YtbchehpjimgapaaShelf
namespace Go.Proofs.Ytbchehpjimgapaa
open Go.RowKit

theorem nums_rep (x : UInt8) (c : Nat) : numsOf ⟨(Lib.repeatL [x] c).toArray⟩ = List.replicate c (x.toNat : Int) := by
  have : ∀ c, Lib.repeatL [x] c = List.replicate c x := by
    intro c
    induction c with
    | zero => rfl
    | succ c ih => rw [Lib.repeatL, ih]; rfl
  rw [numsOf_eq, this]
  simp

theorem fits_is (s : ByteArray) (wd : Int) (w : World) (b : Bool) (h : (ceF (numsOf s) wd == 0) = b) :
    Calls Try.prog 9 #[.string s, .int .i64 wd] w fun e w' => e = .returned (.bool b) ∧ w = w' := by
  have := fits_any s wd w
  rw [h] at this
  exact this
theorem fmt_err (s : ByteArray) (wd : Int) (w : World) (E : Int) (h : ceF (numsOf s) wd = E) (h0 : (E != 0) = true) :
    Calls Try.prog 7 #[.string s, .int .i64 wd] w fun e w' => e = .returned (.tuple #[.slice none 0 0, .int .i64 E]) ∧ w = w' := by
  have := fmt_bad s wd w (by rw [h]; exact h0)
  rw [h] at this
  exact this
theorem fld_len {s : ByteArray} {k : Nat} (h : ceF (numsOf s) k = 0) : (fldS (numsOf s) k).length = k := fldS_length _ _ (by have := (ceF_zero.1 h).2.2.2; omega)


theorem strOfNums_app (l m : List Int) : strOfNums l ++ strOfNums m = strOfNums (l ++ m) := by
  apply ByteArray.ext
  rw [ByteArray.data_append]
  simp [strOfNums]

theorem rep_nul (n : Int) (w : World) (h0 : 0 ≤ n) (h1 : n ≤ 65536) :
    Calls Try.prog 11 #[.string ⟨#[0]⟩, .int .i64 n] w fun e w' => e = .returned (.string (strOfNums (List.replicate n.toNat 0))) ∧ Below w.heap.size w w' := by
  obtain ⟨c, rfl⟩ : ∃ c : Nat, n = c := ⟨n.toNat, by omega⟩
  have h := Try.strings_Repeat ⟨#[0]⟩ c w (by omega) (by show 1 * c ≤ _; omega)
  have e : (⟨(Lib.repeatL (⟨#[0]⟩ : ByteArray).data.toList c).toArray⟩ : ByteArray) = strOfNums (List.replicate (c : Int).toNat 0) := by
    rw [show (⟨#[0]⟩ : ByteArray).data.toList = [0] from rfl, ← strOfNums_numsOf ⟨(Lib.repeatL [0] c).toArray⟩, nums_rep 0 c]
    rfl
  rw [e] at h
  exact h

end Go.Proofs.Ytbchehpjimgapaa
