/-
  Layer 15: what the laws' own loops need: the members before a place. No walks.
-/
import Derived.Test.YtinmkgpmoclcoaaDoorRebAlive
namespace Go.Proofs.YtinmkgpmoclcoaaDoor.Reb
open Go.RowKit Go.MapKept Go.Proofs.YtinmkgpmoclcoaaDoor.Fit Pnm Tre Flt

theorem take_next {ys : List MbS} {j : Nat} {y : MbS} (h : ys[j]? = some y) : (mms ys).take j ++ [y.n] = (mms ys).take (j + 1) := by
  obtain ⟨hj, rfl⟩ := List.getElem?_eq_some_iff.mp h
  have hm : j < (mms ys).length := by rw [mms_len]; exact hj
  have := mms_at h
  rw [List.getElem?_eq_getElem hm] at this
  rw [List.take_succ_eq_append_getElem hm, Option.some.inj this]
/-- a member of a canonical list's members is taken behind those before it -/
theorem can_add {C : List Nd} (h : Flt.Can C) {ys : List MbS} (hm : mms ys = Flt.mbs C) {j : Nat} {y : MbS} (hy : ys[j]? = some y) : adR ((mms ys).take j) y.n = 0 := by
  obtain ⟨hj, _⟩ := List.getElem?_eq_some_iff.mp hy
  have := can_gd h j (by rw [← hm, mms_len]; exact hj)
  rw [← hm, ma_some (mms_at hy)] at this
  exact this
/-- a whole member out of a row -/
theorem at_row {w : World} {b off j : Nat} {ys : List MbS} {y : MbS} (hat : MbsAt w b off ys) (hy : ys[j]? = some y) : ∀ q u, (mbV y)[q]? = some u → w.cell? ⟨b, off + j * 6 + q, none⟩ = some u := fun q u hu => hat j y hy q u hu
theorem mbR_good {l : List Nd} (h : (chk l).2 = 0) : Flt.Can (canon l) ∧ mbR l = Flt.mbs (canon l) := ⟨can_of (chk_ok.mp h), by unfold mbR; rw [if_pos h]⟩
end Go.Proofs.YtinmkgpmoclcoaaDoor.Reb
