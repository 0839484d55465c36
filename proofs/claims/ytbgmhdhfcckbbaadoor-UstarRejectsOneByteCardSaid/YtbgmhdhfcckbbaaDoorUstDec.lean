/-
  Layer 7: what Decode answers, as a value. No memory.
-/
import Derived.Test.YtbgmhdhfcckbbaaDoorUstMore
namespace Go.Proofs.YtbgmhdhfcckbbaaDoor.Ust
open Oct Cst Chk

/-- the header of nothing -/
abbrev hd0 : List Go.Value := hdV 0 { data := #[] } { data := #[] } { data := #[] } 0 0
/-- the header that Decode answers -/
def dH (zs : List Int) : List Go.Value := if deE zs = 0 then hdV (dT zs) (dNm zs) (dPf zs) (dLk zs) (dMd zs) (dSz zs) else hd0

theorem de_len {zs : List Int} (h : zs.length ≠ 512) : deE zs = 2 ∧ dH zs = hd0 := by
  have e : deE zs = 2 := by unfold deE; rw [if_pos h]
  exact ⟨e, by unfold dH; rw [if_neg (by rw [e]; decide)]⟩
theorem de_ver {zs : List Int} (h : zs.length = 512) (hv : ¬ zs = sealZ zs) : deE zs = 9 ∧ dH zs = hd0 := by
  have e : deE zs = 9 := by unfold deE; rw [if_neg (by simp [h]), if_pos hv]
  exact ⟨e, by unfold dH; rw [if_neg (by rw [e]; decide)]⟩
theorem de_kind {zs : List Int} (h : zs.length = 512) (hv : zs = sealZ zs) (hk : ¬ known (dT zs)) : deE zs = 8 ∧ dH zs = hd0 := by
  have e : deE zs = 8 := by unfold deE; rw [if_neg (by simp [h]), if_neg (not_not_intro hv), if_pos hk]
  exact ⟨e, by unfold dH; rw [if_neg (by rw [e]; decide)]⟩
theorem de_syn {zs : List Int} (h : zs.length = 512) (hv : zs = sealZ zs) (hk : known (dT zs)) (ho : ¬ dOk zs) : deE zs = 6 ∧ dH zs = hd0 := by
  have e : deE zs = 6 := by unfold deE; rw [if_neg (by simp [h]), if_neg (not_not_intro hv), if_neg (not_not_intro hk), if_neg ho]
  exact ⟨e, by unfold dH; rw [if_neg (by rw [e]; decide)]⟩
theorem de_good {zs : List Int} (h : zs.length = 512) (hv : zs = sealZ zs) (hk : known (dT zs)) (ho : dOk zs) : deE zs = 0 ∧ dH zs = hdV (dT zs) (dNm zs) (dPf zs) (dLk zs) (dMd zs) (dSz zs) := by
  have e : deE zs = 0 := by unfold deE; rw [if_neg (by simp [h]), if_neg (not_not_intro hv), if_neg (not_not_intro hk), if_pos ho]
  exact ⟨e, by unfold dH; rw [if_pos e]⟩
end Go.Proofs.YtbgmhdhfcckbbaaDoor.Ust
