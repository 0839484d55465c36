/-
  Layer 7: the kinds that are not known.
-/
import Derived.Test.YtokjmehecfjhmaaDoorUstMath
import Derived.Test.YtokjmehecfjhmaaDoorSObj
namespace Go.Proofs.YtokjmehecfjhmaaDoor.Ust
open Go.RowKit
open Oct Cst Chk

theorem known_not {T : Int} (h : ¬ known T) : (T == 48) = false ∧ (T == 49) = false ∧ (T == 50) = false ∧ (T == 53) = false ∧ (T == 120) = false := by
  unfold known at h
  simp only [not_or] at h
  obtain ⟨h1, h2, h3, h4, h5⟩ := h
  simp [h1, h2, h3, h4, h5]
end Go.Proofs.YtokjmehecfjhmaaDoor.Ust
