/-
  Layer 9: a record as a variable.
-/
import Derived.Test.YtokjmehecfjhmaaDoorPxrSize
import Derived.Test.YtokjmehecfjhmaaDoorSObj
namespace Go.Proofs.YtokjmehecfjhmaaDoor.Pxr
open Go.RowKit

def rz : List Value := [.string { data := #[] }, .string { data := #[] }]
theorem recZ : (Tryd.prog.info? 38).map (·.zero) = some (some (.agg rz.toArray)) := by kernel_rfl
theorem recO : ObjT Tryd.prog 38 2 := ⟨⟨_, Tryd.underlying38⟩, by kernel_rfl⟩
theorem rz_one : ∀ v ∈ rz, v.oneCell' = true := by simp [rz, Value.oneCell']
theorem rec_one (k v : ByteArray) : ∀ x ∈ [Value.string k, Value.string v], x.oneCell' = true := by simp [Value.oneCell']
theorem get_some {rs : List Rec} {j : Nat} (h : j < rs.length) : ∃ r, rs[j]? = some r := ⟨rs[j], List.getElem?_eq_getElem h⟩
theorem recI : ∃ i0, Hid (Tryd.prog.info? 38 = some i0 ∧ i0.zero = some (.agg rz.toArray) ∧ i0.size = 2 ∧ i0.bytes = 32 ∧ (Value.agg rz.toArray).cells.size = 2) := by
  have h : (Tryd.prog.info? 38).map (fun i => (i.zero, i.size, i.bytes)) = some (some (.agg rz.toArray), 2, 32) := by kernel_rfl
  cases hq : Tryd.prog.info? 38 with
  | none => simp [hq] at h
  | some i => simp [hq] at h; exact ⟨i, rfl, h.1, h.2.1, h.2.2, rfl⟩
theorem recJ : (Tryd.prog.info? 38).map (fun i => (i.zero, i.size)) = some (some (.agg rz.toArray), 2) := by kernel_rfl
end Go.Proofs.YtokjmehecfjhmaaDoor.Pxr
