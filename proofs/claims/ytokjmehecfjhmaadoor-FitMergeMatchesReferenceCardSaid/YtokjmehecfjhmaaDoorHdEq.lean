/-
  Layer 7: two headers are compared.
-/
import Derived.Test.YtokjmehecfjhmaaDoorRows
import Derived.Test.YtokjmehecfjhmaaDoorUstMath
import Derived.Test.YtokjmehecfjhmaaDoorSObj
namespace Go.Proofs.YtokjmehecfjhmaaDoor.Ust
open Go.RowKit

def hdFs : Array Field := #[{ name := "Type", type := 5, offset := 0, embedded := false, tag := "", pkgPath := "", byteOffset := 0 }, { name := "Name", type := 9, offset := 1, embedded := false, tag := "", pkgPath := "", byteOffset := 8 },
  { name := "Prefix", type := 9, offset := 2, embedded := false, tag := "", pkgPath := "", byteOffset := 24 }, { name := "Linkname", type := 9, offset := 3, embedded := false, tag := "", pkgPath := "", byteOffset := 40 },
  { name := "Mode", type := 3, offset := 4, embedded := false, tag := "", pkgPath := "", byteOffset := 56 }, { name := "Size", type := 2, offset := 5, embedded := false, tag := "", pkgPath := "", byteOffset := 64 }]

theorem bytes_ne {s t : ByteArray} (h : ¬ s = t) : (s.toList == t.toList) = false := by
  rw [beq_eq_false_iff_ne]
  exact fun e => h (by
    apply ByteArray.ext
    apply Array.ext'
    rw [ByteArray.toList_eq, ByteArray.toList_eq] at e
    exact e)

theorem run_eqH (t : TypeId) (ht : Tryd.prog.underlying t = some (.struct hdFs)) (hp : Tryd.prog.stoodInHeld t = false) (T : Int) (nm pf lk : ByteArray) (md sz : Int) (T' : Int) (nm' pf' lk' : ByteArray) (md' sz' : Int) (w : World) :
    (Op.equalIn 10000 t (.agg (hdV T nm pf lk md sz).toArray) (.agg (hdV T' nm' pf' lk' md' sz').toArray)).run Tryd.prog w = .ok (decide (T = T' ∧ nm = nm' ∧ pf = pf' ∧ lk = lk' ∧ md = md' ∧ sz = sz')) w := by
  have hf : Tryd.prog.fieldsOf t = hdFs := by unfold Program.fieldsOf; rw [ht]
  rw [run_equalIn_struct w 9999 t _ _ (by rw [hf]; exact ht) hp, hf]
  have u5 := Tryd.underlying5
  have u9 := Tryd.underlying9
  have u3 := Tryd.underlying3
  have u2 := Tryd.underlying2
  by_cases h1 : T = T'
  · subst h1
    by_cases h2 : nm = nm'
    · subst h2
      by_cases h3 : pf = pf'
      · subst h3
        by_cases h4 : lk = lk'
        · subst h4
          by_cases h5 : md = md'
          · subst h5
            by_cases h6 : sz = sz'
            · subst h6; simp [hdFs, Op.eqFields, part, isAgg, u5, u9, u3, u2, go_sem]
            · simp [hdFs, Op.eqFields, part, isAgg, u5, u9, u3, u2, h6, go_sem]
          · simp [hdFs, Op.eqFields, part, isAgg, u5, u9, u3, u2, h5, go_sem]
        · have := bytes_ne h4
          simp [hdFs, Op.eqFields, part, isAgg, u5, u9, u3, u2, h4, this, go_sem]
      · have := bytes_ne h3
        simp [hdFs, Op.eqFields, part, isAgg, u5, u9, u3, u2, h3, this, go_sem]
    · have := bytes_ne h2
      simp [hdFs, Op.eqFields, part, isAgg, u5, u9, u3, u2, h2, this, go_sem]
  · simp [hdFs, Op.eqFields, part, isAgg, u5, u9, u3, u2, h1, go_sem]
end Go.Proofs.YtokjmehecfjhmaaDoor.Ust
