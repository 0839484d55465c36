/-
  Two entries compared; a struct in a row loaded whole.
-/
import Derived.Test.YtmbimnnacjbdfaaDoorPk06
namespace Go.Proofs.YtmbimnnacjbdfaaDoor.Flt
open Go.RowKit Go.Proofs.YtmbimnnacjbdfaaDoor.Fit

def entFs : Array Field := #[{ name := "Kind", type := 3, offset := 0, embedded := false, tag := "", pkgPath := "", byteOffset := 0 }, { name := "Path", type := 9, offset := 1, embedded := false, tag := "", pkgPath := "", byteOffset := 8 },
  { name := "Mode", type := 3, offset := 2, embedded := false, tag := "", pkgPath := "", byteOffset := 24 }, { name := "Target", type := 9, offset := 3, embedded := false, tag := "", pkgPath := "", byteOffset := 32 },
  { name := "Size", type := 2, offset := 4, embedded := false, tag := "", pkgPath := "", byteOffset := 48 }]
theorem run_eqE (k : Int) (p : ByteArray) (m : Int) (t : ByteArray) (s : Int) (k' : Int) (p' : ByteArray) (m' : Int) (t' : ByteArray) (s' : Int) (w : World) :
    (Op.equalIn 10000 44 (.agg (enV k p m t s).toArray) (.agg (enV k' p' m' t' s').toArray)).run Tryd.prog w = .ok (decide (k = k' ∧ p = p' ∧ m = m' ∧ t = t' ∧ s = s')) w := by
  have ht := Tryd.underlying44
  have hf : Tryd.prog.fieldsOf 44 = entFs := by unfold Program.fieldsOf; rw [ht]; rfl
  rw [run_equalIn_struct w 9999 44 _ _ (by rw [hf]; exact ht) (by kernel_rfl), hf]
  have u9 := Tryd.underlying9
  have u3 := Tryd.underlying3
  have u2 := Tryd.underlying2
  by_cases h1 : k = k'
  · subst h1
    by_cases h2 : p = p'
    · subst h2
      by_cases h3 : m = m'
      · subst h3
        by_cases h4 : t = t'
        · subst h4
          by_cases h5 : s = s'
          · subst h5; simp [entFs, Op.eqFields, part, isAgg, u9, u3, u2, go_sem]
          · simp [entFs, Op.eqFields, part, isAgg, u9, u3, u2, h5, go_sem]
        · have := bytes_neq h4
          simp [entFs, Op.eqFields, part, isAgg, u9, u3, u2, h4, this, go_sem]
      · simp [entFs, Op.eqFields, part, isAgg, u9, u3, u2, h3, go_sem]
    · have := bytes_neq h2
      simp [entFs, Op.eqFields, part, isAgg, u9, u3, u2, h2, this, go_sem]
  · simp [entFs, Op.eqFields, part, isAgg, u9, u3, u2, h1, go_sem]
theorem run_load_six {P : Program} {w : World} {T : TypeId} {n : Nat} (hT : ObjT P T n) (b off : Nat) (vs : List Value) (hl : vs.length = n) (hr : ∀ j u, vs[j]? = some u → w.cell? ⟨b, off + j, none⟩ = some u) :
    (loadVar T ⟨b, off, none⟩).run P w = .ok (.agg vs.toArray) w := by
  obtain ⟨⟨fs, h1⟩, hs⟩ := hT
  have hll := run_loadCells_list (P := P) w ⟨b, off, none⟩ vs (fun j u hj => by rw [add_plain']; exact hr j u hj)
  rw [hl] at hll
  cases hq : P.info? T with
  | none => simp [hq] at hs
  | some i =>
    have hs : i.size = n := by simpa [hq] using hs
    have hagg : (isAgg T).run P w = .ok true w := by
      unfold isAgg
      rw [Sem.run_bind, run_underlying h1 w]
      simp
    simp [loadVar, Sem.run_bind, hagg, sizeOf, typeInfo, hq, hs, hll]
end Go.Proofs.YtmbimnnacjbdfaaDoor.Flt
