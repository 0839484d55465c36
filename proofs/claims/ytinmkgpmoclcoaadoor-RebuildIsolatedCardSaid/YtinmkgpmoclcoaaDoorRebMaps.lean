/-
  Layer 15: maps from paths to what was taken: directories, files. No memory.
-/
import Derived.Test.YtinmkgpmoclcoaaDoorPz07
import Derived.Test.YtinmkgpmoclcoaaDoorPz05
namespace Go.Proofs.YtinmkgpmoclcoaaDoor.Reb
open Go.RowKit Go.Proofs.YtinmkgpmoclcoaaDoor.Fit Pnm Tre Flt

theorem fnd_snoc (A : List Mb) (x : Mb) (k : Int) (p : ByteArray) : fnd (A ++ [x]) k p = match fnd A k p with | some r => some r | none => if x.e.k = k ∧ x.e.p = p then some A.length else none := by
  cases h : fnd A k p with
  | some r =>
    obtain ⟨h1, h2, h3, h4⟩ := fnd_some.mp h
    exact fnd_some.mpr ⟨by rw [List.length_append]; exact Nat.lt_of_lt_of_le h1 (Nat.le_add_right _ _), by rw [ma_app _ h1]; exact h2, by rw [ma_app _ h1]; exact h3, fun i hi => by rw [ma_app _ (Nat.lt_trans hi h1)]; exact h4 i hi⟩
  | none =>
    have hn := fnd_none.mp h
    show _ = if _ then _ else _
    by_cases c : x.e.k = k ∧ x.e.p = p
    · rw [if_pos c]
      exact fnd_some.mpr ⟨by simp, by rw [ma_last]; exact c.1, by rw [ma_last]; exact c.2, fun i hi => by rw [ma_app _ hi]; exact hn i hi⟩
    · rw [if_neg c]
      refine fnd_none.mpr fun i hi => ?_
      rw [List.length_append, List.length_singleton] at hi
      by_cases e : i < A.length
      · rw [ma_app _ e]; exact hn i e
      · obtain rfl : i = A.length := by omega
        rw [ma_last]; exact c
/-- the map says of each path where the first member of kind k lies, as a value -/
def Fm (F : Value → Option Value) (A : List Mb) (k : Int) (V : Nat → Value) : Prop := ∀ p, F (.string p) = (fnd A k p).map V
theorem Fm.nil (k : Int) (V : Nat → Value) : Fm (fun _ => none) [] k V := fun _ => rfl
theorem Fm.stay {F : Value → Option Value} {A : List Mb} {k : Int} {V : Nat → Value} (h : Fm F A k V) {x : Mb} (hx : x.e.k ≠ k) : Fm F (A ++ [x]) k V := fun p => by
  rw [h p, fnd_snoc]
  cases fnd A k p with
  | some r => rfl
  | none => show _ = Option.map V (if _ then _ else _); rw [if_neg fun c => hx c.1, Option.map_none]
theorem Fm.add {F : Value → Option Value} {A : List Mb} {k : Int} {V : Nat → Value} (h : Fm F A k V) {x : Mb} (hx : x.e.k = k) (hn : fnd A k x.e.p = none) : Fm (upd F (.string x.e.p) (V A.length)) (A ++ [x]) k V := fun p => by
  rw [fnd_snoc]
  by_cases e : p = x.e.p
  · subst e
    rw [upd_same, hn]
    show _ = Option.map V (if _ then _ else _)
    rw [if_pos ⟨hx, rfl⟩]; rfl
  · rw [upd_ne (fun c => e (by injection c)), h p]
    cases fnd A k p with
    | some r => rfl
    | none => show _ = Option.map V (if _ then _ else _); rw [if_neg fun c => e c.2.symm, Option.map_none]
/-- the same value for all: a set -/
theorem Fm.set {F : Value → Option Value} {A : List Mb} {k : Int} {v : Value} (h : Fm F A k fun _ => v) {x : Mb} (hx : x.e.k = k) : Fm (upd F (.string x.e.p) v) (A ++ [x]) k fun _ => v := fun p => by
  rw [fnd_snoc]
  by_cases e : p = x.e.p
  · subst e
    rw [upd_same]
    cases fnd A k x.e.p with
    | some r => rfl
    | none => show _ = Option.map _ (if _ then _ else _); rw [if_pos ⟨hx, rfl⟩]; rfl
  · rw [upd_ne (fun c => e (by injection c)), h p]
    cases fnd A k p with
    | some r => rfl
    | none => show _ = Option.map _ (if _ then _ else _); rw [if_neg fun c => e c.2.symm, Option.map_none]
/-- a member that is taken comes behind all others: its path is new -/
theorem Gd.new {A : List Mb} {x : Mb} (h : Gd A) (hx : chR A x.e = 0) (k : Int) : fnd A k x.e.p = none := by
  refine fnd_none.mpr fun i hi hc => ?_
  have hl := (chR_zero.mp hx).2.1
  have h1 : cmpZ (numsOf (ma A (A.length - 1)).e.p) (numsOf x.e.p) < 0 := by
    refine Decidable.not_not.mp fun hn => hl ⟨by omega, by omega⟩
  rw [← hc.2] at h1
  by_cases e : i = A.length - 1
  · rw [← e, (cmp_eq _ _).mpr rfl] at h1
    exact absurd h1 (by omega)
  · have h2 := h.lt (i := i) (j := A.length - 1) (by omega) (by omega)
    rw [cmp_neg] at h1
    rw [h2] at h1
    exact absurd h1 (by omega)
theorem ndOf_snoc {A : List Mb} {x : Mb} {i : Nat} (h : Gd A) (hi : i < A.length) : ndOf (A ++ [x]) i = ndOf A i := by
  unfold ndOf
  rw [ma_app _ hi]
  by_cases k3 : (ma A i).e.k = 3
  · obtain ⟨r, hr, _, _, _, hf⟩ := h.file hi k3
    have hs : fnd (A ++ [x]) 1 (ma A i).e.t = some r := by rw [fnd_snoc, hf]
    rw [if_pos k3, if_pos k3, hs, hf]
    dsimp only
    rw [ma_app _ (Nat.lt_trans hr hi)]
  · rw [if_neg k3, if_neg k3]
/-- the nodes, when one more member is taken -/
theorem ndsOf_snoc {A : List Mb} {x : Mb} (h : Gd A) : ndsOf (A ++ [x]) = ndsOf A ++ [ndOf (A ++ [x]) A.length] := by
  unfold ndsOf
  rw [List.length_append, List.length_singleton, List.range_succ, List.map_append]
  congr 1
  refine List.map_congr_left fun i hi => ndOf_snoc h (List.mem_range.mp hi)
/-- the new node -/
theorem ndOf_new {A : List Mb} {x : Mb} : ndOf (A ++ [x]) A.length = if x.e.k = 3 then (match fnd A 1 x.e.t with | some r => ⟨1, x.e.p, x.e.m, emp, (ma A r).d, (r : Int) + 1⟩ | none => nd0) else ⟨x.e.k, x.e.p, x.e.m, x.e.t, x.d, if x.e.k = 1 then (A.length : Int) + 1 else 0⟩ := by
  unfold ndOf
  rw [ma_last]
  by_cases k3 : x.e.k = 3
  · have hs : fnd (A ++ [x]) 1 x.e.t = fnd A 1 x.e.t := by
      rw [fnd_snoc]
      cases fnd A 1 x.e.t with
      | some r => rfl
      | none => show (if _ then _ else _) = _; rw [if_neg (by rw [k3]; exact fun c => absurd c.1 (by decide))]
    rw [if_pos k3, if_pos k3, hs]
    cases h : fnd A 1 x.e.t with
    | some r => show (⟨_, _, _, _, _, _⟩ : Nd) = ⟨_, _, _, _, _, _⟩; rw [ma_app _ (fnd_some.mp h).1]
    | none => rfl
  · rw [if_neg k3, if_neg k3]
end Go.Proofs.YtinmkgpmoclcoaaDoor.Reb
