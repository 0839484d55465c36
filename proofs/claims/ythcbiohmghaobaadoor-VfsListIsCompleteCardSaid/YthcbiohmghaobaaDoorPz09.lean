/-
  Layer 10: plain mathematics: entries, where their values are placed, what Merge composes. No memory.
-/
import Derived.Test.YthcbiohmghaobaaDoorPz01
import Derived.Test.YthcbiohmghaobaaDoorPnmMath
import Derived.Deep.RegionHeld3
import Derived.Test.YthcbiohmghaobaaDoorRows
import Derived.Test.YthcbiohmghaobaaDoorPz04
namespace Go.Proofs.YthcbiohmghaobaaDoor.Fit
open Go.Lib Go.RowKit Pxr Pnm

/-- an entry -/
structure Ent where
  k : Int
  p : ByteArray
  m : Int
  t : ByteArray
  s : Int
/-- a header -/
structure Hd where
  T : Int
  nm : ByteArray
  pf : ByteArray
  lk : ByteArray
  md : Int
  sz : Int
abbrev emp : ByteArray := { data := #[] }

def tyZ (k : Int) : Int := if k = 0 then 53 else if k = 1 then 48 else if k = 2 then 50 else 49
def kdZ (T : Int) : Int := if T = 53 then 0 else if T = 48 then 1 else if T = 50 then 2 else if T = 49 then 3 else -1
theorem kd_ty {k : Int} (h0 : 0 ≤ k) (h4 : k < 4) : kdZ (tyZ k) = k := by
  rcases (show k = 0 ∨ k = 1 ∨ k = 2 ∨ k = 3 by omega) with rfl | rfl | rfl | rfl <;> decide
theorem ty_known {k : Int} (h0 : 0 ≤ k) (h4 : k < 4) : tyZ k = 53 ∨ tyZ k = 48 ∨ tyZ k = 50 ∨ tyZ k = 49 := by
  rcases (show k = 0 ∨ k = 1 ∨ k = 2 ∨ k = 3 by omega) with rfl | rfl | rfl | rfl <;> decide

/-! Check -/
def tgE (k : Int) (t : ByteArray) : Int := if k = 2 then chkT t else if k = 3 then chE (numsOf t) else if t = emp then 0 else 2
def szE (k s : Int) : Int := if k = 1 then (if s < 0 ∨ 1099511627776 < s then 3 else 0) else if s = 0 then 0 else 2
def ckE (e : Ent) : Int :=
  if e.k < 0 ∨ 4 ≤ e.k then 8 else if chE (numsOf e.p) ≠ 0 then chE (numsOf e.p) else if e.m < 0 ∨ 4095 < e.m ∨ (e.k = 2 ∧ e.m ≠ 0) then 16 else
    if tgE e.k e.t ≠ 0 then tgE e.k e.t else szE e.k e.s

structure Ok (e : Ent) : Prop where
  k0 : 0 ≤ e.k
  k4 : e.k < 4
  path : chE (numsOf e.p) = 0
  m0 : 0 ≤ e.m
  m1 : e.m ≤ 4095
  mS : e.k = 2 → e.m = 0
  tg : tgE e.k e.t = 0
  sz : szE e.k e.s = 0
theorem ck_ok {e : Ent} : ckE e = 0 ↔ Ok e := by
  unfold ckE
  constructor
  · intro h
    by_cases h1 : e.k < 0 ∨ 4 ≤ e.k
    · rw [if_pos h1] at h; omega
    · rw [if_neg h1] at h
      by_cases h2 : chE (numsOf e.p) ≠ 0
      · rw [if_pos h2] at h; exact absurd h h2
      · rw [if_neg h2] at h
        by_cases h3 : e.m < 0 ∨ 4095 < e.m ∨ (e.k = 2 ∧ e.m ≠ 0)
        · rw [if_pos h3] at h; omega
        · rw [if_neg h3] at h
          by_cases h4 : tgE e.k e.t ≠ 0
          · rw [if_pos h4] at h; exact absurd h h4
          · rw [if_neg h4] at h
            exact ⟨by omega, by omega, Decidable.byContradiction h2, by omega, by omega, by omega, Decidable.byContradiction h4, h⟩
  · intro h
    have := h.k0; have := h.k4; have := h.m0; have := h.m1; have := h.mS
    rw [if_neg (by omega), if_neg (by rw [h.path]; simp), if_neg (by omega), if_neg (by rw [h.tg]; simp)]
    exact h.sz

theorem emp_size {t : ByteArray} : t = emp ↔ t.size = 0 := by
  constructor
  · rintro rfl; rfl
  · intro h; exact ByteArray.ext (Array.eq_empty_of_size_eq_zero h)
theorem path_pos {p : ByteArray} (h : chE (numsOf p) = 0) : p ≠ emp ∧ p.size ≤ 65536 := by
  obtain ⟨h1, h2⟩ := chE_zero.1 h
  rw [numsOf_length] at h1
  refine ⟨?_, h1⟩
  rintro rfl
  have := (h2 [] (by rw [show numsOf emp = [] from rfl]; exact List.mem_cons_self)).1
  exact this rfl
theorem first_at {x : Int} : ∀ {zs : List Int}, x ∈ zs → ∃ a c, zs = a ++ x :: c ∧ x ∉ a
  | [], h => by cases h
  | y :: r, h => by
    by_cases hy : y = x
    · exact ⟨[], r, by rw [hy]; rfl, by simp⟩
    · rcases List.mem_cons.1 h with e | h'
      · exact absurd e.symm hy
      · obtain ⟨a, c, e, ha⟩ := first_at h'
        refine ⟨y :: a, c, by rw [e]; rfl, ?_⟩
        rw [List.mem_cons]
        rintro (e' | e')
        · exact hy e'.symm
        · exact ha e'
theorem path_nozero : ∀ {zs : List Int}, pathOk zs → (0 : Int) ∉ zs := by
  intro zs
  induction hn : zs.length using Nat.strongRecOn generalizing zs with
  | _ n ih =>
    intro h
    by_cases h47 : (47 : Int) ∈ zs
    · obtain ⟨a, c, rfl, ha⟩ := first_at h47
      obtain ⟨p1, p2⟩ := (pathOk_app a c).1 h
      have i1 := ((pathOk_one ha).1 p1).2.2.2
      have i2 := ih c.length (by rw [← hn, List.length_append, List.length_cons]; omega) rfl p2
      rw [List.mem_append, List.mem_cons]
      rintro (h' | h' | h')
      · exact i1 h'
      · omega
      · exact i2 h'
    · exact ((pathOk_one h47).1 h).2.2.2
/-- what a target can be -/
theorem tg_cases {k : Int} {t : ByteArray} (h : tgE k t = 0) : t.size ≤ 65536 ∧ ((k ≠ 2 ∧ k ≠ 3 ∧ t = emp) ∨ ((k = 2 ∨ k = 3) ∧ t ≠ emp)) ∧ (t = emp ∨ chkT t = 0) := by
  unfold tgE at h
  by_cases h2 : k = 2
  · rw [if_pos h2] at h
    have h' := h
    unfold chkT at h
    by_cases hv : 65536 < t.size
    · rw [if_pos hv] at h; omega
    · rw [if_neg hv] at h
      by_cases he : t.size = 0 ∨ (0 : Int) ∈ numsOf t
      · rw [if_pos he] at h; omega
      · exact ⟨by omega, .inr ⟨.inl h2, fun e => he (.inl (emp_size.1 e))⟩, .inr h'⟩
  · rw [if_neg h2] at h
    by_cases h3 : k = 3
    · rw [if_pos h3] at h
      obtain ⟨a, b⟩ := path_pos h
      refine ⟨b, .inr ⟨.inr h3, a⟩, .inr ?_⟩
      unfold chkT
      rw [if_neg (by omega), if_neg]
      rintro (e | e)
      · exact a (emp_size.2 e)
      · exact absurd e (path_nozero (chE_zero.1 h).2)
    · rw [if_neg h3] at h
      by_cases ht : t = emp
      · subst ht; exact ⟨by decide, .inl ⟨h2, h3, rfl⟩, .inl rfl⟩
      · rw [if_neg ht] at h; omega
theorem sz_cases {k s : Int} (h : szE k s = 0) : 0 ≤ s ∧ s ≤ 1099511627776 ∧ (k ≠ 1 → s = 0) := by
  unfold szE at h
  by_cases h1 : k = 1
  · rw [if_pos h1] at h
    by_cases h2 : s < 0 ∨ 1099511627776 < s
    · rw [if_pos h2] at h; omega
    · omega
  · rw [if_neg h1] at h
    by_cases h2 : s = 0
    · omega
    · rw [if_neg h2] at h; omega
end Go.Proofs.YthcbiohmghaobaaDoor.Fit
/-
  A drawn region walked by hand: another condition on the world from some point on. Nothing of the program.
-/
namespace Go.Proofs.YthcbiohmghaobaaDoor
open Go


theorem wpAnyH_switch {P : Program} {md : Region.Mode} {ops : Array Oper} {Q : Exit → Act → World → Prop} {S S2 : World → Prop} (hs : ∀ w, S2 w → S w) :
    ∀ {fuel : Nat} {listed : Array Bool} {a : Act} {w : World}, wpAnyH P md ops Q S2 fuel listed a w → wpAnyH P md ops Q S fuel listed a w
  | 0, _, _, _, h => h
  | _ + 1, _, _, _, h => ⟨h.1, fun i hi => wpOp_mono (fun _ _ h' => ⟨hs _ h'.1, wpAnyH_switch hs h'.2⟩) (h.2 i hi)⟩
end Go.Proofs.YthcbiohmghaobaaDoor
/-
  Layer 10: an entry as a value.
-/
namespace Go.Proofs.YthcbiohmghaobaaDoor.Fit
open Go.RowKit Pxr Pnm

/-- an entry as a value -/
abbrev enV (k : Int) (p : ByteArray) (m : Int) (t : ByteArray) (s : Int) : List Value := [.int .i64 k, .string p, .int .i64 m, .string t, .int .i64 s]
theorem en_one (k : Int) (p : ByteArray) (m : Int) (t : ByteArray) (s : Int) : ∀ v ∈ enV k p m t s, v.oneCell' = true := by simp [Value.oneCell']
theorem sStr : (Tryd.prog.info? 9).map (·.size) = some 1 := by kernel_rfl
theorem sI64 : (Tryd.prog.info? 2).map (·.size) = some 1 := by kernel_rfl
theorem sInt : (Tryd.prog.info? 3).map (·.size) = some 1 := by kernel_rfl
end Go.Proofs.YthcbiohmghaobaaDoor.Fit
/-
  Layer 19: two Infos compared. (gen_VfsEq.py writes it.)
-/
namespace Go.Proofs.YthcbiohmghaobaaDoor.Vfs
open Go.RowKit Go.Proofs.YthcbiohmghaobaaDoor.Fit

def infFs : Array Field := #[{ name := "Kind", type := 3, offset := 0, embedded := false, tag := "", pkgPath := "", byteOffset := 0 }, { name := "Mode", type := 3, offset := 1, embedded := false, tag := "", pkgPath := "", byteOffset := 8 }, { name := "Inode", type := 3, offset := 2, embedded := false, tag := "", pkgPath := "", byteOffset := 16 }, { name := "Links", type := 3, offset := 3, embedded := false, tag := "", pkgPath := "", byteOffset := 24 }, { name := "Size", type := 2, offset := 4, embedded := false, tag := "", pkgPath := "", byteOffset := 32 }, { name := "Target", type := 9, offset := 5, embedded := false, tag := "", pkgPath := "", byteOffset := 40 }, { name := "Uid", type := 3, offset := 6, embedded := false, tag := "", pkgPath := "", byteOffset := 56 }, { name := "Mtime", type := 2, offset := 7, embedded := false, tag := "", pkgPath := "", byteOffset := 64 }]
theorem run_eqI (k : Int) (m : Int) (num : Int) (l : Int) (sz : Int) (t : ByteArray) (u : Int) (mt : Int) (k' : Int) (m' : Int) (num' : Int) (l' : Int) (sz' : Int) (t' : ByteArray) (u' : Int) (mt' : Int) (w : World) :
    (Op.equalIn 10000 52 (.agg (infL k m num l sz t u mt).toArray) (.agg (infL k' m' num' l' sz' t' u' mt').toArray)).run Tryd.prog w = .ok (decide (k = k' ∧ m = m' ∧ num = num' ∧ l = l' ∧ sz = sz' ∧ t = t' ∧ u = u' ∧ mt = mt')) w := by
  have ht := Tryd.underlying52
  have hf : Tryd.prog.fieldsOf 52 = infFs := by unfold Program.fieldsOf; rw [ht]; rfl
  rw [run_equalIn_struct w 9999 52 _ _ (by rw [hf]; exact ht) (by kernel_rfl), hf]
  have u9 := Tryd.underlying9
  have u3 := Tryd.underlying3
  have u2 := Tryd.underlying2
  by_cases h0 : k = k'
  · subst h0
    by_cases h1 : m = m'
    · subst h1
      by_cases h2 : num = num'
      · subst h2
        by_cases h3 : l = l'
        · subst h3
          by_cases h4 : sz = sz'
          · subst h4
            by_cases h5 : t = t'
            · subst h5
              by_cases h6 : u = u'
              · subst h6
                by_cases h7 : mt = mt'
                · subst h7
                  simp [infFs, Op.eqFields, part, isAgg, u9, u3, u2, go_sem]
                · simp [infFs, Op.eqFields, part, isAgg, u9, u3, u2, h7, go_sem]
              · simp [infFs, Op.eqFields, part, isAgg, u9, u3, u2, h6, go_sem]
            · have := bytes_neq h5
              simp [infFs, Op.eqFields, part, isAgg, u9, u3, u2, h5, this, go_sem]
          · simp [infFs, Op.eqFields, part, isAgg, u9, u3, u2, h4, go_sem]
        · simp [infFs, Op.eqFields, part, isAgg, u9, u3, u2, h3, go_sem]
      · simp [infFs, Op.eqFields, part, isAgg, u9, u3, u2, h2, go_sem]
    · simp [infFs, Op.eqFields, part, isAgg, u9, u3, u2, h1, go_sem]
  · simp [infFs, Op.eqFields, part, isAgg, u9, u3, u2, h0, go_sem]
end Go.Proofs.YthcbiohmghaobaaDoor.Vfs
