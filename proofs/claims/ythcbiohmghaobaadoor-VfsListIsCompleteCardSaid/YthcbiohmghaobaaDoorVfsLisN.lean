/-
  Layer 19, plain mathematics: directories stay directories; what a listing holds. No memory.
-/
import Derived.Test.YthcbiohmghaobaaDoorVfsLisM
import Derived.Test.YthcbiohmghaobaaDoorVfsIsS
import Derived.Test.YthcbiohmghaobaaDoorVfsList
namespace Go.Proofs.YthcbiohmghaobaaDoor.Vfs
open Go.RowKit Go.Proofs.YthcbiohmghaobaaDoor.Pnm Hep

/-- the path of a directory -/
def IsDir (s : St) (p : ByteArray) : Prop := ∃ i, fnd s.ps p = some i ∧ (s.at i).k = 0
section
variable {N : Nat} {F S : Int} {s : St}
theorem dir_more {s s' : St} {p q : ByteArray} {i : Nat} (h : IsDir s q) (hps : s'.ps = s.ps ++ [(p, i)]) (hk : ∀ k, k < s.is.length → (s'.at k).k = (s.at k).k) (hw : Wf N s) : IsDir s' q := by
  obtain ⟨j, h1, h2⟩ := h
  refine ⟨j, ?_, by rw [hk j (hw.lt h1)]; exact h2⟩
  rw [hps, fnd_snoc, h1]
theorem IsDir.mks {q : ByteArray} (h : IsDir s q) (g : Gd N F S s) (k m : Int) (p t : ByteArray) (d : List Int) : IsDir (mkS F S s k p m d t) q := by
  by_cases he : mkE s k p m t ≠ 0
  · rw [mkS_bad he]; exact h
  have he := Decidable.not_not.mp he
  rw [mkS_of he]
  obtain ⟨j, hj, _, _⟩ := plc_zero (mk_zero he).2
  exact dir_more h (newS_ps ..) (fun i hi => by rw [newS_at hj (g.wf.lt hj) hi]) g.wf
theorem IsDir.lnk {q : ByteArray} (h : IsDir s q) (g : Gd N F S s) (p t : ByteArray) : IsDir (lnkS s p t) q := by
  by_cases he : lnkE s p t ≠ 0
  · rw [lnkS_bad he]; exact h
  have he := Decidable.not_not.mp he
  obtain ⟨_, h2, i, h3, _⟩ := lnk_zero he
  obtain ⟨j, hj, _, _⟩ := plc_zero h2
  rw [lnkS_of he h3]
  exact dir_more h (putS_ps ..) (fun k hk => by rw [putS_at (g.wf.lt h3) hj (g.wf.lt hj) hk]) g.wf
theorem IsDir.ch {q : ByteArray} (h : IsDir s q) (g : Gd N F S s) (p : ByteArray) (u mt : Int) : IsDir (chS s p u mt) q := by
  cases hf : fnd s.ps p with
  | none => rw [chS_bad hf]; exact h
  | some i =>
    rw [chS_of hf]
    obtain ⟨j, h1, h2⟩ := h
    refine ⟨j, h1, ?_⟩
    by_cases c : i = j
    · subst c; rw [at_set (g.wf.lt hf)]; exact h2
    · rw [at_ne c]; exact h2
theorem IsDir.doS {q : ByteArray} (h : IsDir s q) (g : Gd N F S s) (a : Va) : IsDir (doS F S s a) q := by
  unfold Vfs.doS
  by_cases h0 : a.k = 0
  · rw [if_pos h0]; exact h.mks g ..
  rw [if_neg h0]
  by_cases h1 : a.k = 1
  · rw [if_pos h1]; exact h.mks g ..
  rw [if_neg h1]
  by_cases h2 : a.k = 2
  · rw [if_pos h2]; exact h.mks g ..
  rw [if_neg h2]
  by_cases h3 : a.k = 3
  · rw [if_pos h3]; exact h.mks g ..
  rw [if_neg h3]
  by_cases h4 : a.k = 4
  · rw [if_pos h4]; exact h.lnk g ..
  rw [if_neg h4]
  by_cases h5 : a.k = 5
  · rw [if_pos h5]; exact h.ch g ..
  rw [if_neg h5]; exact h
theorem dir0 (F : Int) : IsDir (st0 F) ⟨#[]⟩ := ⟨0, by show fnd [_] _ = _; unfold fnd; rw [if_pos rfl], rfl⟩
/-- what Lstat answers of a directory's path -/
theorem dir_of {p : ByteArray} (h : chE' s p = 0) (hk : (stV s p)[0]? = some (.int .i64 0)) : IsDir s p := by
  unfold chE' at h
  unfold stV at hk
  cases hf : fnd s.ps p with
  | none => rw [hf] at h; cases h
  | some i =>
    rw [hf] at hk
    refine ⟨i, hf, ?_⟩
    have := Option.some.inj hk
    injection this
/-- the names of a directory -/
noncomputable def nmsD (s : St) (p : ByteArray) : List ByteArray := match fnd s.ps p with
  | none => []
  | some i => (s.at i).ns
theorem ls_dir {p : ByteArray} (h : IsDir s p) (R : List Int) : lsE s p = 0 ∧ lsV R s p = trnV (srtB (nmsD s p)) (rotV R s) ∧ lsN s p = lsS s := by
  obtain ⟨i, h1, h2⟩ := h
  have e : lsE s p = 0 := by unfold lsE; rw [h1]; exact if_pos h2
  refine ⟨e, ?_, by unfold lsN; rw [if_pos e]⟩
  unfold lsV nmsD
  rw [h1]
  exact if_pos h2
theorem trn_zero (zs : List ByteArray) : trnV zs 0 = zs := by
  unfold trnV
  by_cases h : zs.length = 0
  · rw [if_pos h, List.length_eq_zero_iff.1 h]
  · rw [if_neg h, if_neg (by decide)]
    simp
theorem nms_ls (s : St) (n : Nat) (p : ByteArray) : nmsD ⟨s.is, s.ps, n⟩ p = nmsD s p := rfl
theorem Alk.nms {t : St} (h : Alk s t) (p : ByteArray) : nmsD s p = nmsD t p := by
  unfold nmsD
  rw [h.p]
  cases fnd t.ps p with
  | none => rfl
  | some i => exact h.ns i
theorem Alk.dir {t : St} (h : Alk s t) {p : ByteArray} (hd : IsDir s p) : IsDir t p := by
  obtain ⟨i, h1, h2⟩ := hd
  exact ⟨i, by rw [← h.p]; exact h1, by rw [← h.k]; exact h2⟩
theorem jn_size (p b : ByteArray) : b.size ≤ (jnB p b).size := by
  have e : Bytes (joinZ (numsOf p) (numsOf b)) := by
    unfold joinZ
    split
    · exact byt_nums b
    · intro z hz
      rcases List.mem_append.1 hz with h | h
      · exact byt_nums p z h
      · rcases List.mem_cons.1 h with rfl | h
        · decide
        · exact byt_nums b z h
  have : (numsOf (jnB p b)).length = (joinZ (numsOf p) (numsOf b)).length := by unfold jnB; rw [numsOf_strOfNums e]
  rw [← numsOf_length, ← numsOf_length, this]
  unfold joinZ
  split
  · exact Nat.le_refl _
  · rw [List.length_append, List.length_cons]; omega
/-- each name of a directory -/
theorem name_ok {p b : ByteArray} (g : Gd N F S s) (n : Nm s) (h : IsDir s p) (hb : b ∈ nmsD s p) : (47 : Int) ∉ numsOf b ∧ chE' s (jnB p b) = 0 ∧ b.size ≤ 65536 ∧ p.size ≤ 65536 := by
  obtain ⟨i, h1, h2⟩ := h
  unfold nmsD at hb
  rw [h1] at hb
  obtain ⟨q1, q2⟩ := n.e p i h1 h2 b hb
  cases hj : fnd s.ps (jnB p b) with
  | none => exact absurd hj q2
  | some j => exact ⟨q1, by unfold chE'; rw [hj], Nat.le_trans (jn_size p b) (g.wf.b _ (fnd_mem hj)), g.wf.b _ (fnd_mem h1)⟩
theorem nms_nodup {p : ByteArray} (n : Nm s) (h : IsDir s p) : (nmsD s p).Nodup := by
  obtain ⟨i, h1, h2⟩ := h
  unfold nmsD
  rw [h1]
  exact n.d p i h1 h2
theorem nms_len {p : ByteArray} (g : Gd N F S s) (h : IsDir s p) : (nmsD s p).length ≤ N := by
  obtain ⟨i, h1, _⟩ := h
  unfold nmsD
  rw [h1]
  exact Nat.le_trans (g.wf.ns _ (at_mem (g.wf.lt h1))) g.wf.p
end
end Go.Proofs.YthcbiohmghaobaaDoor.Vfs
