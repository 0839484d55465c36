/-
  Layer 19, plain mathematics: the names of directories; two file systems alike but for their numbers. No memory.
-/
import Derived.Test.YthcbiohmghaobaaDoorPz08
namespace Go.Proofs.YthcbiohmghaobaaDoor.Vfs
open Go.RowKit Go.Proofs.YthcbiohmghaobaaDoor.Pnm

noncomputable def jnB (p b : ByteArray) : ByteArray := strOfNums (joinZ (numsOf p) (numsOf b))
theorem byt_nums (p : ByteArray) : Bytes (numsOf p) := fun z hz => by
  unfold numsOf at hz
  obtain ⟨c, _, rfl⟩ := List.mem_map.1 hz
  have := c.toNat_lt
  omega
theorem jn_par {p : ByteArray} (h : chE (numsOf p) = 0) : jnB (parB p) (basB p) = p ∧ (47 : Int) ∉ numsOf (basB p) := by
  have hb := byt_nums p
  obtain ⟨h47, hc⟩ := par_bas (numsOf p)
  have hbas : Bytes (basZ (numsOf p)) := fun z hz => hb z (List.mem_of_mem_drop hz)
  have hpar : Bytes (parZ (numsOf p)) := fun z hz => by
    unfold parZ at hz
    split at hz
    · cases hz
    · exact hb z (List.mem_of_mem_take hz)
  have e1 : numsOf (basB p) = basZ (numsOf p) := numsOf_strOfNums hbas
  have e2 : numsOf (parB p) = parZ (numsOf p) := numsOf_strOfNums hpar
  refine ⟨?_, by rw [e1]; exact h47⟩
  unfold jnB
  rw [e1, e2]
  unfold joinZ
  rcases hc with ⟨_, h2, h3⟩ | ⟨_, h2⟩
  · rw [if_pos h2, h3, strOfNums_numsOf]
  · have hne : parZ (numsOf p) ≠ [] := fun e => by
      have hk := (chE_zero.1 h).2
      rw [h2] at hk
      have hk := ((pathOk_app _ _).1 hk).1
      rw [e] at hk
      exact ((pathOk_one (by simp)).1 hk).1 rfl
    rw [if_neg hne, ← h2, strOfNums_numsOf]

/-- the names of each directory: each once, each leads to a path; a directory has one path -/
structure Nm (s : St) : Prop where
  d : ∀ p i, fnd s.ps p = some i → (s.at i).k = 0 → (s.at i).ns.Nodup
  e : ∀ p i, fnd s.ps p = some i → (s.at i).k = 0 → ∀ b ∈ (s.at i).ns, (47 : Int) ∉ numsOf b ∧ fnd s.ps (jnB p b) ≠ none
  u : ∀ p q i, fnd s.ps p = some i → fnd s.ps q = some i → (s.at i).k = 0 → p = q
theorem nm0 (F : Int) : Nm (st0 F) := by
  have key : ∀ p i, fnd (st0 F).ps p = some i → p = ⟨#[]⟩ ∧ i = 0 := fun p i h => by
    have := fnd_mem h
    have e : (p, i) = ((⟨#[]⟩ : ByteArray), 0) := by simpa [st0] using this
    exact ⟨congrArg Prod.fst e, congrArg Prod.snd e⟩
  refine ⟨fun p i h _ => ?_, fun p i h _ b hb => ?_, fun p q i h1 h2 _ => (key p i h1).1.trans (key q i h2).1.symm⟩
  · obtain ⟨_, rfl⟩ := key p i h
    exact List.nodup_nil
  · obtain ⟨_, rfl⟩ := key p i h
    cases hb
section
variable {N : Nat} {F S : Int} {s : St}
theorem snoc_find {ps : List (ByteArray × Nat)} {p q : ByteArray} {i k : Nat} (_ : fnd ps p = none) (h : fnd (ps ++ [(p, i)]) q = some k) : fnd ps q = some k ∨ (q = p ∧ k = i ∧ fnd ps q = none) := by
  rw [fnd_snoc] at h
  cases hq : fnd ps q with
  | some j => rw [hq] at h; exact .inl h
  | none =>
    rw [hq] at h
    dsimp only at h
    by_cases e : p = q
    · rw [if_pos e] at h
      exact .inr ⟨e.symm, (Option.some.inj h).symm, rfl⟩
    · rw [if_neg e] at h; cases h
theorem snoc_ne {ps : List (ByteArray × Nat)} {p q : ByteArray} {i : Nat} (h : fnd ps q ≠ none) : fnd (ps ++ [(p, i)]) q ≠ none := by
  rw [fnd_snoc]
  cases hq : fnd ps q with
  | some j => exact fun c => by cases c
  | none => exact absurd hq h
/-- a path p for a file i: what is asked of the new state -/
theorem nm_put {s s' : St} (h : Nm s) {p : ByteArray} {i j : Nat} (hc : chE (numsOf p) = 0) (hj : fnd s.ps (parB p) = some j) (hk : (s.at j).k = 0) (hf : fnd s.ps p = none)
    (hps : s'.ps = s.ps ++ [(p, i)])
    (hold : ∀ k q, fnd s.ps q = some k → (s'.at k).k = (s.at k).k ∧ (s'.at k).ns = (s.at k).ns ++ (if j = k then [basB p] else []))
    (hnew : (s'.at i).k ≠ 0 ∨ ((s'.at i).ns = [] ∧ ∀ q, fnd s.ps q ≠ some i)) : Nm s' := by
  obtain ⟨jp, n47⟩ := jn_par hc
  have fp : fnd (s.ps ++ [(p, i)]) p = some i := by rw [fnd_snoc, hf]; exact if_pos rfl
  refine ⟨fun q k hq hk' => ?_, fun q k hq hk' b hb => ?_, fun q r k hq hr hk' => ?_⟩
  · rw [hps] at hq
    rcases snoc_find hf hq with hq | ⟨rfl, rfl, _⟩
    · obtain ⟨e1, e2⟩ := hold k q hq
      rw [e2]
      rw [e1] at hk'
      by_cases c : j = k
      · subst c
        rw [if_pos rfl]
        refine List.nodup_append.2 ⟨h.d q j hq hk', List.pairwise_singleton _ _, fun a ha b hb e => ?_⟩
        obtain rfl : b = basB p := by simpa using hb
        subst e
        obtain rfl := h.u q (parB p) j hq hj hk
        exact (h.e _ j hj hk _ ha).2 (by rw [jp]; exact hf)
      · rw [if_neg c, List.append_nil]; exact h.d q k hq hk'
    · rcases hnew with c | ⟨c, _⟩
      · exact absurd hk' c
      · rw [c]; exact List.nodup_nil
  · rw [hps] at hq ⊢
    rcases snoc_find hf hq with hq | ⟨rfl, rfl, _⟩
    · obtain ⟨e1, e2⟩ := hold k q hq
      rw [e2] at hb
      rw [e1] at hk'
      rcases List.mem_append.1 hb with hb | hb
      · obtain ⟨g1, g2⟩ := h.e q k hq hk' b hb
        exact ⟨g1, snoc_ne g2⟩
      · by_cases c : j = k
        · subst c
          rw [if_pos rfl] at hb
          obtain rfl : b = basB p := by simpa using hb
          obtain rfl := h.u q (parB p) j hq hj hk
          exact ⟨n47, by rw [jp, fp]; exact fun c => by cases c⟩
        · rw [if_neg c] at hb; cases hb
    · rcases hnew with c | ⟨c, _⟩
      · exact absurd hk' c
      · rw [c] at hb; cases hb
  · rw [hps] at hq hr
    rcases snoc_find hf hq with hq | ⟨rfl, rfl, hqn⟩
    · rcases snoc_find hf hr with hr | ⟨rfl, rfl, _⟩
      · rw [(hold k q hq).1] at hk'
        exact h.u q r k hq hr hk'
      · rcases hnew with c | ⟨_, c⟩
        · exact absurd hk' c
        · exact absurd (by assumption) (c q)
    · rcases snoc_find hf hr with hr | ⟨rfl, _, _⟩
      · rcases hnew with c | ⟨_, c⟩
        · exact absurd hk' c
        · exact absurd (by assumption) (c r)
      · rfl
theorem Nm.mks (h : Nm s) (g : Gd N F S s) {k m : Int} {p t : ByteArray} {d : List Int} : Nm (mkS F S s k p m d t) := by
  by_cases he : mkE s k p m t ≠ 0
  · rw [mkS_bad he]; exact h
  have he := Decidable.not_not.mp he
  rw [mkS_of he]
  obtain ⟨h1, h2⟩ := mk_zero he
  obtain ⟨j, hj, hk, hf⟩ := plc_zero h2
  have hjl := g.wf.lt hj
  refine nm_put (i := s.is.length) h (fil_zero h1).1 hj hk hf (newS_ps ..) (fun i q hq => ?_) (.inr ⟨by rw [newS_new hj hjl], fun q hq => Nat.lt_irrefl _ (g.wf.lt hq)⟩)
  rw [newS_at hj hjl (g.wf.lt hq)]
  exact ⟨rfl, rfl⟩
theorem Nm.lnk (h : Nm s) (g : Gd N F S s) {p t : ByteArray} : Nm (lnkS s p t) := by
  by_cases he : lnkE s p t ≠ 0
  · rw [lnkS_bad he]; exact h
  have he := Decidable.not_not.mp he
  obtain ⟨h1, h2, i, h3, h4⟩ := lnk_zero he
  obtain ⟨j, hj, hk, hf⟩ := plc_zero h2
  have hjl := g.wf.lt hj
  have hi := g.wf.lt h3
  rw [lnkS_of he h3]
  refine nm_put h h1 hj hk hf (putS_ps ..) (fun k q hq => ?_) (.inl ?_)
  · rw [putS_at hi hj hjl (g.wf.lt hq)]
    exact ⟨rfl, rfl⟩
  · rw [putS_at hi hj hjl hi]
    show (s.at i).k ≠ 0
    rw [h4]; decide
theorem Nm.ch (h : Nm s) (g : Gd N F S s) (p : ByteArray) (u mt : Int) : Nm (chS s p u mt) := by
  cases hf : fnd s.ps p with
  | none => rw [chS_bad hf]; exact h
  | some i =>
    rw [chS_of hf]
    have hi := g.wf.lt hf
    have e : ∀ k, ((setI s i { s.at i with u := u, mt := mt }).at k).k = (s.at k).k ∧ ((setI s i { s.at i with u := u, mt := mt }).at k).ns = (s.at k).ns := fun k => by
      by_cases c : i = k
      · subst c; rw [at_set hi]; exact ⟨rfl, rfl⟩
      · rw [at_ne c]; exact ⟨rfl, rfl⟩
    refine ⟨fun q k hq hk => ?_, fun q k hq hk => ?_, fun q r k hq hr hk => ?_⟩
    · rw [(e k).1] at hk; rw [(e k).2]; exact h.d q k hq hk
    · rw [(e k).1] at hk; rw [(e k).2]; exact h.e q k hq hk
    · rw [(e k).1] at hk; exact h.u q r k hq hr hk
theorem Nm.doS (h : Nm s) (g : Gd N F S s) (a : Va) : Nm (doS F S s a) := by
  unfold Vfs.doS
  by_cases h0 : a.k = 0
  · rw [if_pos h0]; exact h.mks g
  rw [if_neg h0]
  by_cases h1 : a.k = 1
  · rw [if_pos h1]; exact h.mks g
  rw [if_neg h1]
  by_cases h2 : a.k = 2
  · rw [if_pos h2]; exact h.mks g
  rw [if_neg h2]
  by_cases h3 : a.k = 3
  · rw [if_pos h3]; exact h.mks g
  rw [if_neg h3]
  by_cases h4 : a.k = 4
  · rw [if_pos h4]; exact h.lnk g
  rw [if_neg h4]
  by_cases h5 : a.k = 5
  · rw [if_pos h5]; exact h.ch g _ _ _
  rw [if_neg h5]; exact h
end

def zr (x : Ino) : Ino := ⟨x.k, x.m, 0, x.l, x.d, x.t, x.u, x.mt, x.ns⟩
/-- alike but for the numbers -/
structure Alk (s t : St) : Prop where
  p : s.ps = t.ps
  l : s.is.length = t.is.length
  a : ∀ i, zr (s.at i) = zr (t.at i)
section
variable {F S F' S' : Int} {s t : St}
theorem Alk.k (h : Alk s t) (i : Nat) : (s.at i).k = (t.at i).k := (congrArg Ino.k (h.a i) : (zr (s.at i)).k = (zr (t.at i)).k)
theorem Alk.ns (h : Alk s t) (i : Nat) : (s.at i).ns = (t.at i).ns := (congrArg Ino.ns (h.a i) : (zr (s.at i)).ns = (zr (t.at i)).ns)
theorem alk0 (F F' : Int) : Alk (st0 F) (st0 F') := by
  refine ⟨rfl, rfl, fun i => ?_⟩
  match i with
  | 0 => rfl
  | i + 1 => rfl
theorem Alk.plc (h : Alk s t) (p : ByteArray) : plcE s p = plcE t p := by
  unfold plcE
  rw [h.p]
  cases fnd t.ps (parB p) with
  | none => rfl
  | some i => dsimp only; rw [h.k i]
theorem Alk.mke (h : Alk s t) (k : Int) (p : ByteArray) (m : Int) (x : ByteArray) : mkE s k p m x = mkE t k p m x := by unfold mkE; rw [h.plc]
theorem Alk.lnke (h : Alk s t) (p x : ByteArray) : lnkE s p x = lnkE t p x := by
  unfold lnkE
  rw [h.plc, h.p]
  cases fnd t.ps x with
  | none => rfl
  | some i => dsimp only; rw [h.k i]
theorem Alk.doe (h : Alk s t) (a : Va) : doE s a = doE t a := by
  unfold doE chE'
  rw [h.mke, h.mke, h.mke, h.mke, h.lnke, h.p]
theorem Alk.set (h : Alk s t) {i : Nat} {x y : Ino} (e : zr x = zr y) : Alk (setI s i x) (setI t i y) := by
  refine ⟨h.p, by rw [setI_len, setI_len]; exact h.l, fun k => ?_⟩
  by_cases c : i = k
  · subst c
    by_cases hi : i < s.is.length
    · rw [at_set hi, at_set (by rw [← h.l]; exact hi)]; exact e
    · have out : ∀ (u : St) (z : Ino), ¬ i < u.is.length → (setI u i z).at i = u.at i := fun u z hu => by
        show (u.is.set i z).getD i ino0 = u.is.getD i ino0
        rw [List.set_eq_of_length_le (by omega)]
      rw [out s x hi, out t y (by rw [← h.l]; exact hi)]; exact h.a i
  · rw [at_ne c, at_ne c]; exact h.a k
theorem Alk.addp (h : Alk s t) (p : ByteArray) (i : Nat) : Alk (addP s p i) (addP t p i) := ⟨by show s.ps ++ _ = t.ps ++ _; rw [h.p], h.l, h.a⟩
theorem Alk.up (h : Alk s t) (i : Nat) (f : Ino → Ino) (hf : ∀ x y : Ino, zr x = zr y → zr (f x) = zr (f y)) : Alk (setI s i (f (s.at i))) (setI t i (f (t.at i))) := h.set (hf _ _ (h.a i))
theorem ino_eq {x y : Ino} (h : zr x = zr y) : x.k = y.k ∧ x.m = y.m ∧ x.l = y.l ∧ x.d = y.d ∧ x.t = y.t ∧ x.u = y.u ∧ x.mt = y.mt ∧ x.ns = y.ns :=
  by
  unfold zr at h
  injection h with h1 h2 _ h4 h5 h6 h7 h8 h9
  exact ⟨h1, h2, h4, h5, h6, h7, h8, h9⟩
theorem Alk.put (h : Alk s t) (p : ByteArray) (i : Nat) : Alk (putS s p i) (putS t p i) := by
  unfold putS namI lnkI
  have h1 := (h.up i (fun x => { x with l := x.l + 1 }) fun x y e => by
    obtain ⟨e1, e2, e3, e4, e5, e6, e7, e8⟩ := ino_eq e
    simp only [zr, e1, e2, e3, e4, e5, e6, e7, e8]).addp p i
  rw [h.p]
  exact h1.up _ (fun x => { x with ns := x.ns ++ [basB p] }) fun x y e => by
    obtain ⟨e1, e2, e3, e4, e5, e6, e7, e8⟩ := ino_eq e
    simp only [zr, e1, e2, e3, e4, e5, e6, e7, e8]
theorem Alk.add (h : Alk s t) (k m : Int) (d : List Int) (x : ByteArray) : Alk (addI F S s k m d x) (addI F' S' t k m d x) := by
  refine ⟨h.p, by rw [addI_len, addI_len, h.l], fun i => ?_⟩
  by_cases c : i < s.is.length
  · rw [addI_at c, addI_at (by rw [← h.l]; exact c)]; exact h.a i
  by_cases e : i = s.is.length
  · subst e
    rw [addI_new]
    rw [h.l, addI_new]
    rfl
  · have out : ∀ (u : St) (F S : Int), u.is.length < i → (addI F S u k m d x).at i = ino0 := fun u F S hu => by
      unfold St.at
      rw [List.getD_eq_getElem?_getD, List.getElem?_eq_none (by rw [addI_len]; omega)]; rfl
    rw [out s F S (by omega), out t F' S' (by rw [← h.l]; omega)]
theorem Alk.mks (h : Alk s t) (k : Int) (p : ByteArray) (m : Int) (d : List Int) (x : ByteArray) : Alk (mkS F S s k p m d x) (mkS F' S' t k p m d x) := by
  unfold mkS newS
  rw [h.mke]
  split
  · exact h
  · have := (h.add (F := F) (S := S) (F' := F') (S' := S') k m d x).put p s.is.length
    rw [← h.l]
    exact this
theorem Alk.lnk (h : Alk s t) (p x : ByteArray) : Alk (lnkS s p x) (lnkS t p x) := by
  unfold lnkS
  rw [h.lnke, h.p]
  split
  · exact h
  · exact h.put p _
theorem Alk.ch (h : Alk s t) (p : ByteArray) (u mt : Int) : Alk (chS s p u mt) (chS t p u mt) := by
  unfold chS
  rw [h.p]
  cases fnd t.ps p with
  | none => exact h
  | some i =>
    exact h.up i (fun x => { x with u := u, mt := mt }) fun x y e => by
      obtain ⟨e1, e2, e3, e4, e5, e6, e7, e8⟩ := ino_eq e
      simp only [zr, e1, e2, e3, e4, e5, e8]
theorem Alk.dos (h : Alk s t) (a : Va) : Alk (doS F S s a) (doS F' S' t a) := by
  unfold doS
  by_cases h0 : a.k = 0
  · rw [if_pos h0, if_pos h0]; exact h.mks ..
  rw [if_neg h0, if_neg h0]
  by_cases h1 : a.k = 1
  · rw [if_pos h1, if_pos h1]; exact h.mks ..
  rw [if_neg h1, if_neg h1]
  by_cases h2 : a.k = 2
  · rw [if_pos h2, if_pos h2]; exact h.mks ..
  rw [if_neg h2, if_neg h2]
  by_cases h3 : a.k = 3
  · rw [if_pos h3, if_pos h3]; exact h.mks ..
  rw [if_neg h3, if_neg h3]
  by_cases h4 : a.k = 4
  · rw [if_pos h4, if_pos h4]; exact h.lnk ..
  rw [if_neg h4, if_neg h4]
  by_cases h5 : a.k = 5
  · rw [if_pos h5, if_pos h5]; exact h.ch ..
  rw [if_neg h5, if_neg h5]; exact h
end
end Go.Proofs.YthcbiohmghaobaaDoor.Vfs
