/-
  Layer 10: plain mathematics: Merge inverts Plan; what a record more or less does; the reference's candidate. No memory.
-/
import Derived.Test.YtmbimnnacjbdfaaGreatDoorPz02
namespace Go.Proofs.YtmbimnnacjbdfaaGreatDoor.Fit
open Go.Lib Go.RowKit Pxr Pnm

theorem link_path : ¬ kLink = kPath := by decide
theorem link_size : ¬ kLink = kSize := by decide
theorem path_size : ¬ kPath = kSize := by decide

/-- Merge inverts Plan -/
theorem back {e : Ent} (h : Ok e) : cmpE (plH e) (plL e) = e := by
  obtain ⟨k, p, m, t, s⟩ := e
  have hk : kdZ (tyZ k) = k := kd_ty h.k0 h.k4
  obtain ⟨hs0, hs1, _⟩ := sz_cases h.sz
  dsimp only at hs0 hs1
  have hP : (if splB (numsOf p) = true then p else emp) = strOfNums (joinZ (numsOf (strOfNums (splP (numsOf p)))) (numsOf (strOfNums (splN (numsOf p))))) := by
    by_cases hb : splB (numsOf p) = true
    · rw [if_pos hb, spl_join hb]
    · rw [if_neg hb]
      rcases spl_cases p with ⟨a, _⟩ | ⟨a, _⟩ | ⟨_, a, b, _⟩
      · exact absurd a hb
      · exact absurd a hb
      · rw [a, b]; rfl
  unfold cmpE plL
  rw [List.foldl_append, List.foldl_append]
  have e0 : cmp0 (plH ⟨k, p, m, t, s⟩) = ⟨k, if splB (numsOf p) = true then p else emp, m, if t.size ≤ 100 then t else emp, if s ≤ 8589934591 then s else 0⟩ := by
    unfold cmp0 plH
    dsimp only
    rw [hk, hP]
  rw [e0]
  have e1 : List.foldl setR ⟨k, if splB (numsOf p) = true then p else emp, m, if t.size ≤ 100 then t else emp, if s ≤ 8589934591 then s else 0⟩ (plT ⟨k, p, m, t, s⟩) = ⟨k, if splB (numsOf p) = true then p else emp, m, t, if s ≤ 8589934591 then s else 0⟩ := by
    unfold plT
    dsimp only
    by_cases ht : t.size ≤ 100
    · rw [if_pos ht, if_pos ht]; rfl
    · rw [if_neg ht, if_neg ht, List.foldl_cons, set_link]; rfl
  rw [e1]
  have e2 : List.foldl setR ⟨k, if splB (numsOf p) = true then p else emp, m, t, if s ≤ 8589934591 then s else 0⟩ (plP ⟨k, p, m, t, s⟩) = ⟨k, p, m, t, if s ≤ 8589934591 then s else 0⟩ := by
    unfold plP
    dsimp only
    by_cases hb : splB (numsOf p) = true
    · rw [if_pos hb, if_pos hb]; rfl
    · rw [if_neg hb, if_neg hb, List.foldl_cons, set_path]; rfl
  rw [e2]
  unfold plS
  dsimp only
  by_cases hs : s ≤ 8589934591
  · rw [if_pos hs, if_pos hs]; rfl
  · rw [if_neg hs, if_neg hs, List.foldl_cons, set_size, pz_dec (by omega), List.foldl_nil]
    have : ((s.toNat : Nat) : Int) = s := by omega
    rw [this]
theorem mg_back {e : Ent} (h : Ok e) : mgOk (plH e) (plL e) := by
  unfold mgOk
  rw [back h]
  exact ⟨ck_ok.2 h, rfl, rfl⟩
theorem plan_inj {e f : Ent} (he : Ok e) (hf : Ok f) : (plH e = plH f ∧ plL e = plL f) ↔ e = f := by
  constructor
  · rintro ⟨h1, h2⟩
    rw [← back he, ← back hf, h1, h2]
  · rintro rfl; exact ⟨rfl, rfl⟩

/-! the records of a plan -/
theorem mem_pl {e : Ent} {r : Rec} (h : r ∈ plL e) : (r = (kLink, e.t) ∧ 100 < e.t.size) ∨ (r = (kPath, e.p) ∧ splB (numsOf e.p) = false) ∨ (r = (kSize, strOfNums (decD e.s.toNat)) ∧ 8589934591 < e.s) := by
  unfold plL plT plP plS at h
  rw [List.mem_append, List.mem_append] at h
  rcases h with h | h | h
  · split at h
    · cases h
    · rename_i hc; exact .inl ⟨List.mem_singleton.1 h, by omega⟩
  · split at h
    · cases h
    · rename_i hc; exact .inr (.inl ⟨List.mem_singleton.1 h, by simpa using hc⟩)
  · split at h
    · cases h
    · rename_i hc; exact .inr (.inr ⟨List.mem_singleton.1 h, by omega⟩)
theorem pl_len (e : Ent) : (plL e).length ≤ 3 := by
  unfold plL plT plP plS
  rw [List.length_append, List.length_append]
  split <;> split <;> split <;> simp only [List.length_nil, List.length_singleton] <;> omega
/-- each of them is valid -/
theorem pl_chk {e : Ent} (h : Ok e) : ∀ r ∈ plL e, chk r = 0 := by
  intro r hr
  rcases mem_pl hr with ⟨rfl, ht⟩ | ⟨rfl, _⟩ | ⟨rfl, hs⟩
  · unfold chk
    rw [if_pos (.inl rfl)]
    rcases (tg_cases h.tg).2.2 with e1 | e1
    · rw [e1] at ht; exact absurd ht (by decide)
    · exact e1
  · unfold chk
    rw [if_pos (.inr rfl)]
    obtain ⟨a, b⟩ := path_pos h.path
    unfold chkT
    dsimp only
    rw [if_neg (by omega), if_neg]
    rintro (e1 | e1)
    · exact a (emp_size.2 e1)
    · exact path_nozero (chE_zero.1 h.path).2 e1
  · unfold chk
    rw [if_neg (show ¬ (kSize = kLink ∨ kSize = kPath) by decide), if_pos rfl]
    obtain ⟨h0, h1, _⟩ := sz_cases h.sz
    unfold chkS
    dsimp only
    rw [dec_bytes, decD_ok, decV_decD, if_neg (by decide), if_neg (by omega)]
theorem pl_good {e : Ent} (h : Ok e) : fmE [] (plL e) = 0 := by
  have hc := pl_chk h
  have k1 : keyLe kPath kLink = false := by rw [keyLe_ix (.inr (.inl rfl)) (.inl rfl)]; decide
  have k2 : keyLe kSize kLink = false := by rw [keyLe_ix (.inr (.inr rfl)) (.inl rfl)]; decide
  have k3 : keyLe kSize kPath = false := by rw [keyLe_ix (.inr (.inr rfl)) (.inr (.inl rfl))]; decide
  revert hc
  unfold plL plT plP plS
  intro hc
  have one : ∀ (b : List Rec) (r : Rec) (rs : List Rec), chk r = 0 → prevLe b r.1 = false → fmE (b ++ [r]) rs = 0 → fmE b (r :: rs) = 0 := by
    intro b r rs h1 h2 h3
    rw [fmE_cons]
    unfold chkN
    rw [h1, h2, if_neg (by simp)]
    exact h3
  split at hc <;> rename_i c1 <;> split at hc <;> rename_i c2 <;> split at hc <;> rename_i c3 <;> simp only [c1, c2, c3, if_true, if_false, List.nil_append, List.append_nil, List.cons_append] at hc ⊢
  · rfl
  · exact one _ _ _ (hc _ (by simp)) rfl rfl
  · exact one _ _ _ (hc _ (by simp)) rfl rfl
  · exact one _ _ _ (hc _ (by simp)) rfl (one _ _ _ (hc _ (by simp)) k3 rfl)
  · exact one _ _ _ (hc _ (by simp)) rfl rfl
  · exact one _ _ _ (hc _ (by simp)) rfl (one _ _ _ (hc _ (by simp)) k2 rfl)
  · exact one _ _ _ (hc _ (by simp)) rfl (one _ _ _ (hc _ (by simp)) k1 rfl)
  · exact one _ _ _ (hc _ (by simp)) rfl (one _ _ _ (hc _ (by simp)) k1 (one _ _ _ (hc _ (by simp)) k3 rfl))

/-! FitIsMinimal -/
/-- keys of a plan: no two alike, ascending -/
theorem pl_sorted (e : Ent) : (plL e).Pairwise fun a b => kix a.1 < kix b.1 := by
  unfold plL plT plP plS
  split <;> split <;> split <;> simp [kix]
theorem set_keep (e : Ent) (r : Rec) : (r.1 ≠ kPath → (setR e r).p = e.p) ∧ (r.1 ≠ kLink → (setR e r).t = e.t) ∧ (r.1 ≠ kSize → (setR e r).s = e.s) ∧ (setR e r).k = e.k ∧ (setR e r).m = e.m := by
  unfold setR
  by_cases h1 : r.1 = kLink
  · rw [if_pos h1]; exact ⟨fun _ => rfl, fun h => absurd h1 h, fun _ => rfl, rfl, rfl⟩
  · rw [if_neg h1]
    by_cases h2 : r.1 = kPath
    · rw [if_pos h2]; exact ⟨fun h => absurd h2 h, fun _ => rfl, fun _ => rfl, rfl, rfl⟩
    · rw [if_neg h2]
      by_cases h3 : r.1 = kSize
      · rw [if_pos h3]; exact ⟨fun _ => rfl, fun _ => rfl, fun h => absurd h3 h, rfl, rfl⟩
      · rw [if_neg h3]; exact ⟨fun _ => rfl, fun _ => rfl, fun _ => rfl, rfl, rfl⟩
theorem fold_keep : ∀ (l : List Rec) (e : Ent), ((∀ r ∈ l, r.1 ≠ kPath) → (l.foldl setR e).p = e.p) ∧ ((∀ r ∈ l, r.1 ≠ kLink) → (l.foldl setR e).t = e.t) ∧ ((∀ r ∈ l, r.1 ≠ kSize) → (l.foldl setR e).s = e.s) ∧ (l.foldl setR e).k = e.k ∧ (l.foldl setR e).m = e.m
  | [], _ => ⟨fun _ => rfl, fun _ => rfl, fun _ => rfl, rfl, rfl⟩
  | r :: l, e => by
    obtain ⟨a, b, c, d, f⟩ := fold_keep l (setR e r)
    obtain ⟨a', b', c', d', f'⟩ := set_keep e r
    rw [List.foldl_cons]
    refine ⟨fun h => ?_, fun h => ?_, fun h => ?_, d.trans d', f.trans f'⟩
    · exact (a fun x hx => h x (List.mem_cons_of_mem _ hx)).trans (a' (h r List.mem_cons_self))
    · exact (b fun x hx => h x (List.mem_cons_of_mem _ hx)).trans (b' (h r List.mem_cons_self))
    · exact (c fun x hx => h x (List.mem_cons_of_mem _ hx)).trans (c' (h r List.mem_cons_self))
/-- a record less -/
theorem less_one {e : Ent} (h : Ok e) {i : Nat} {r : Rec} (hr : (plL e)[i]? = some r) (hm : mgOk (plH e) ((plL e).take i ++ (plL e).drop (i + 1))) : r.1 = kSize ∧ (cmpE (plH e) ((plL e).take i ++ (plL e).drop (i + 1))).s = 0 := by
  obtain ⟨hi, hg⟩ := List.getElem?_eq_some_iff.1 hr
  have hmem : r ∈ plL e := by rw [← hg]; exact List.getElem_mem hi
  have hsplit : plL e = (plL e).take i ++ r :: (plL e).drop (i + 1) := by rw [← hg, ← List.drop_eq_getElem_cons hi, List.take_append_drop]
  have hne : ∀ x ∈ (plL e).take i ++ (plL e).drop (i + 1), x.1 ≠ r.1 := by
    have hp := pl_sorted e
    rw [hsplit, List.pairwise_append] at hp
    obtain ⟨_, p2, p3⟩ := hp
    intro x hx e1
    rw [List.mem_append] at hx
    rcases hx with hx | hx
    · have := p3 x hx r List.mem_cons_self; rw [e1] at this; omega
    · have := (List.pairwise_cons.1 p2).1 x hx; rw [e1] at this; omega
  generalize (plL e).take i ++ (plL e).drop (i + 1) = l at hm hne
  obtain ⟨hk, _, _⟩ := hm
  have hO := ck_ok.1 hk
  obtain ⟨fp, ft, fs, fk, _⟩ := fold_keep l (cmp0 (plH e))
  rcases mem_pl hmem with ⟨rfl, ht⟩ | ⟨rfl, hb⟩ | ⟨rfl, hs⟩
  · exfalso
    have e1 : (cmpE (plH e) l).t = emp := by
      rw [show cmpE (plH e) l = l.foldl setR (cmp0 (plH e)) from rfl, ft hne]
      show (if e.t.size ≤ 100 then e.t else emp) = emp
      rw [if_neg (by omega)]
    have e2 : (cmpE (plH e) l).k = e.k := by
      rw [show cmpE (plH e) l = l.foldl setR (cmp0 (plH e)) from rfl, fk]
      exact kd_ty h.k0 h.k4
    rcases (tg_cases h.tg).2.1 with ⟨_, _, e3⟩ | ⟨e3, _⟩
    · rw [e3] at ht; exact absurd ht (by decide)
    · rcases (tg_cases hO.tg).2.1 with ⟨e4, e5, _⟩ | ⟨_, e4⟩
      · rw [e2] at e4 e5; omega
      · exact e4 e1
  · exfalso
    have e1 : (cmpE (plH e) l).p = emp := by
      rw [show cmpE (plH e) l = l.foldl setR (cmp0 (plH e)) from rfl, fp hne]
      show strOfNums (joinZ (numsOf (strOfNums (splP (numsOf e.p)))) (numsOf (strOfNums (splN (numsOf e.p))))) = emp
      rcases spl_cases e.p with ⟨a, _⟩ | ⟨a, _⟩ | ⟨_, a, b, _⟩
      · rw [hb] at a; cases a
      · rw [hb] at a; cases a
      · rw [a, b]; rfl
    exact (path_pos hO.path).1 e1
  · refine ⟨rfl, ?_⟩
    rw [show cmpE (plH e) l = l.foldl setR (cmp0 (plH e)) from rfl, fs hne]
    show (if e.s ≤ 8589934591 then e.s else 0) = 0
    rw [if_neg (by omega)]
/-- when there is no record at all -/
theorem no_recs {e : Ent} : plL e = [] ↔ splB (numsOf e.p) = true ∧ e.t.size ≤ 100 ∧ e.s ≤ 8589934591 := by
  unfold plL plT plP plS
  constructor
  · intro h
    split at h <;> rename_i c1 <;> split at h <;> rename_i c2 <;> split at h <;> rename_i c3 <;> first | exact ⟨c2, c1, c3⟩ | cases h
  · rintro ⟨a, b, c⟩
    rw [if_pos a, if_pos b, if_pos c]; rfl
theorem fits_iff (p : ByteArray) : splB (numsOf p) = true ↔ p.size ≤ 100 ∨ strOfNums (splP (numsOf p)) ≠ emp := by
  rcases spl_cases p with ⟨a, b, _, d⟩ | ⟨a, b, _, _, _, _, d⟩ | ⟨a, b, _, d⟩
  · exact ⟨fun _ => .inl d, fun _ => a⟩
  · exact ⟨fun _ => .inr fun e => b (str_emp.1 e), fun _ => a⟩
  · rw [a, b]
    constructor
    · intro h; cases h
    · rintro (h | h)
      · omega
      · exact absurd rfl h
/-- a record more -/
theorem more_one {e : Ent} (h : Ok e) {x : Rec} (hm : mgOk (plH e) (plL e ++ [x])) : x.1 = kSize ∧ 8589934591 < (cmpE (plH e) (plL e ++ [x])).s := by
  generalize hf : cmpE (plH e) (plL e ++ [x]) = f at *
  obtain ⟨hk, hh, hl⟩ := hm
  rw [hf] at hk hh hl
  have hO := ck_ok.1 hk
  have hmem : x ∈ plL f := by rw [hl]; exact List.mem_append_right _ List.mem_cons_self
  have hlast : ∀ r ∈ plL e, kix r.1 < kix x.1 := by
    have hp := pl_sorted f
    rw [hl, List.pairwise_append] at hp
    exact fun r hr => hp.2.2 r hr x List.mem_cons_self
  have hkk : f.k = e.k := by
    have := congrArg Hd.T hh
    have e1 : tyZ f.k = tyZ e.k := this
    rw [← kd_ty hO.k0 hO.k4, ← kd_ty h.k0 h.k4, e1]
  rcases mem_pl hmem with ⟨rfl, ht⟩ | ⟨rfl, hb⟩ | ⟨rfl, hs⟩
  · exfalso
    have e0 : (if f.t.size ≤ 100 then f.t else emp) = (if e.t.size ≤ 100 then e.t else emp) := congrArg Hd.lk hh
    rw [if_neg (by omega)] at e0
    have hnt : e.t.size ≤ 100 := by
      apply Decidable.byContradiction
      intro hc
      have := hlast (kLink, e.t) (by unfold plL plT; rw [if_neg hc]; simp)
      simp at this
    rw [if_pos hnt] at e0
    rcases (tg_cases hO.tg).2.1 with ⟨_, _, e3⟩ | ⟨e3, _⟩
    · rw [e3] at ht; exact absurd ht (by decide)
    · rcases (tg_cases h.tg).2.1 with ⟨e4, e5, _⟩ | ⟨_, e4⟩
      · rw [hkk] at e3; omega
      · exact e4 e0.symm
  · exfalso
    have e0 : strOfNums (splN (numsOf f.p)) = strOfNums (splN (numsOf e.p)) := congrArg Hd.nm hh
    have e1 : splN (numsOf f.p) = [] := by
      rcases spl_cases f.p with ⟨a, _⟩ | ⟨a, _⟩ | ⟨_, _, b, _⟩
      · rw [hb] at a; cases a
      · rw [hb] at a; cases a
      · exact b
    rw [e1] at e0
    have e2 : splN (numsOf e.p) = [] := str_emp.1 e0.symm
    rcases spl_cases e.p with ⟨_, _, b, _⟩ | ⟨_, _, b, _⟩ | ⟨b, _⟩
    · rw [b] at e2
      exact (path_pos h.path).1 (emp_size.2 (by rw [← numsOf_length, e2]; rfl))
    · exact b e2
    · have := hlast (kPath, e.p) (by unfold plL plP; rw [b]; simp)
      simp at this
  · exact ⟨rfl, hs⟩

/-! the reference's candidate -/
def numOk (v : ByteArray) : Prop := decOk (numsOf v) = true ∧ decV (numsOf v) ≤ 1099511627776
instance (v : ByteArray) : Decidable (numOk v) := by unfold numOk; infer_instance
/-- the records whose numbers the reference reads -/
def allNum (l : List Rec) : Prop := ∀ r ∈ l, r.1 = kSize → numOk r.2
instance (l : List Rec) : Decidable (allNum l) := by unfold allNum; infer_instance
/-- one step of the reference -/
def setN (e : Ent) (r : Rec) : Ent := if r.1 = kLink then { e with t := r.2 } else if r.1 = kPath then { e with p := r.2 } else if r.1 = kSize then { e with s := (decV (numsOf r.2) : Int) } else e
theorem setN_eq {e : Ent} {r : Rec} (h : r.1 = kSize → numOk r.2) : setN e r = setR e r := by
  unfold setN setR
  by_cases h1 : r.1 = kLink
  · rw [if_pos h1, if_pos h1]
  · rw [if_neg h1, if_neg h1]
    by_cases h2 : r.1 = kPath
    · rw [if_pos h2, if_pos h2]
    · rw [if_neg h2, if_neg h2]
      by_cases h3 : r.1 = kSize
      · rw [if_pos h3, if_pos h3, pz_num (h h3).1 (h h3).2]
      · rw [if_neg h3, if_neg h3]
theorem fold_num : ∀ {l : List Rec} (e : Ent), allNum l → l.foldl setN e = l.foldl setR e
  | [], _, _ => rfl
  | r :: l, e, h => by
    rw [List.foldl_cons, List.foldl_cons, setN_eq (h r List.mem_cons_self)]
    exact fold_num _ fun x hx => h x (List.mem_cons_of_mem _ hx)
theorem mg_num {h : Hd} {l : List Rec} (hm : mgOk h l) : allNum l := by
  obtain ⟨hk, _, hl⟩ := hm
  generalize cmpE h l = f at *
  have hO := ck_ok.1 hk
  obtain ⟨h0, h1, _⟩ := sz_cases hO.sz
  intro r hr e
  rw [← hl] at hr
  rcases mem_pl hr with ⟨rfl, _⟩ | ⟨rfl, _⟩ | ⟨rfl, hs⟩
  · exact absurd e link_size
  · exact absurd e path_size
  · exact ⟨by rw [dec_bytes]; exact decD_ok _, by rw [dec_bytes, decV_decD]; omega⟩
end Go.Proofs.YtmbimnnacjbdfaaGreatDoor.Fit
