/-
  The arithmetic of layer 8: paths as lists of bytes. No memory.
-/
namespace Go.Proofs.YthcbiohmghaobaaDoor.Pnm

/-- the components of a path -/
def comps : List Int → List (List Int)
  | [] => [[]]
  | z :: zs => if z = 47 then [] :: comps zs else match comps zs with
    | c :: cs => (z :: c) :: cs
    | [] => [[z]]
theorem comps_ne (zs : List Int) : comps zs ≠ [] := by
  induction zs with
  | nil => simp [comps]
  | cons z zs ih =>
    unfold comps
    split
    · simp
    · split <;> simp
theorem comps_one {c : List Int} (h : (47 : Int) ∉ c) : comps c = [c] := by
  induction c with
  | nil => rfl
  | cons z zs ih =>
    have h1 : ¬ z = 47 := fun e => h (by simp [e])
    have h2 : (47 : Int) ∉ zs := fun e => h (List.mem_cons_of_mem _ e)
    unfold comps
    rw [if_neg h1, ih h2]
theorem comps_app (a c : List Int) : comps (a ++ 47 :: c) = comps a ++ comps c := by
  induction a with
  | nil => simp [comps]
  | cons z zs ih =>
    rw [List.cons_append]
    by_cases hz : z = 47
    · rw [comps, if_pos hz, ih]
      conv => rhs; rw [comps, if_pos hz]
      rfl
    · rw [comps, if_neg hz, ih]
      conv => rhs; rw [comps, if_neg hz]
      cases h : comps zs with
      | nil => exact absurd h (comps_ne zs)
      | cons x xs => rfl
theorem comps_cut {c rest : List Int} (h : (47 : Int) ∉ c) : comps (c ++ 47 :: rest) = c :: comps rest := by
  rw [comps_app, comps_one h]; rfl
theorem comps_noslash (zs : List Int) : ∀ c ∈ comps zs, (47 : Int) ∉ c := by
  induction zs with
  | nil => intro c hc; simp [comps] at hc; subst hc; simp
  | cons z zs ih =>
    intro c hc
    unfold comps at hc
    split at hc
    · rcases List.mem_cons.1 hc with rfl | hc
      · simp
      · exact ih c hc
    · rename_i hz
      split at hc
      · rename_i x xs hx
        rcases List.mem_cons.1 hc with rfl | hc
        · have := ih x (by rw [hx]; simp)
          intro hm
          rcases List.mem_cons.1 hm with e | hm
          · exact hz e.symm
          · exact this hm
        · exact ih c (by rw [hx]; exact List.mem_cons_of_mem _ hc)
      · rename_i hx; exact absurd hx (comps_ne zs)

/-- a component is valid -/
def partOk (c : List Int) : Prop := c ≠ [] ∧ c ≠ [46] ∧ c ≠ [46, 46] ∧ (0 : Int) ∉ c
instance (c : List Int) : Decidable (partOk c) := by unfold partOk; infer_instance
def pathOk (zs : List Int) : Prop := ∀ c ∈ comps zs, partOk c
instance (zs : List Int) : Decidable (pathOk zs) := by unfold pathOk; infer_instance
/-- the error of Check -/
def chE (zs : List Int) : Int := if 65536 < zs.length then 7 else if pathOk zs then 0 else 6
theorem chE_zero {zs : List Int} : chE zs = 0 ↔ zs.length ≤ 65536 ∧ pathOk zs := by
  unfold chE
  by_cases h : 65536 < zs.length
  · rw [if_pos h]; constructor
    · intro e; cases e
    · rintro ⟨h1, _⟩; omega
  · rw [if_neg h]
    by_cases h2 : pathOk zs
    · rw [if_pos h2]; exact ⟨fun _ => ⟨by omega, h2⟩, fun _ => rfl⟩
    · rw [if_neg h2]; exact ⟨fun e => (by cases e), fun h' => absurd h'.2 h2⟩
theorem pathOk_app (a c : List Int) : pathOk (a ++ 47 :: c) ↔ pathOk a ∧ pathOk c := by
  unfold pathOk
  rw [comps_app]
  constructor
  · exact fun h => ⟨fun x hx => h x (List.mem_append_left _ hx), fun x hx => h x (List.mem_append_right _ hx)⟩
  · exact fun h x hx => (List.mem_append.1 hx).elim (h.1 x) (h.2 x)
theorem pathOk_one {c : List Int} (h : (47 : Int) ∉ c) : pathOk c ↔ partOk c := by
  unfold pathOk; rw [comps_one h]; simp

/-- the index of the last slash among the first n bytes, or -1 -/
def lastF (zs : List Int) : Nat → Int
  | 0 => -1
  | n + 1 => if zs.getD n 0 = 47 then n else lastF zs n
def lastZ (zs : List Int) : Int := lastF zs zs.length
theorem lastF_bd (zs : List Int) : ∀ n, -1 ≤ lastF zs n ∧ lastF zs n < n
  | 0 => by simp [lastF]
  | n + 1 => by
    have := lastF_bd zs n
    unfold lastF
    split <;> omega
theorem lastF_none (zs : List Int) : ∀ n, lastF zs n = -1 → ∀ i, i < n → zs.getD i 0 ≠ 47
  | 0, _, i, hi => by omega
  | n + 1, h, i, hi => by
    unfold lastF at h
    split at h
    · omega
    · rename_i hn
      by_cases e : i = n
      · subst e; exact hn
      · exact lastF_none zs n h i (by omega)
theorem lastF_some (zs : List Int) : ∀ (n k : Nat), lastF zs n = k → zs.getD k 0 = 47 ∧ k < n ∧ ∀ i, k < i → i < n → zs.getD i 0 ≠ 47
  | 0, k, h => by exfalso; unfold lastF at h; omega
  | n + 1, k, h => by
    unfold lastF at h
    split at h
    · rename_i hn
      obtain rfl : n = k := by omega
      exact ⟨hn, by omega, fun i h1 h2 => by omega⟩
    · rename_i hn
      obtain ⟨h1, h2, h3⟩ := lastF_some zs n k h
      refine ⟨h1, by omega, fun i hi hi2 => ?_⟩
      by_cases e : i = n
      · subst e; exact hn
      · exact h3 i hi (by omega)
def parZ (zs : List Int) : List Int := if lastZ zs < 0 then [] else zs.take (lastZ zs).toNat
def basZ (zs : List Int) : List Int := zs.drop (lastZ zs + 1).toNat
/-- a path is its base, or its parent, a slash and its base -/
theorem par_bas (zs : List Int) : (47 : Int) ∉ basZ zs ∧ ((lastZ zs < 0 ∧ parZ zs = [] ∧ basZ zs = zs) ∨ (0 ≤ lastZ zs ∧ zs = parZ zs ++ 47 :: basZ zs)) := by
  have mem : ∀ {l : List Int} {x : Int}, x ∈ l → ∃ i, i < l.length ∧ l.getD i 0 = x := fun {l x} h => by
    obtain ⟨i, hi, e⟩ := List.getElem_of_mem h
    exact ⟨i, hi, by rw [List.getD_eq_getElem?_getD, List.getElem?_eq_getElem hi]; exact e⟩
  have hb := lastF_bd zs zs.length
  by_cases h : lastZ zs < 0
  · have e : lastF zs zs.length = -1 := by unfold lastZ at h; omega
    have e' : basZ zs = zs := by unfold basZ lastZ; rw [e]; rfl
    refine ⟨?_, .inl ⟨h, if_pos h, e'⟩⟩
    rw [e']
    intro hm
    obtain ⟨i, hi, hx⟩ := mem hm
    exact lastF_none zs zs.length e i hi hx
  · obtain ⟨k, hk⟩ : ∃ k : Nat, lastF zs zs.length = k := ⟨(lastF zs zs.length).toNat, by unfold lastZ at h; omega⟩
    obtain ⟨h1, h2, h3⟩ := lastF_some zs _ k hk
    have e1 : parZ zs = zs.take k := by unfold parZ; rw [if_neg h]; unfold lastZ; rw [hk]; rfl
    have e2 : basZ zs = zs.drop (k + 1) := by unfold basZ lastZ; rw [hk]; rfl
    refine ⟨?_, .inr ⟨by omega, ?_⟩⟩
    · rw [e2]
      intro hm
      obtain ⟨i, hi, hx⟩ := mem hm
      rw [List.length_drop] at hi
      rw [List.getD_eq_getElem?_getD, List.getElem?_drop, ← List.getD_eq_getElem?_getD] at hx
      exact h3 (k + 1 + i) (by omega) (by omega) hx
    · rw [e1, e2]
      have hg : zs[k] = 47 := by rw [List.getD_eq_getElem?_getD, List.getElem?_eq_getElem h2] at h1; exact h1
      rw [← hg, ← List.drop_eq_getElem_cons h2, List.take_append_drop]

/-- bytewise order -/
def cmpZ : List Int → List Int → Int
  | [], [] => 0
  | [], _ :: _ => -1
  | _ :: _, [] => 1
  | a :: as, b :: bs => if a < b then -1 else if b < a then 1 else cmpZ as bs
theorem cmp_cases : ∀ as bs : List Int, cmpZ as bs = -1 ∨ cmpZ as bs = 0 ∨ cmpZ as bs = 1
  | [], [] => by simp [cmpZ]
  | [], _ :: _ => by simp [cmpZ]
  | _ :: _, [] => by simp [cmpZ]
  | a :: as, b :: bs => by
    unfold cmpZ
    split
    · simp
    · split
      · simp
      · exact cmp_cases as bs
theorem cmp_neg : ∀ as bs : List Int, cmpZ as bs = - cmpZ bs as
  | [], [] => rfl
  | [], _ :: _ => rfl
  | _ :: _, [] => rfl
  | a :: as, b :: bs => by
    have ih := cmp_neg as bs
    unfold cmpZ
    by_cases h1 : a < b
    · rw [if_pos h1, if_neg (by omega), if_pos h1]
    · by_cases h2 : b < a
      · rw [if_neg h1, if_pos h2, if_pos h2]; rfl
      · rw [if_neg h1, if_neg h2, if_neg h2, if_neg h1]; exact ih
theorem cmp_eq : ∀ as bs : List Int, cmpZ as bs = 0 ↔ as = bs
  | [], [] => by simp [cmpZ]
  | [], _ :: _ => by simp [cmpZ]
  | _ :: _, [] => by simp [cmpZ]
  | a :: as, b :: bs => by
    have ih := cmp_eq as bs
    unfold cmpZ
    by_cases h1 : a < b
    · rw [if_pos h1]; constructor
      · intro e; cases e
      · intro e; simp at e; omega
    · by_cases h2 : b < a
      · rw [if_neg h1, if_pos h2]; constructor
        · intro e; cases e
        · intro e; simp at e; omega
      · rw [if_neg h1, if_neg h2, ih]
        obtain rfl : a = b := by omega
        simp
theorem cmp_trans : ∀ as bs cs : List Int, cmpZ as bs ≤ 0 → cmpZ bs cs ≤ 0 → cmpZ as cs ≤ 0
  | [], _, [], _, _ => by simp [cmpZ]
  | [], _, _ :: _, _, _ => by simp [cmpZ]
  | _ :: _, [], _, h, _ => by simp [cmpZ] at h
  | _ :: _, _ :: _, [], _, h => by simp [cmpZ] at h
  | a :: as, b :: bs, c :: cs, h1, h2 => by
    unfold cmpZ at h1 h2 ⊢
    by_cases l1 : a < b
    · by_cases l2 : b < c
      · rw [if_pos (by omega)]; decide
      · rw [if_neg l2] at h2
        by_cases l3 : c < b
        · rw [if_pos l3] at h2; omega
        · rw [if_pos (by omega)]; decide
    · rw [if_neg l1] at h1
      by_cases l4 : b < a
      · rw [if_pos l4] at h1; omega
      · rw [if_neg l4] at h1
        obtain rfl : a = b := by omega
        by_cases l2 : a < c
        · rw [if_pos l2]; decide
        · rw [if_neg l2] at h2 ⊢
          by_cases l3 : c < a
          · rw [if_pos l3] at h2; omega
          · rw [if_neg l3] at h2 ⊢
            exact cmp_trans as bs cs h1 h2
/-- a proper beginning precedes -/
theorem cmp_pre : ∀ (as : List Int) (b : Int) (bs : List Int), cmpZ as (as ++ b :: bs) = -1
  | [], _, _ => rfl
  | a :: as, b, bs => by
    rw [List.cons_append]
    unfold cmpZ
    rw [if_neg (by omega), if_neg (by omega)]
    exact cmp_pre as b bs

def joinZ (a b : List Int) : List Int := if a = [] then b else a ++ 47 :: b
/-- a suitable slash -/
def sufS (zs : List Int) (i : Nat) : Prop := 1 ≤ i ∧ i ≤ 155 ∧ i + 1 < zs.length ∧ zs.length - i - 1 ≤ 100 ∧ zs.getD i 0 = 47
instance (zs : List Int) (i : Nat) : Decidable (sufS zs i) := by unfold sufS; infer_instance
def splI (zs : List Int) : Option Nat := (List.range 156).find? fun i => decide (sufS zs i)
theorem splI_some {zs : List Int} {i : Nat} (h : splI zs = some i) : sufS zs i ∧ ∀ j, j < i → ¬ sufS zs j := by
  unfold splI at h
  have h1 := List.find?_some h
  refine ⟨by simpa using h1, fun j hj hs => ?_⟩
  have := List.find?_range_eq_some.1 h
  have := this.2.2 j hj
  simp [hs] at this
theorem splI_none {zs : List Int} (h : splI zs = none) : ∀ i, ¬ sufS zs i := by
  intro i hs
  unfold splI at h
  rw [List.find?_eq_none] at h
  exact h i (List.mem_range.2 (by have := hs.2.1; omega)) (by simp [hs])
theorem splI_first {zs : List Int} {j : Nat} (h : sufS zs j) (hn : ∀ k, k < j → ¬ sufS zs k) : splI zs = some j := by
  unfold splI
  rw [List.find?_range_eq_some]
  exact ⟨by simpa using h, List.mem_range.2 (by have := h.2.1; omega), fun k hk => by simp [hn k hk]⟩
theorem splI_no {zs : List Int} (h : ∀ k, ¬ sufS zs k) : splI zs = none := by
  unfold splI
  rw [List.find?_eq_none]
  intro k _
  simp [h k]
def splP (zs : List Int) : List Int := if zs.length ≤ 100 then [] else match splI zs with | some i => zs.take i | none => []
def splN (zs : List Int) : List Int := if zs.length ≤ 100 then zs else match splI zs with | some i => zs.drop (i + 1) | none => []
def splB (zs : List Int) : Bool := if zs.length ≤ 100 then true else (splI zs).isSome
theorem spl_short {zs : List Int} (h : zs.length ≤ 100) : splP zs = [] ∧ splN zs = zs ∧ splB zs = true := by
  unfold splP splN splB; rw [if_pos h, if_pos h, if_pos h]; exact ⟨rfl, rfl, rfl⟩
theorem spl_long {zs : List Int} (h : ¬ zs.length ≤ 100) : (∃ i, splI zs = some i ∧ sufS zs i ∧ (∀ j, j < i → ¬ sufS zs j) ∧ splP zs = zs.take i ∧ splN zs = zs.drop (i + 1) ∧ splB zs = true ∧ zs = zs.take i ++ 47 :: zs.drop (i + 1)) ∨
    ((∀ i, ¬ sufS zs i) ∧ splP zs = [] ∧ splN zs = [] ∧ splB zs = false) := by
  unfold splP splN splB
  rw [if_neg h, if_neg h, if_neg h]
  cases hs : splI zs with
  | none => exact .inr ⟨splI_none hs, rfl, rfl, rfl⟩
  | some i =>
    obtain ⟨h1, h2⟩ := splI_some hs
    refine .inl ⟨i, rfl, h1, h2, rfl, rfl, rfl, ?_⟩
    have hi : i < zs.length := by have := h1.2.2.1; omega
    have hg : zs[i] = 47 := by have := h1.2.2.2.2; rw [List.getD_eq_getElem?_getD, List.getElem?_eq_getElem hi] at this; exact this
    rw [← hg, ← List.drop_eq_getElem_cons hi, List.take_append_drop]
end Go.Proofs.YthcbiohmghaobaaDoor.Pnm
