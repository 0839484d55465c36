/-
  The arithmetic of layer 8: paths as lists of bytes. No memory.
-/
import Derived.Test.YtaobokboakkjjaaDoorPk03
namespace Go.Proofs.YtaobokboakkjjaaDoor.Pnm

/-- the components of a path -/
def comps : List Int → List (List Int)
  | [] => [[]]
  | z :: zs => if z = 47 then [] :: comps zs else match comps zs with
    | c :: cs => (z :: c) :: cs
    | [] => [[z]]
theorem comps_ne (zs : List Int) : comps zs ≠ [] := by
  induction zs with
  | nil => simp [comps]
  | cons z zs ih =>
    unfold comps
    split
    · simp
    · split <;> simp
theorem comps_one {c : List Int} (h : (47 : Int) ∉ c) : comps c = [c] := by
  induction c with
  | nil => rfl
  | cons z zs ih =>
    have h1 : ¬ z = 47 := fun e => h (by simp [e])
    have h2 : (47 : Int) ∉ zs := fun e => h (List.mem_cons_of_mem _ e)
    unfold comps
    rw [if_neg h1, ih h2]
theorem comps_app (a c : List Int) : comps (a ++ 47 :: c) = comps a ++ comps c := by
  induction a with
  | nil => simp [comps]
  | cons z zs ih =>
    rw [List.cons_append]
    by_cases hz : z = 47
    · rw [comps, if_pos hz, ih]
      conv => rhs; rw [comps, if_pos hz]
      rfl
    · rw [comps, if_neg hz, ih]
      conv => rhs; rw [comps, if_neg hz]
      cases h : comps zs with
      | nil => exact absurd h (comps_ne zs)
      | cons x xs => rfl
theorem comps_cut {c rest : List Int} (h : (47 : Int) ∉ c) : comps (c ++ 47 :: rest) = c :: comps rest := by
  rw [comps_app, comps_one h]; rfl
theorem comps_noslash (zs : List Int) : ∀ c ∈ comps zs, (47 : Int) ∉ c := by
  induction zs with
  | nil => intro c hc; simp [comps] at hc; subst hc; simp
  | cons z zs ih =>
    intro c hc
    unfold comps at hc
    split at hc
    · rcases List.mem_cons.1 hc with rfl | hc
      · simp
      · exact ih c hc
    · rename_i hz
      split at hc
      · rename_i x xs hx
        rcases List.mem_cons.1 hc with rfl | hc
        · have := ih x (by rw [hx]; simp)
          intro hm
          rcases List.mem_cons.1 hm with e | hm
          · exact hz e.symm
          · exact this hm
        · exact ih c (by rw [hx]; exact List.mem_cons_of_mem _ hc)
      · rename_i hx; exact absurd hx (comps_ne zs)

/-- a component is valid -/
def partOk (c : List Int) : Prop := c ≠ [] ∧ c ≠ [46] ∧ c ≠ [46, 46] ∧ (0 : Int) ∉ c
instance (c : List Int) : Decidable (partOk c) := by unfold partOk; infer_instance
def pathOk (zs : List Int) : Prop := ∀ c ∈ comps zs, partOk c
instance (zs : List Int) : Decidable (pathOk zs) := by unfold pathOk; infer_instance
/-- the error of Check -/
def chE (zs : List Int) : Int := if 65536 < zs.length then 7 else if pathOk zs then 0 else 6
theorem chE_zero {zs : List Int} : chE zs = 0 ↔ zs.length ≤ 65536 ∧ pathOk zs := by
  unfold chE
  by_cases h : 65536 < zs.length
  · rw [if_pos h]; constructor
    · intro e; cases e
    · rintro ⟨h1, _⟩; omega
  · rw [if_neg h]
    by_cases h2 : pathOk zs
    · rw [if_pos h2]; exact ⟨fun _ => ⟨by omega, h2⟩, fun _ => rfl⟩
    · rw [if_neg h2]; exact ⟨fun e => (by cases e), fun h' => absurd h'.2 h2⟩
theorem pathOk_app (a c : List Int) : pathOk (a ++ 47 :: c) ↔ pathOk a ∧ pathOk c := by
  unfold pathOk
  rw [comps_app]
  constructor
  · exact fun h => ⟨fun x hx => h x (List.mem_append_left _ hx), fun x hx => h x (List.mem_append_right _ hx)⟩
  · exact fun h x hx => (List.mem_append.1 hx).elim (h.1 x) (h.2 x)
theorem pathOk_one {c : List Int} (h : (47 : Int) ∉ c) : pathOk c ↔ partOk c := by
  unfold pathOk; rw [comps_one h]; simp

/-- the index of the last slash among the first n bytes, or -1 -/
def lastF (zs : List Int) : Nat → Int
  | 0 => -1
  | n + 1 => if zs.getD n 0 = 47 then n else lastF zs n
def lastZ (zs : List Int) : Int := lastF zs zs.length
theorem lastF_bd (zs : List Int) : ∀ n, -1 ≤ lastF zs n ∧ lastF zs n < n
  | 0 => by simp [lastF]
  | n + 1 => by
    have := lastF_bd zs n
    unfold lastF
    split <;> omega
theorem lastF_none (zs : List Int) : ∀ n, lastF zs n = -1 → ∀ i, i < n → zs.getD i 0 ≠ 47
  | 0, _, i, hi => by omega
  | n + 1, h, i, hi => by
    unfold lastF at h
    split at h
    · omega
    · rename_i hn
      by_cases e : i = n
      · subst e; exact hn
      · exact lastF_none zs n h i (by omega)
theorem lastF_some (zs : List Int) : ∀ (n k : Nat), lastF zs n = k → zs.getD k 0 = 47 ∧ k < n ∧ ∀ i, k < i → i < n → zs.getD i 0 ≠ 47
  | 0, k, h => by exfalso; unfold lastF at h; omega
  | n + 1, k, h => by
    unfold lastF at h
    split at h
    · rename_i hn
      obtain rfl : n = k := by omega
      exact ⟨hn, by omega, fun i h1 h2 => by omega⟩
    · rename_i hn
      obtain ⟨h1, h2, h3⟩ := lastF_some zs n k h
      refine ⟨h1, by omega, fun i hi hi2 => ?_⟩
      by_cases e : i = n
      · subst e; exact hn
      · exact h3 i hi (by omega)
def parZ (zs : List Int) : List Int := if lastZ zs < 0 then [] else zs.take (lastZ zs).toNat
def basZ (zs : List Int) : List Int := zs.drop (lastZ zs + 1).toNat
/-- a path is its base, or its parent, a slash and its base -/
theorem par_bas (zs : List Int) : (47 : Int) ∉ basZ zs ∧ ((lastZ zs < 0 ∧ parZ zs = [] ∧ basZ zs = zs) ∨ (0 ≤ lastZ zs ∧ zs = parZ zs ++ 47 :: basZ zs)) := by
  have mem : ∀ {l : List Int} {x : Int}, x ∈ l → ∃ i, i < l.length ∧ l.getD i 0 = x := fun {l x} h => by
    obtain ⟨i, hi, e⟩ := List.getElem_of_mem h
    exact ⟨i, hi, by rw [List.getD_eq_getElem?_getD, List.getElem?_eq_getElem hi]; exact e⟩
  have hb := lastF_bd zs zs.length
  by_cases h : lastZ zs < 0
  · have e : lastF zs zs.length = -1 := by unfold lastZ at h; omega
    have e' : basZ zs = zs := by unfold basZ lastZ; rw [e]; rfl
    refine ⟨?_, .inl ⟨h, if_pos h, e'⟩⟩
    rw [e']
    intro hm
    obtain ⟨i, hi, hx⟩ := mem hm
    exact lastF_none zs zs.length e i hi hx
  · obtain ⟨k, hk⟩ : ∃ k : Nat, lastF zs zs.length = k := ⟨(lastF zs zs.length).toNat, by unfold lastZ at h; omega⟩
    obtain ⟨h1, h2, h3⟩ := lastF_some zs _ k hk
    have e1 : parZ zs = zs.take k := by unfold parZ; rw [if_neg h]; unfold lastZ; rw [hk]; rfl
    have e2 : basZ zs = zs.drop (k + 1) := by unfold basZ lastZ; rw [hk]; rfl
    refine ⟨?_, .inr ⟨by omega, ?_⟩⟩
    · rw [e2]
      intro hm
      obtain ⟨i, hi, hx⟩ := mem hm
      rw [List.length_drop] at hi
      rw [List.getD_eq_getElem?_getD, List.getElem?_drop, ← List.getD_eq_getElem?_getD] at hx
      exact h3 (k + 1 + i) (by omega) (by omega) hx
    · rw [e1, e2]
      have hg : zs[k] = 47 := by rw [List.getD_eq_getElem?_getD, List.getElem?_eq_getElem h2] at h1; exact h1
      rw [← hg, ← List.drop_eq_getElem_cons h2, List.take_append_drop]

/-- bytewise order -/
def cmpZ : List Int → List Int → Int
  | [], [] => 0
  | [], _ :: _ => -1
  | _ :: _, [] => 1
  | a :: as, b :: bs => if a < b then -1 else if b < a then 1 else cmpZ as bs
theorem cmp_cases : ∀ as bs : List Int, cmpZ as bs = -1 ∨ cmpZ as bs = 0 ∨ cmpZ as bs = 1
  | [], [] => by simp [cmpZ]
  | [], _ :: _ => by simp [cmpZ]
  | _ :: _, [] => by simp [cmpZ]
  | a :: as, b :: bs => by
    unfold cmpZ
    split
    · simp
    · split
      · simp
      · exact cmp_cases as bs
theorem cmp_neg : ∀ as bs : List Int, cmpZ as bs = - cmpZ bs as
  | [], [] => rfl
  | [], _ :: _ => rfl
  | _ :: _, [] => rfl
  | a :: as, b :: bs => by
    have ih := cmp_neg as bs
    unfold cmpZ
    by_cases h1 : a < b
    · rw [if_pos h1, if_neg (by omega), if_pos h1]
    · by_cases h2 : b < a
      · rw [if_neg h1, if_pos h2, if_pos h2]; rfl
      · rw [if_neg h1, if_neg h2, if_neg h2, if_neg h1]; exact ih
theorem cmp_eq : ∀ as bs : List Int, cmpZ as bs = 0 ↔ as = bs
  | [], [] => by simp [cmpZ]
  | [], _ :: _ => by simp [cmpZ]
  | _ :: _, [] => by simp [cmpZ]
  | a :: as, b :: bs => by
    have ih := cmp_eq as bs
    unfold cmpZ
    by_cases h1 : a < b
    · rw [if_pos h1]; constructor
      · intro e; cases e
      · intro e; simp at e; omega
    · by_cases h2 : b < a
      · rw [if_neg h1, if_pos h2]; constructor
        · intro e; cases e
        · intro e; simp at e; omega
      · rw [if_neg h1, if_neg h2, ih]
        obtain rfl : a = b := by omega
        simp
theorem cmp_trans : ∀ as bs cs : List Int, cmpZ as bs ≤ 0 → cmpZ bs cs ≤ 0 → cmpZ as cs ≤ 0
  | [], _, [], _, _ => by simp [cmpZ]
  | [], _, _ :: _, _, _ => by simp [cmpZ]
  | _ :: _, [], _, h, _ => by simp [cmpZ] at h
  | _ :: _, _ :: _, [], _, h => by simp [cmpZ] at h
  | a :: as, b :: bs, c :: cs, h1, h2 => by
    unfold cmpZ at h1 h2 ⊢
    by_cases l1 : a < b
    · by_cases l2 : b < c
      · rw [if_pos (by omega)]; decide
      · rw [if_neg l2] at h2
        by_cases l3 : c < b
        · rw [if_pos l3] at h2; omega
        · rw [if_pos (by omega)]; decide
    · rw [if_neg l1] at h1
      by_cases l4 : b < a
      · rw [if_pos l4] at h1; omega
      · rw [if_neg l4] at h1
        obtain rfl : a = b := by omega
        by_cases l2 : a < c
        · rw [if_pos l2]; decide
        · rw [if_neg l2] at h2 ⊢
          by_cases l3 : c < a
          · rw [if_pos l3] at h2; omega
          · rw [if_neg l3] at h2 ⊢
            exact cmp_trans as bs cs h1 h2
/-- a proper beginning precedes -/
theorem cmp_pre : ∀ (as : List Int) (b : Int) (bs : List Int), cmpZ as (as ++ b :: bs) = -1
  | [], _, _ => rfl
  | a :: as, b, bs => by
    rw [List.cons_append]
    unfold cmpZ
    rw [if_neg (by omega), if_neg (by omega)]
    exact cmp_pre as b bs

def joinZ (a b : List Int) : List Int := if a = [] then b else a ++ 47 :: b
/-- a suitable slash -/
def sufS (zs : List Int) (i : Nat) : Prop := 1 ≤ i ∧ i ≤ 155 ∧ i + 1 < zs.length ∧ zs.length - i - 1 ≤ 100 ∧ zs.getD i 0 = 47
instance (zs : List Int) (i : Nat) : Decidable (sufS zs i) := by unfold sufS; infer_instance
def splI (zs : List Int) : Option Nat := (List.range 156).find? fun i => decide (sufS zs i)
theorem splI_some {zs : List Int} {i : Nat} (h : splI zs = some i) : sufS zs i ∧ ∀ j, j < i → ¬ sufS zs j := by
  unfold splI at h
  have h1 := List.find?_some h
  refine ⟨by simpa using h1, fun j hj hs => ?_⟩
  have := List.find?_range_eq_some.1 h
  have := this.2.2 j hj
  simp [hs] at this
theorem splI_none {zs : List Int} (h : splI zs = none) : ∀ i, ¬ sufS zs i := by
  intro i hs
  unfold splI at h
  rw [List.find?_eq_none] at h
  exact h i (List.mem_range.2 (by have := hs.2.1; omega)) (by simp [hs])
theorem splI_first {zs : List Int} {j : Nat} (h : sufS zs j) (hn : ∀ k, k < j → ¬ sufS zs k) : splI zs = some j := by
  unfold splI
  rw [List.find?_range_eq_some]
  exact ⟨by simpa using h, List.mem_range.2 (by have := h.2.1; omega), fun k hk => by simp [hn k hk]⟩
theorem splI_no {zs : List Int} (h : ∀ k, ¬ sufS zs k) : splI zs = none := by
  unfold splI
  rw [List.find?_eq_none]
  intro k _
  simp [h k]
def splP (zs : List Int) : List Int := if zs.length ≤ 100 then [] else match splI zs with | some i => zs.take i | none => []
def splN (zs : List Int) : List Int := if zs.length ≤ 100 then zs else match splI zs with | some i => zs.drop (i + 1) | none => []
def splB (zs : List Int) : Bool := if zs.length ≤ 100 then true else (splI zs).isSome
theorem spl_short {zs : List Int} (h : zs.length ≤ 100) : splP zs = [] ∧ splN zs = zs ∧ splB zs = true := by
  unfold splP splN splB; rw [if_pos h, if_pos h, if_pos h]; exact ⟨rfl, rfl, rfl⟩
theorem spl_long {zs : List Int} (h : ¬ zs.length ≤ 100) : (∃ i, splI zs = some i ∧ sufS zs i ∧ (∀ j, j < i → ¬ sufS zs j) ∧ splP zs = zs.take i ∧ splN zs = zs.drop (i + 1) ∧ splB zs = true ∧ zs = zs.take i ++ 47 :: zs.drop (i + 1)) ∨
    ((∀ i, ¬ sufS zs i) ∧ splP zs = [] ∧ splN zs = [] ∧ splB zs = false) := by
  unfold splP splN splB
  rw [if_neg h, if_neg h, if_neg h]
  cases hs : splI zs with
  | none => exact .inr ⟨splI_none hs, rfl, rfl, rfl⟩
  | some i =>
    obtain ⟨h1, h2⟩ := splI_some hs
    refine .inl ⟨i, rfl, h1, h2, rfl, rfl, rfl, ?_⟩
    have hi : i < zs.length := by have := h1.2.2.1; omega
    have hg : zs[i] = 47 := by have := h1.2.2.2.2; rw [List.getD_eq_getElem?_getD, List.getElem?_eq_getElem hi] at this; exact this
    rw [← hg, ← List.drop_eq_getElem_cons hi, List.take_append_drop]
end Go.Proofs.YtaobokboakkjjaaDoor.Pnm
/-
  Layer 13: plain mathematics: nodes sorted by path, stably; classes numbered anew. No memory.
-/
namespace Go.Proofs.YtaobokboakkjjaaDoor.Tre
open Go.RowKit Pnm

/-- a node -/
structure Nd where
  k : Int
  p : ByteArray
  m : Int
  t : ByteArray
  d : List Int
  c : Int

def key (x : Nd) : List Int := numsOf x.p
def Le (x y : Nd) : Prop := cmpZ (key x) (key y) ≤ 0
theorem Le.trans {x y z : Nd} (h : Le x y) (h' : Le y z) : Le x z := cmp_trans _ _ _ h h'
theorem le_of_not {x y : Nd} (h : ¬ Le x y) : Le y x := by
  unfold Le at *
  rw [cmp_neg]
  rcases cmp_cases (key x) (key y) with e | e | e <;> rw [e] at h ⊢ <;> omega
theorem Le.anti {x y : Nd} (h : Le x y) (h' : Le y x) : x.p = y.p := by
  unfold Le at *
  rw [cmp_neg] at h'
  exact nums_inj ((cmp_eq (key x) (key y)).mp (by rcases cmp_cases (key x) (key y) with e | e | e <;> rw [e] at h h' ⊢ <;> omega))
theorem le_of_eq {x y : Nd} (h : x.p = y.p) : Le x y := by
  unfold Le
  rw [(cmp_eq _ _).mpr (show key x = key y by unfold key; rw [h])]
  exact Int.le_refl 0

/-- from the end: where a node belongs -/
def bk (l : List Nd) (x : Nd) : Nat → Nat
  | 0 => 0
  | k + 1 => match l[k]? with
    | some y => if 0 < cmpZ (key y) (key x) then bk l x k else k + 1
    | none => bk l x k
theorem bk_le (l : List Nd) (x : Nd) : ∀ n, bk l x n ≤ n
  | 0 => Nat.le_refl 0
  | n + 1 => by
    have ih := bk_le l x n
    unfold bk
    split
    · split <;> omega
    · omega
theorem bk_end (l : List Nd) (x : Nd) : ∀ n (_ : n ≤ l.length), (∀ j (_ : j < n) (h : j < l.length), bk l x n ≤ j → ¬ Le l[j] x) ∧ ∀ (_ : 0 < bk l x n) (h : bk l x n - 1 < l.length), Le l[bk l x n - 1] x
  | 0, _ => ⟨fun j h => absurd h (Nat.not_lt_zero j), fun h => absurd h (Nat.lt_irrefl 0)⟩
  | n + 1, hn => by
    have ih := bk_end l x n (by omega)
    have e : bk l x (n + 1) = if 0 < cmpZ (key (l[n]'(by omega))) (key x) then bk l x n else n + 1 := by
      rw [bk, List.getElem?_eq_getElem (show n < l.length by omega)]
    by_cases c : 0 < cmpZ (key (l[n]'(by omega))) (key x)
    · rw [if_pos c] at e
      rw [e]
      refine ⟨fun j hj h hb => ?_, ih.2⟩
      by_cases h' : j < n
      · exact ih.1 j h' h hb
      · obtain rfl : j = n := by omega
        unfold Le; omega
    · rw [if_neg c] at e
      rw [e]
      refine ⟨fun j hj h hb => by omega, fun _ h => ?_⟩
      unfold Le
      exact Int.not_lt.mp c

def insA (l : List Nd) (x : Nd) : List Nd := l.take (bk l x l.length) ++ x :: l.drop (bk l x l.length)
theorem ins_perm (l : List Nd) (x : Nd) : (insA l x).Perm (x :: l) := by
  unfold insA
  exact List.perm_middle.trans (by rw [List.take_append_drop])
def Srt (l : List Nd) : Prop := l.Pairwise Le
theorem mem_take_le {l : List Nd} {n : Nat} (hs : Srt l) {y x : Nd} (hy : y ∈ l.take n) (h : 0 < n → ∀ (h : n - 1 < l.length), Le l[n - 1] x) (hn : n ≤ l.length) : Le y x := by
  obtain ⟨i, hi, rfl⟩ := List.getElem_of_mem hy
  rw [List.length_take] at hi
  rw [List.getElem_take]
  by_cases e : i = n - 1
  · subst e; exact h (by omega) (by omega)
  · exact Le.trans ((List.pairwise_iff_getElem.mp hs) i (n - 1) (by omega) (by omega) (by omega)) (h (by omega) (by omega))
theorem mem_drop_gt {l : List Nd} {x y : Nd} (hy : y ∈ l.drop (bk l x l.length)) : ¬ Le y x := by
  obtain ⟨i, hi, rfl⟩ := List.getElem_of_mem hy
  rw [List.length_drop] at hi
  rw [List.getElem_drop]
  exact (bk_end l x l.length (Nat.le_refl _)).1 _ (by omega) (by omega) (by omega)
theorem mem_take_ge {l : List Nd} (hs : Srt l) {x y : Nd} (hy : y ∈ l.take (bk l x l.length)) : Le y x :=
  mem_take_le hs hy (fun h0 h => (bk_end l x l.length (Nat.le_refl _)).2 h0 h) (bk_le _ _ _)
theorem ins_srt {l : List Nd} (hs : Srt l) (x : Nd) : Srt (insA l x) := by
  unfold insA Srt
  rw [List.pairwise_append]
  refine ⟨hs.sublist (List.take_sublist _ _), List.pairwise_cons.mpr ⟨fun y hy => le_of_not (mem_drop_gt hy), hs.sublist (List.drop_sublist _ _)⟩, fun a ha b hb => ?_⟩
  rcases List.mem_cons.mp hb with rfl | hb
  · exact mem_take_ge hs ha
  · exact (mem_take_ge hs ha).trans (le_of_not (mem_drop_gt hb))
/-- the nodes of one path keep their order -/
def at_ (q : ByteArray) (l : List Nd) : List Nd := l.filter fun x => decide (x.p = q)
theorem ins_at {l : List Nd} (x : Nd) (q : ByteArray) : at_ q (insA l x) = at_ q (l ++ [x]) := by
  unfold insA at_
  rw [List.filter_append, List.filter_append]
  by_cases h : x.p = q
  · have e : (l.drop (bk l x l.length)).filter (fun y => decide (y.p = q)) = [] := by
      rw [List.filter_eq_nil_iff]
      intro y hy
      have := mem_drop_gt hy
      intro e
      exact this (le_of_eq ((of_decide_eq_true e).trans h.symm))
    rw [List.filter_cons, if_pos (decide_eq_true h), e, List.filter_cons, if_pos (decide_eq_true h), List.filter_nil]
    congr 1
    conv => rhs; rw [← List.take_append_drop (bk l x l.length) l, List.filter_append, e, List.append_nil]
  · rw [List.filter_cons, if_neg (by rw [decide_eq_true_iff]; exact h), List.filter_cons, if_neg (by rw [decide_eq_true_iff]; exact h), List.filter_nil, List.append_nil, ← List.filter_append, List.take_append_drop]
theorem ins_last {l : List Nd} {x : Nd} (h : ∀ y ∈ l, Le y x) : insA l x = l ++ [x] := by
  have e : bk l x l.length = l.length := by
    cases hl : l.length with
    | zero => rfl
    | succ n =>
      rw [bk, List.getElem?_eq_getElem (show n < l.length by omega)]
      have := h l[n] (List.getElem_mem _)
      unfold Le at this
      show (if 0 < cmpZ (key l[n]) (key x) then _ else _) = _
      rw [if_neg (by omega)]
  unfold insA
  rw [e, List.take_of_length_le (Nat.le_refl _), List.drop_of_length_le (Nat.le_refl _)]

/-- sorted by path, stably -/
def srtF (acc l : List Nd) : List Nd := l.foldl insA acc
def srt (l : List Nd) : List Nd := srtF [] l
theorem srtF_perm : ∀ (l acc : List Nd), (srtF acc l).Perm (acc ++ l)
  | [], acc => by rw [List.append_nil]; exact List.Perm.refl _
  | x :: l, acc => by
    refine (srtF_perm l (insA acc x)).trans (((ins_perm acc x).append_right l).trans ?_)
    exact (List.perm_middle (l₁ := acc) (a := x) (l₂ := l)).symm
theorem srt_perm (l : List Nd) : (srt l).Perm l := srtF_perm l []
theorem srtF_srt : ∀ (l : List Nd) {acc : List Nd} (_ : Srt acc), Srt (srtF acc l)
  | [], _, h => h
  | x :: l, _, h => srtF_srt l (ins_srt h x)
theorem srt_srt (l : List Nd) : Srt (srt l) := srtF_srt l List.Pairwise.nil
theorem srtF_at : ∀ (l acc : List Nd) (q : ByteArray), at_ q (srtF acc l) = at_ q (acc ++ l)
  | [], acc, q => by rw [List.append_nil]; rfl
  | x :: l, acc, q => by
    refine (srtF_at l (insA acc x) q).trans ?_
    have h := ins_at (l := acc) x q
    unfold at_ at *
    rw [List.filter_append, h, ← List.filter_append, List.append_assoc]; rfl
theorem srt_at (l : List Nd) (q : ByteArray) : at_ q (srt l) = at_ q l := srtF_at l [] q
theorem srtF_id : ∀ (l acc : List Nd), Srt (acc ++ l) → srtF acc l = acc ++ l
  | [], acc, _ => by rw [List.append_nil]; rfl
  | x :: l, acc, h => by
    have h' := h
    unfold Srt at h'
    rw [List.pairwise_append] at h'
    show srtF (insA acc x) l = _
    rw [ins_last fun y hy => h'.2.2 y hy x (List.mem_cons_self ..)]
    rw [srtF_id l (acc ++ [x]) (by rw [List.append_assoc]; exact h), List.append_assoc]; rfl
theorem srt_id {l : List Nd} (h : Srt l) : srt l = l := srtF_id l [] h
theorem srt_len (l : List Nd) : (srt l).length = l.length := (srt_perm l).length_eq
theorem srt_mem (l : List Nd) (x : Nd) : x ∈ srt l ↔ x ∈ l := (srt_perm l).mem_iff
/-- what is sorted and keeps the order of each path's nodes is determined -/
theorem srt_only : ∀ {a b : List Nd}, Srt a → Srt b → (∀ q, at_ q a = at_ q b) → a = b
  | [], [], _, _, _ => rfl
  | [], y :: b, _, _, h => by
    have := h y.p
    unfold at_ at this
    rw [List.filter_nil, List.filter_cons, if_pos (decide_eq_true rfl)] at this; cases this
  | x :: a, [], _, _, h => by
    have := h x.p
    unfold at_ at this
    rw [List.filter_nil, List.filter_cons, if_pos (decide_eq_true rfl)] at this; cases this
  | x :: a, y :: b, ha, hb, h => by
    have in1 : y ∈ x :: a := by
      have : y ∈ at_ y.p (x :: a) := by rw [h]; exact List.mem_filter.mpr ⟨List.mem_cons_self .., decide_eq_true rfl⟩
      exact (List.mem_filter.mp this).1
    have in2 : x ∈ y :: b := by
      have : x ∈ at_ x.p (y :: b) := by rw [← h]; exact List.mem_filter.mpr ⟨List.mem_cons_self .., decide_eq_true rfl⟩
      exact (List.mem_filter.mp this).1
    have l1 : Le x y := by
      rcases List.mem_cons.mp in1 with e | e
      · rw [e]; exact le_of_eq rfl
      · exact (List.pairwise_cons.mp ha).1 y e
    have l2 : Le y x := by
      rcases List.mem_cons.mp in2 with e | e
      · rw [e]; exact le_of_eq rfl
      · exact (List.pairwise_cons.mp hb).1 x e
    have e : x.p = y.p := l1.anti l2
    have e' : x = y := by
      have := h x.p
      unfold at_ at this
      rw [List.filter_cons, if_pos (decide_eq_true rfl), List.filter_cons, if_pos (decide_eq_true e.symm)] at this
      exact (List.cons.inj this).1
    subst e'
    rw [srt_only (List.pairwise_cons.mp ha).2 (List.pairwise_cons.mp hb).2 fun q => by
      have := h q
      unfold at_ at this ⊢
      rw [List.filter_cons, List.filter_cons] at this
      split at this
      · exact (List.cons.inj this).2
      · exact this]
theorem srt_of {a l : List Nd} (h : Srt a) (h' : ∀ q, at_ q a = at_ q l) : a = srt l := srt_only h (srt_srt l) fun q => (h' q).trans (srt_at l q).symm
/-- nodes of different paths: the order of the list doesn't matter -/
def Apt (l : List Nd) : Prop := l.Pairwise fun x y => x.p ≠ y.p
theorem Apt.perm {a b : List Nd} (h : Apt a) (hp : a.Perm b) : Apt b := (hp.pairwise_iff fun h e => h e.symm).mp h
theorem Apt.inj : ∀ {l : List Nd}, Apt l → ∀ {x y : Nd}, x ∈ l → y ∈ l → x.p = y.p → x = y
  | [], _, _, _, h, _, _ => by cases h
  | z :: l, ha, x, y, hx, hy, e => by
    have h := List.pairwise_cons.mp ha
    rcases List.mem_cons.mp hx with rfl | h1 <;> rcases List.mem_cons.mp hy with rfl | h2
    · rfl
    · exact absurd e (h.1 y h2)
    · exact absurd e.symm (h.1 x h1)
    · exact Apt.inj h.2 h1 h2 e
theorem srt_swap {a b : List Nd} (h : Apt a) (hp : a.Perm b) : srt a = srt b := by
  refine List.Perm.eq_of_pairwise (le := Le) (fun x y hx hy h1 h2 => ?_) (srt_srt a) (srt_srt b) ((srt_perm a).trans (hp.trans (srt_perm b).symm))
  exact h.inj ((srt_mem a x).mp hx) (hp.mem_iff.mpr ((srt_mem b y).mp hy)) (h1.anti h2)
/-- what keeps the paths may be done before or after -/
theorem srt_map {f : Nd → Nd} (hf : ∀ x, (f x).p = x.p) (l : List Nd) : srt (l.map f) = (srt l).map f := by
  symm
  refine srt_of ?_ fun q => ?_
  · have h := srt_srt l
    unfold Srt at *
    rw [List.pairwise_map]
    exact h.imp fun {x y} h => by unfold Le key at *; rw [hf, hf]; exact h
  · have h := srt_at l q
    have e : ∀ l : List Nd, at_ q (l.map f) = (at_ q l).map f := fun l => by
      unfold at_
      rw [List.filter_map]
      exact congrArg _ (List.filter_congr fun x _ => by show decide ((f x).p = q) = _; rw [hf])
    rw [e, e, h]
end Go.Proofs.YtaobokboakkjjaaDoor.Tre
