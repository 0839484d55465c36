/-
  Layer 9: plain mathematics: one record off the front; Parse.
-/
import Derived.Test.YtmbimnnacjbdfaaGreatDoorPz02
namespace Go.Proofs.YtmbimnnacjbdfaaGreatDoor.Pxr
open Go.Lib Go.RowKit

/-- what stands before the first c (all, where there is none) -/
def bef (c : Int) (zs : List Int) : List Int := zs.takeWhile (fun z => z != c)
theorem bef_app {c : Int} {a : List Int} (h : c ∉ a) (b : List Int) : bef c (a ++ c :: b) = a := by
  unfold bef
  induction a with
  | nil => simp
  | cons x a ih =>
    rw [List.mem_cons, not_or] at h
    have hx : (x != c) = true := by simpa using fun e : x = c => h.1 e.symm
    rw [List.cons_append, List.takeWhile_cons, hx, if_pos rfl, ih h.2]
theorem bef_none {c : Int} {a : List Int} (h : c ∉ a) : bef c a = a := by
  induction a with
  | nil => rfl
  | cons x a ih =>
    rw [List.mem_cons, not_or] at h
    have hx : (x != c) = true := by simpa using fun e : x = c => h.1 e.symm
    have := ih h.2
    unfold bef at this ⊢
    rw [List.takeWhile_cons, hx, if_pos rfl, this]
theorem bef_no (c : Int) (zs : List Int) : c ∉ bef c zs := by
  induction zs with
  | nil => intro h; cases h
  | cons x zs ih =>
    unfold bef at ih ⊢
    rw [List.takeWhile_cons]
    by_cases hx : x = c
    · subst hx; simp
    · have hx' : (x != c) = true := by simpa using hx
      rw [hx', if_pos rfl, List.mem_cons, not_or]
      exact ⟨fun e => hx e.symm, ih⟩
theorem bef_split {c : Int} : ∀ {zs : List Int}, c ∈ zs → zs = bef c zs ++ c :: zs.drop ((bef c zs).length + 1)
  | [], h => by cases h
  | x :: zs, h => by
    unfold bef
    by_cases hx : x = c
    · subst hx; simp
    · have hx' : (x != c) = true := by simpa using hx
      have := bef_split (zs := zs) ((List.mem_cons.1 h).resolve_left (fun e => hx e.symm))
      rw [List.takeWhile_cons, hx', if_pos rfl, List.cons_append, List.length_cons, List.drop_succ_cons]
      conv => lhs; rw [this]
      rfl
theorem bef_len {c : Int} {zs : List Int} (h : c ∈ zs) : (bef c zs).length < zs.length := by
  have := congrArg List.length (bef_split h); simp at this; omega
theorem bef_le (c : Int) (zs : List Int) : (bef c zs).length ≤ zs.length := List.takeWhile_prefix _ |>.length_le
theorem bef_take (c : Int) (zs : List Int) : bef c zs = zs.take (bef c zs).length := by
  have := List.takeWhile_prefix (fun z => z != c) (l := zs)
  exact List.prefix_iff_eq_take.1 this
theorem bef_at {c : Int} {zs : List Int} (h : c ∈ zs) : zs.getD (bef c zs).length 0 = c := by
  have h1 := congrArg (fun l : List Int => l.getD (bef c zs).length 0) (bef_split h)
  rw [h1, List.getD_eq_getElem?_getD, List.getElem?_append_right (Nat.le_refl _), Nat.sub_self]; rfl

/-! one record off the front -/
def tkD (zs : List Int) : List Int := bef 32 zs
def tkN (zs : List Int) : Nat := decV (tkD zs)
def tkB (zs : List Int) : List Int := (zs.take (tkN zs - 1)).drop ((tkD zs).length + 1)
def tkK (zs : List Int) : List Int := bef 61 (tkB zs)
def tkV (zs : List Int) : List Int := (tkB zs).drop ((tkK zs).length + 1)
def tkR (zs : List Int) : Rec := (strOfNums (tkK zs), strOfNums (tkV zs))
def tkE (zs : List Int) : Int :=
  if (32 : Int) ∉ zs ∨ decOk (tkD zs) = false ∨ tkN zs = 0 ∨ 999999 < tkN zs then 6
  else if zs.length < tkN zs then 5
  else if tkN zs < (tkD zs).length + 2 ∨ zs.getD (tkN zs - 1) 0 ≠ 10 ∨ (61 : Int) ∉ tkB zs ∨ szN ((tkK zs).length + (tkV zs).length + 3) ≠ tkN zs then 6 else 0

structure TkOk (zs : List Int) : Prop where
  sp : (32 : Int) ∈ zs
  ok : decOk (tkD zs) = true
  pos : 1 ≤ tkN zs
  most : tkN zs ≤ 999999
  len : tkN zs ≤ zs.length
  room : (tkD zs).length + 2 ≤ tkN zs
  nl : zs.getD (tkN zs - 1) 0 = 10
  eq : (61 : Int) ∈ tkB zs
  sz : szN ((tkK zs).length + (tkV zs).length + 3) = tkN zs

theorem tkE_ok (zs : List Int) : tkE zs = 0 ↔ TkOk zs := by
  unfold tkE
  constructor
  · intro h
    by_cases h1 : (32 : Int) ∉ zs ∨ decOk (tkD zs) = false ∨ tkN zs = 0 ∨ 999999 < tkN zs
    · rw [if_pos h1] at h; omega
    · rw [if_neg h1] at h
      by_cases h2 : zs.length < tkN zs
      · rw [if_pos h2] at h; omega
      · rw [if_neg h2] at h
        by_cases h3 : tkN zs < (tkD zs).length + 2 ∨ zs.getD (tkN zs - 1) 0 ≠ 10 ∨ (61 : Int) ∉ tkB zs ∨ szN ((tkK zs).length + (tkV zs).length + 3) ≠ tkN zs
        · rw [if_pos h3] at h; omega
        · simp only [not_or, Decidable.not_not, Nat.not_lt, Bool.not_eq_false] at h1 h2 h3
          exact ⟨h1.1, h1.2.1, by omega, h1.2.2.2, h2, h3.1, h3.2.1, h3.2.2.1, h3.2.2.2⟩
  · intro h
    rw [if_neg, if_neg, if_neg]
    · simp only [not_or, Decidable.not_not, Nat.not_lt]; exact ⟨h.room, h.nl, h.eq, h.sz⟩
    · have := h.len; omega
    · simp only [not_or, Decidable.not_not, Nat.not_lt, Bool.not_eq_false]; exact ⟨h.sp, h.ok, by have := h.pos; omega, h.most⟩

theorem take_snoc_getD {zs : List Int} {n : Nat} (h1 : 1 ≤ n) (h2 : n ≤ zs.length) : zs.take n = zs.take (n - 1) ++ [zs.getD (n - 1) 0] := by
  have e := List.take_succ_eq_append_getElem (l := zs) (i := n - 1) (by omega)
  rw [show n - 1 + 1 = n by omega] at e
  rw [e, List.getD_eq_getElem?_getD, List.getElem?_eq_getElem (by omega)]; rfl

theorem tk_line {zs : List Int} (h : TkOk zs) : zs.take (tkN zs) = decD (tkN zs) ++ [32] ++ tkK zs ++ [61] ++ tkV zs ++ [10] := by
  have hd : decD (tkN zs) = tkD zs := decD_decV _ h.ok
  rw [take_snoc_getD h.pos h.len, h.nl]
  congr 1
  have hs : zs.take ((tkD zs).length + 1) = tkD zs ++ [32] := by
    have := bef_split h.sp
    have hl := bef_len h.sp
    rw [take_snoc_getD (by omega) (by unfold tkD; omega)]
    rw [show (tkD zs).length + 1 - 1 = (tkD zs).length by omega]
    unfold tkD
    rw [← bef_take, bef_at h.sp]
  have e : zs.take (tkN zs - 1) = (zs.take (tkN zs - 1)).take ((tkD zs).length + 1) ++ tkB zs := (List.take_append_drop _ _).symm
  rw [e, List.take_take, Nat.min_eq_left (by have := h.room; omega), hs, hd]
  conv => lhs; rw [bef_split h.eq]
  unfold tkV tkK
  simp only [List.append_assoc, List.cons_append, List.nil_append]

theorem bd_of_take {zs : List Int} (h : ∀ z ∈ zs, 0 ≤ z ∧ z ≤ 255) : (∀ z ∈ tkK zs, 0 ≤ z ∧ z ≤ 255) ∧ (∀ z ∈ tkV zs, 0 ≤ z ∧ z ≤ 255) := by
  have hb : ∀ z ∈ tkB zs, 0 ≤ z ∧ z ≤ 255 := fun z hz => h z (List.mem_of_mem_take (List.mem_of_mem_drop hz))
  exact ⟨fun z hz => hb z ((List.takeWhile_prefix _).subset hz), fun z hz => hb z (List.mem_of_mem_drop hz)⟩
theorem oth_tk {zs : List Int} (hz : ∀ z ∈ zs, 0 ≤ z ∧ z ≤ 255) : oth (tkR zs) = (tkK zs).length + (tkV zs).length + 3 := by
  obtain ⟨h1, h2⟩ := bd_of_take hz
  unfold oth tkR
  rw [← numsOf_length, ← numsOf_length, numsOf_strOfNums h1, numsOf_strOfNums h2]
theorem kv_len (zs : List Int) : (tkK zs).length + (tkV zs).length ≤ zs.length := by
  have h1 : (tkB zs).length ≤ zs.length := by unfold tkB; rw [List.length_drop, List.length_take]; omega
  have h2 : (tkK zs).length ≤ (tkB zs).length := bef_le _ _
  have h3 : (tkV zs).length = (tkB zs).length - ((tkK zs).length + 1) := by unfold tkV; rw [List.length_drop]
  omega
theorem tk_en {zs : List Int} (hz : ∀ z ∈ zs, 0 ≤ z ∧ z ≤ 255) (h : TkOk zs) : zs.take (tkN zs) = enR (tkR zs) ∧ szR (tkR zs) = tkN zs := by
  have e : szR (tkR zs) = tkN zs := by unfold szR; rw [oth_tk hz]; exact h.sz
  refine ⟨?_, e⟩
  obtain ⟨h1, h2⟩ := bd_of_take hz
  rw [tk_line h]
  unfold enR
  rw [e]
  show _ = decD (tkN zs) ++ [32] ++ numsOf (strOfNums (tkK zs)) ++ [61] ++ numsOf (strOfNums (tkV zs)) ++ [10]
  rw [numsOf_strOfNums h1, numsOf_strOfNums h2]

theorem no_space (n : Nat) : (32 : Int) ∉ decD n := fun h => by
  have := decD_digs n
  rw [List.all_eq_true] at this
  have := this _ h
  exact absurd this (by decide)

theorem en_tk {r : Rec} (G : Good r) (rest : List Int) : TkOk (enR r ++ rest) ∧ tkR (enR r ++ rest) = r ∧ tkN (enR r ++ rest) = szR r := by
  have ho : oth r ≤ 1000000 := by have := G.oth; omega
  have hlen := enR_len ho
  obtain ⟨n, hn⟩ : ∃ n, n = szR r := ⟨_, rfl⟩
  have hfix : nDigits n + oth r = n := by rw [hn]; exact szN_fix ho
  have e1 : enR r ++ rest = decD n ++ 32 :: (numsOf r.1 ++ 61 :: numsOf r.2 ++ 10 :: rest) := by unfold enR; rw [hn]; simp
  have hD : tkD (enR r ++ rest) = decD n := by unfold tkD; rw [e1, bef_app (no_space n)]
  have hN : tkN (enR r ++ rest) = n := by unfold tkN; rw [hD, decV_decD]
  have hnp := nDigits_pos n
  have hon : oth r = (numsOf r.1).length + (numsOf r.2).length + 3 := by unfold oth; rw [numsOf_length, numsOf_length]
  have e2 : enR r ++ rest = (decD n ++ 32 :: (numsOf r.1 ++ 61 :: numsOf r.2)) ++ 10 :: rest := by rw [e1]; simp
  have hl2 : (decD n ++ 32 :: (numsOf r.1 ++ 61 :: numsOf r.2)).length = n - 1 := by
    simp only [List.length_append, List.length_cons, decD_len]; omega
  have hB : tkB (enR r ++ rest) = numsOf r.1 ++ 61 :: numsOf r.2 := by
    unfold tkB
    rw [hN, hD, e2, List.take_left' hl2, show decD n ++ 32 :: (numsOf r.1 ++ 61 :: numsOf r.2) = (decD n ++ [32]) ++ (numsOf r.1 ++ 61 :: numsOf r.2) by simp, List.drop_left' (by simp)]
  have hK : tkK (enR r ++ rest) = numsOf r.1 := by unfold tkK; rw [hB, bef_app G.eq]
  have hV : tkV (enR r ++ rest) = numsOf r.2 := by
    unfold tkV
    rw [hK, hB, show numsOf r.1 ++ 61 :: numsOf r.2 = (numsOf r.1 ++ [61]) ++ numsOf r.2 by simp, List.drop_left' (by simp)]
  have hR : tkR (enR r ++ rest) = r := by unfold tkR; rw [hK, hV, strOfNums_numsOf, strOfNums_numsOf]
  refine ⟨⟨?_, ?_, ?_, ?_, ?_, ?_, ?_, ?_, ?_⟩, hR, hN.trans hn⟩
  · rw [e1]; simp
  · rw [hD]; exact decD_ok n
  · rw [hN]; omega
  · rw [hN, hn]; have := G.sz; omega
  · rw [hN, List.length_append, hlen, hn]; omega
  · rw [hD, hN, decD_len]; omega
  · rw [hN, e2, List.getD_eq_getElem?_getD, List.getElem?_append_right (by omega), hl2, Nat.sub_self]; rfl
  · rw [hB]; simp
  · rw [hK, hV, hN, ← hon, hn]; rfl

/-! Parse -/
def pgo : Nat → List Rec → Nat → List Int → List Rec × Nat × Int
  | 0, out, at_, _ => (out, at_, 0)
  | f + 1, out, at_, zs =>
    if zs.length ≤ at_ then (out, zs.length, 0)
    else if tkE (zs.drop at_) ≠ 0 then ([], at_, tkE (zs.drop at_))
    else if chkN out (tkR (zs.drop at_)) ≠ 0 then ([], at_, chkN out (tkR (zs.drop at_)))
    else pgo f (out ++ [tkR (zs.drop at_)]) (at_ + tkN (zs.drop at_)) zs
def parZ (zs : List Int) : List Rec × Nat × Int := if 262144 < zs.length then ([], 0, 7) else pgo (zs.length + 1) [] 0 zs

theorem pgo_stop {f : Nat} {out : List Rec} {at_ : Nat} {zs : List Int} (h : zs.length ≤ at_) : pgo (f + 1) out at_ zs = (out, zs.length, 0) := by
  unfold pgo; rw [if_pos h]
theorem pgo_bad {f : Nat} {out : List Rec} {at_ : Nat} {zs : List Int} (h : ¬ zs.length ≤ at_) (h1 : tkE (zs.drop at_) ≠ 0) : pgo (f + 1) out at_ zs = ([], at_, tkE (zs.drop at_)) := by
  unfold pgo; rw [if_neg h, if_pos h1]
theorem pgo_wrong {f : Nat} {out : List Rec} {at_ : Nat} {zs : List Int} (h : ¬ zs.length ≤ at_) (h1 : tkE (zs.drop at_) = 0) (h2 : chkN out (tkR (zs.drop at_)) ≠ 0) : pgo (f + 1) out at_ zs = ([], at_, chkN out (tkR (zs.drop at_))) := by
  unfold pgo; rw [if_neg h, if_neg (by simpa using h1), if_pos h2]
theorem pgo_go {f : Nat} {out : List Rec} {at_ : Nat} {zs : List Int} (h : ¬ zs.length ≤ at_) (h1 : tkE (zs.drop at_) = 0) (h2 : chkN out (tkR (zs.drop at_)) = 0) : pgo (f + 1) out at_ zs = pgo f (out ++ [tkR (zs.drop at_)]) (at_ + tkN (zs.drop at_)) zs := by
  conv => lhs; unfold pgo
  rw [if_neg h, if_neg (by simpa using h1), if_neg (by simpa using h2)]

/-- what Parse answers, in words -/
theorem pgo_says (zs : List Int) (hz : ∀ z ∈ zs, 0 ≤ z ∧ z ≤ 255) : ∀ (f : Nat) (out : List Rec) (at_ : Nat), zs.length < at_ + f → at_ ≤ zs.length → fmE [] out = 0 → fmB out = zs.take at_ →
    ((pgo f out at_ zs).2.2 = 0 ∧ fmE [] (pgo f out at_ zs).1 = 0 ∧ fmB (pgo f out at_ zs).1 = zs ∧ (pgo f out at_ zs).2.1 = zs.length) ∨
    ((pgo f out at_ zs).2.2 ≠ 0 ∧ (pgo f out at_ zs).1 = [] ∧ (pgo f out at_ zs).2.1 ≤ zs.length)
  | 0, out, at_, h, h', _, _ => by omega
  | f + 1, out, at_, h, h', he, hb => by
    by_cases h0 : zs.length ≤ at_
    · rw [pgo_stop h0]
      exact .inl ⟨rfl, he, by rw [hb, List.take_of_length_le h0], rfl⟩
    · by_cases h1 : tkE (zs.drop at_) ≠ 0
      · rw [pgo_bad h0 h1]; exact .inr ⟨h1, rfl, h'⟩
      · by_cases h2 : chkN out (tkR (zs.drop at_)) ≠ 0
        · rw [pgo_wrong h0 (by simpa using h1) h2]; exact .inr ⟨h2, rfl, h'⟩
        · have T := (tkE_ok _).1 (by simpa using h1)
          have hz' : ∀ z ∈ zs.drop at_, 0 ≤ z ∧ z ≤ 255 := fun z hz0 => hz z (List.mem_of_mem_drop hz0)
          obtain ⟨t1, _⟩ := tk_en hz' T
          have tp := T.pos
          have tl := T.len
          rw [List.length_drop] at tl
          rw [pgo_go h0 (by simpa using h1) (by simpa using h2)]
          refine pgo_says zs hz f _ _ (by omega) (by omega) ?_ ?_
          · rw [fmE_app, List.nil_append]
            refine ⟨he, ?_⟩
            rw [fmE_cons, if_neg h2]; rfl
          · rw [fmB_snoc, hb, ← t1, List.take_add]
theorem pgo_reads : ∀ (rs before : List Rec) (f : Nat), rs.length < f → fmE before rs = 0 → pgo f before (fmB before).length (fmB before ++ fmB rs) = (before ++ rs, (fmB before ++ fmB rs).length, 0)
  | [], before, f, h, _ => by
    obtain ⟨f, rfl⟩ : ∃ g, f = g + 1 := ⟨f - 1, by simp at h; omega⟩
    rw [fmB_nil, List.append_nil, List.append_nil, pgo_stop (Nat.le_refl _)]
  | r :: rs, before, f, h, he => by
    obtain ⟨f, rfl⟩ : ∃ g, f = g + 1 := ⟨f - 1, by simp at h; omega⟩
    rw [fmE_cons] at he
    by_cases h1 : chkN before r ≠ 0
    · rw [if_pos h1] at he; exact absurd he h1
    · rw [if_neg h1] at he
      have G := good_of (chkN_good (by simpa using h1)).1
      obtain ⟨T, tR, tN⟩ := en_tk G (fmB rs)
      have hd : (fmB before ++ fmB (r :: rs)).drop (fmB before).length = enR r ++ fmB rs := by rw [List.drop_left, fmB_cons]
      have hl : (enR r).length = szR r := enR_len (by have := G.oth; omega)
      have hp : 1 ≤ szR r := by rw [← tN]; exact T.pos
      rw [pgo_go (by rw [List.length_append, fmB_cons, List.length_append]; omega) (by rw [hd]; exact (tkE_ok _).2 T) (by rw [hd, tR]; simpa using h1), hd, tR, tN, ← hl]
      have e1 : (fmB before).length + (enR r).length = (fmB (before ++ [r])).length := by rw [fmB_snoc, List.length_append]
      have e2 : fmB before ++ fmB (r :: rs) = fmB (before ++ [r]) ++ fmB rs := by rw [fmB_snoc, fmB_cons, List.append_assoc]
      rw [e1, e2, pgo_reads rs (before ++ [r]) f (by simp at h; omega) he, List.append_assoc, List.singleton_append]
/-- Parse inverts Format -/
theorem par_fm {rs : List Rec} (h : fmE [] rs = 0) (hl : (fmB rs).length ≤ 262144) : parZ (fmB rs) = (rs, (fmB rs).length, 0) := by
  unfold parZ
  rw [if_neg (by omega)]
  have hp : ∀ (l b : List Rec), fmE b l = 0 → l.length ≤ (fmB l).length := by
    intro l
    induction l with
    | nil => intro b _; exact Nat.zero_le _
    | cons r l ih =>
      intro b hb
      have G := (fmE_good _ _ hb r (List.mem_cons_self ..)).1
      rw [fmE_cons] at hb
      by_cases h1 : chkN b r ≠ 0
      · rw [if_pos h1] at hb; exact absurd hb h1
      · rw [if_neg h1] at hb
        have := ih _ hb
        rw [fmB_cons, List.length_append, List.length_cons, enR_len (by have := G.oth; omega)]
        have := szN_bd (rest := oth r) (by have := G.oth; omega)
        unfold szR
        omega
  have := pgo_reads rs [] ((fmB rs).length + 1) (by have := hp rs [] h; omega) h
  rw [fmB_nil, List.nil_append, List.nil_append] at this
  exact this
/-- what is accepted is the encoding of what is read -/
theorem par_says (zs : List Int) (hz : ∀ z ∈ zs, 0 ≤ z ∧ z ≤ 255) : ((parZ zs).2.2 = 0 ∧ fmE [] (parZ zs).1 = 0 ∧ fmB (parZ zs).1 = zs ∧ (parZ zs).2.1 = zs.length) ∨ ((parZ zs).2.2 ≠ 0 ∧ (parZ zs).1 = [] ∧ (parZ zs).2.1 ≤ zs.length) := by
  unfold parZ
  by_cases h : 262144 < zs.length
  · rw [if_pos h]; exact .inr ⟨by decide, rfl, Nat.zero_le _⟩
  · rw [if_neg h]
    exact pgo_says zs hz (zs.length + 1) [] 0 (by omega) (Nat.zero_le _) rfl (by rw [fmB_nil, List.take_zero])
end Go.Proofs.YtmbimnnacjbdfaaGreatDoor.Pxr
