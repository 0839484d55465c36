/-
  Layer 9: the package-level variables that the calls read: the powers of ten, the permitted keys.
-/
import Derived.Test.YthcbiohmghaobaaDoorRows
import Derived.Test.YthcbiohmghaobaaDoorPz01
import Derived.Lib.LaidTab
import Derived.ChangeArms
import Derived.Stop.LaidErr
import Derived.MakeChecks
import Derived.Test.YthcbiohmghaobaaDoorShelf
import Derived.Test.YthcbiohmghaobaaDoorPz02
import Derived.Lib.OthersKept
import Derived.Lib.BufferKept
namespace Go.Proofs.YthcbiohmghaobaaDoor.Pxr
open Go.RowKit

/-- An array of strings that reads as these holds them, cell for cell. -/
theorem cells_of_strs {H : Type} {enc : TypeId × Value → H} {P : Program} {w : World} {base : Nat} {sp : Nat → Bool} {held : Bool} {fuel : Nat} {t e : TypeId} {n : Nat} {cs : List Value} {zs : List (List UInt8)} {p : List MemPlace}
    (ht : P.underlying t = some (.array n e)) (he : P.underlying e = some .string) (hce : P.cellsOf e = 1) (hct : P.cellsOf t = n)
    (h : DataW.trod enc P w base sp held fuel t cs = some (.agg (zs.map fun z => .lit (.string z)), p)) : cs = zs.map fun z => Value.string ⟨z.toArray⟩ := by
  cases fuel with
  | zero => simp [DataW.trod] at h
  | succ fuel =>
    simp only [DataW.trod, ht, hce, hct, Nat.mul_one] at h
    split at h
    · rename_i hl
      obtain ⟨xs, hm, hx⟩ := Option.map_eq_some_iff.1 h
      have hxs : xs.map (·.1) = zs.map fun z => (DataW.lit (.string z) : DataW H) := by
        have := congrArg Prod.fst hx
        simpa using this
      have hxl : xs.length = n := by simpa using Lib.mapM_length hm
      have hzl : zs.length = n := by
        have := congrArg List.length hxs
        simp at this
        omega
      apply List.ext_getElem?
      intro i
      by_cases hi : i < n
      · obtain ⟨b, hb, hf⟩ := Lib.mapM_at hm i i (by simp [hi])
        obtain ⟨z, hc, rfl, _⟩ := DataW.trod_string he hf
        have h1 : cs[i]? = some (.string z) := by
          have := congrArg (·[0]?) hc
          simpa [List.getElem?_take, List.getElem?_drop] using this
        have h2 : (xs.map (·.1))[i]? = some (DataW.lit (.string z.data.toList) : DataW H) := by simp [hb]
        rw [hxs] at h2
        simp only [List.getElem?_map, Option.map_eq_some_iff, DataW.lit.injEq, Lit.string.injEq] at h2
        obtain ⟨z', hz', e⟩ := h2
        subst e
        simp [h1, hz']
      · rw [List.getElem?_eq_none (by omega), List.getElem?_eq_none (by simp; omega)]
    · cases h

/-- WHAT A WALK IS TOLD OF THE VARIABLES -/
structure Vars (w : World) : Prop where
  k0 : w.cell? ⟨1, 0, none⟩ = some (.string kLink)
  k1 : w.cell? ⟨1, 1, none⟩ = some (.string kPath)
  k2 : w.cell? ⟨1, 2, none⟩ = some (.string kSize)

theorem cell_lt {w : World} {b o : Nat} {v : Value} (h : w.cell? ⟨b, o, none⟩ = some v) : b < w.heap.size := by
  rcases Nat.lt_or_ge b w.heap.size with h' | h'
  · exact h'
  · rw [World.cell?] at h
    simp [Array.getElem?_eq_none h'] at h

theorem Vars.below {w w' : World} {B : Nat} (h : Vars w) (hb : Below B w w') (hB : w.heap.size ≤ B) : Vars w' := by
  have l0 := cell_lt h.k0
  have l1 : 1 < B := Nat.lt_of_lt_of_le l0 hB
  exact ⟨(hb.cell (p := ⟨1, 0, none⟩) l1).trans h.k0, (hb.cell (p := ⟨1, 1, none⟩) l1).trans h.k1, (hb.cell (p := ⟨1, 2, none⟩) l1).trans h.k2⟩

theorem Vars.go {w w' : World} (h : Vars w) (hb : Below w.heap.size w w') : Vars w' := h.below hb (Nat.le_refl _)

/-- from what the row lists -/
theorem vars_of {W : World} (h : laidMetH Tryd.prog [("paxtar/paxrec.keys", Rows.laid_paxtar_paxrec_keys)] W)
    (hp : (([("paxtar/paxrec.keys", Rows.laid_paxtar_paxrec_keys)] : List (String × DataW Unit)).all fun x => x.2.handleName?.isNone) = true) : Vars W := by
  rw [MakeChecks.laidMetH_plain _ _ _ hp] at h
  have h2 := h
  obtain ⟨ps, ⟨g', t', cs, fuel, p, q, hg', ht', hvar, hd, _, _⟩, _⟩ := h2
  obtain rfl := Option.some.inj ((by kernel_rfl : Tryd.prog.globalNamed "paxtar/paxrec.keys" = some 1).symm.trans hg')
  obtain rfl := Option.some.inj ((by kernel_rfl : (Tryd.prog.globals[1]?).map (·.type) = some 154).symm.trans ht')
  have hcs := cells_of_strs (zs := [[108, 105, 110, 107, 112, 97, 116, 104], [112, 97, 116, 104], [115, 105, 122, 101]]) Tryd.underlying154 Tryd.underlying9 (by kernel_rfl) (by kernel_rfl) hd
  have hcells := fun i => World.var?_cell (by kernel_rfl : Tryd.prog.globalNamed "paxtar/paxrec.keys" = some 1) hvar i
  have hc : ∀ i, cs[i]? = cs.toList[i]? := fun i => Array.getElem?_toList.symm
  refine ⟨?_, ?_, ?_⟩
  · rw [hcells, hc, hcs]; rfl
  · rw [hcells, hc, hcs]; rfl
  · rw [hcells, hc, hcs]; rfl
end Go.Proofs.YthcbiohmghaobaaDoor.Pxr
/-
  Layer 9: strconv.Itoa.
-/
namespace Go.Proofs.YthcbiohmghaobaaDoor.Pxr
open Go.RowKit

end Go.Proofs.YthcbiohmghaobaaDoor.Pxr
/-
  Layer 9: plain mathematics: one record off the front; Parse.
-/
namespace Go.Proofs.YthcbiohmghaobaaDoor.Pxr
open Go.Lib Go.RowKit

/-- what stands before the first c (all, where there is none) -/
def bef (c : Int) (zs : List Int) : List Int := zs.takeWhile (fun z => z != c)
theorem bef_app {c : Int} {a : List Int} (h : c ∉ a) (b : List Int) : bef c (a ++ c :: b) = a := by
  unfold bef
  induction a with
  | nil => simp
  | cons x a ih =>
    rw [List.mem_cons, not_or] at h
    have hx : (x != c) = true := by simpa using fun e : x = c => h.1 e.symm
    rw [List.cons_append, List.takeWhile_cons, hx, if_pos rfl, ih h.2]
theorem bef_none {c : Int} {a : List Int} (h : c ∉ a) : bef c a = a := by
  induction a with
  | nil => rfl
  | cons x a ih =>
    rw [List.mem_cons, not_or] at h
    have hx : (x != c) = true := by simpa using fun e : x = c => h.1 e.symm
    have := ih h.2
    unfold bef at this ⊢
    rw [List.takeWhile_cons, hx, if_pos rfl, this]
theorem bef_no (c : Int) (zs : List Int) : c ∉ bef c zs := by
  induction zs with
  | nil => intro h; cases h
  | cons x zs ih =>
    unfold bef at ih ⊢
    rw [List.takeWhile_cons]
    by_cases hx : x = c
    · subst hx; simp
    · have hx' : (x != c) = true := by simpa using hx
      rw [hx', if_pos rfl, List.mem_cons, not_or]
      exact ⟨fun e => hx e.symm, ih⟩
theorem bef_split {c : Int} : ∀ {zs : List Int}, c ∈ zs → zs = bef c zs ++ c :: zs.drop ((bef c zs).length + 1)
  | [], h => by cases h
  | x :: zs, h => by
    unfold bef
    by_cases hx : x = c
    · subst hx; simp
    · have hx' : (x != c) = true := by simpa using hx
      have := bef_split (zs := zs) ((List.mem_cons.1 h).resolve_left (fun e => hx e.symm))
      rw [List.takeWhile_cons, hx', if_pos rfl, List.cons_append, List.length_cons, List.drop_succ_cons]
      conv => lhs; rw [this]
      rfl
theorem bef_len {c : Int} {zs : List Int} (h : c ∈ zs) : (bef c zs).length < zs.length := by
  have := congrArg List.length (bef_split h); simp at this; omega
theorem bef_le (c : Int) (zs : List Int) : (bef c zs).length ≤ zs.length := List.takeWhile_prefix _ |>.length_le
theorem bef_take (c : Int) (zs : List Int) : bef c zs = zs.take (bef c zs).length := by
  have := List.takeWhile_prefix (fun z => z != c) (l := zs)
  exact List.prefix_iff_eq_take.1 this
theorem bef_at {c : Int} {zs : List Int} (h : c ∈ zs) : zs.getD (bef c zs).length 0 = c := by
  have h1 := congrArg (fun l : List Int => l.getD (bef c zs).length 0) (bef_split h)
  rw [h1, List.getD_eq_getElem?_getD, List.getElem?_append_right (Nat.le_refl _), Nat.sub_self]; rfl

/-! one record off the front -/
def tkD (zs : List Int) : List Int := bef 32 zs
def tkN (zs : List Int) : Nat := decV (tkD zs)
def tkB (zs : List Int) : List Int := (zs.take (tkN zs - 1)).drop ((tkD zs).length + 1)
def tkK (zs : List Int) : List Int := bef 61 (tkB zs)
def tkV (zs : List Int) : List Int := (tkB zs).drop ((tkK zs).length + 1)
def tkR (zs : List Int) : Rec := (strOfNums (tkK zs), strOfNums (tkV zs))
def tkE (zs : List Int) : Int :=
  if (32 : Int) ∉ zs ∨ decOk (tkD zs) = false ∨ tkN zs = 0 ∨ 999999 < tkN zs then 6
  else if zs.length < tkN zs then 5
  else if tkN zs < (tkD zs).length + 2 ∨ zs.getD (tkN zs - 1) 0 ≠ 10 ∨ (61 : Int) ∉ tkB zs ∨ szN ((tkK zs).length + (tkV zs).length + 3) ≠ tkN zs then 6 else 0

structure TkOk (zs : List Int) : Prop where
  sp : (32 : Int) ∈ zs
  ok : decOk (tkD zs) = true
  pos : 1 ≤ tkN zs
  most : tkN zs ≤ 999999
  len : tkN zs ≤ zs.length
  room : (tkD zs).length + 2 ≤ tkN zs
  nl : zs.getD (tkN zs - 1) 0 = 10
  eq : (61 : Int) ∈ tkB zs
  sz : szN ((tkK zs).length + (tkV zs).length + 3) = tkN zs

theorem tkE_ok (zs : List Int) : tkE zs = 0 ↔ TkOk zs := by
  unfold tkE
  constructor
  · intro h
    by_cases h1 : (32 : Int) ∉ zs ∨ decOk (tkD zs) = false ∨ tkN zs = 0 ∨ 999999 < tkN zs
    · rw [if_pos h1] at h; omega
    · rw [if_neg h1] at h
      by_cases h2 : zs.length < tkN zs
      · rw [if_pos h2] at h; omega
      · rw [if_neg h2] at h
        by_cases h3 : tkN zs < (tkD zs).length + 2 ∨ zs.getD (tkN zs - 1) 0 ≠ 10 ∨ (61 : Int) ∉ tkB zs ∨ szN ((tkK zs).length + (tkV zs).length + 3) ≠ tkN zs
        · rw [if_pos h3] at h; omega
        · simp only [not_or, Decidable.not_not, Nat.not_lt, Bool.not_eq_false] at h1 h2 h3
          exact ⟨h1.1, h1.2.1, by omega, h1.2.2.2, h2, h3.1, h3.2.1, h3.2.2.1, h3.2.2.2⟩
  · intro h
    rw [if_neg, if_neg, if_neg]
    · simp only [not_or, Decidable.not_not, Nat.not_lt]; exact ⟨h.room, h.nl, h.eq, h.sz⟩
    · have := h.len; omega
    · simp only [not_or, Decidable.not_not, Nat.not_lt, Bool.not_eq_false]; exact ⟨h.sp, h.ok, by have := h.pos; omega, h.most⟩

theorem take_snoc_getD {zs : List Int} {n : Nat} (h1 : 1 ≤ n) (h2 : n ≤ zs.length) : zs.take n = zs.take (n - 1) ++ [zs.getD (n - 1) 0] := by
  have e := List.take_succ_eq_append_getElem (l := zs) (i := n - 1) (by omega)
  rw [show n - 1 + 1 = n by omega] at e
  rw [e, List.getD_eq_getElem?_getD, List.getElem?_eq_getElem (by omega)]; rfl

theorem tk_line {zs : List Int} (h : TkOk zs) : zs.take (tkN zs) = decD (tkN zs) ++ [32] ++ tkK zs ++ [61] ++ tkV zs ++ [10] := by
  have hd : decD (tkN zs) = tkD zs := decD_decV _ h.ok
  rw [take_snoc_getD h.pos h.len, h.nl]
  congr 1
  have hs : zs.take ((tkD zs).length + 1) = tkD zs ++ [32] := by
    have := bef_split h.sp
    have hl := bef_len h.sp
    rw [take_snoc_getD (by omega) (by unfold tkD; omega)]
    rw [show (tkD zs).length + 1 - 1 = (tkD zs).length by omega]
    unfold tkD
    rw [← bef_take, bef_at h.sp]
  have e : zs.take (tkN zs - 1) = (zs.take (tkN zs - 1)).take ((tkD zs).length + 1) ++ tkB zs := (List.take_append_drop _ _).symm
  rw [e, List.take_take, Nat.min_eq_left (by have := h.room; omega), hs, hd]
  conv => lhs; rw [bef_split h.eq]
  unfold tkV tkK
  simp only [List.append_assoc, List.cons_append, List.nil_append]

theorem bd_of_take {zs : List Int} (h : ∀ z ∈ zs, 0 ≤ z ∧ z ≤ 255) : (∀ z ∈ tkK zs, 0 ≤ z ∧ z ≤ 255) ∧ (∀ z ∈ tkV zs, 0 ≤ z ∧ z ≤ 255) := by
  have hb : ∀ z ∈ tkB zs, 0 ≤ z ∧ z ≤ 255 := fun z hz => h z (List.mem_of_mem_take (List.mem_of_mem_drop hz))
  exact ⟨fun z hz => hb z ((List.takeWhile_prefix _).subset hz), fun z hz => hb z (List.mem_of_mem_drop hz)⟩
theorem oth_tk {zs : List Int} (hz : ∀ z ∈ zs, 0 ≤ z ∧ z ≤ 255) : oth (tkR zs) = (tkK zs).length + (tkV zs).length + 3 := by
  obtain ⟨h1, h2⟩ := bd_of_take hz
  unfold oth tkR
  rw [← numsOf_length, ← numsOf_length, numsOf_strOfNums h1, numsOf_strOfNums h2]
theorem kv_len (zs : List Int) : (tkK zs).length + (tkV zs).length ≤ zs.length := by
  have h1 : (tkB zs).length ≤ zs.length := by unfold tkB; rw [List.length_drop, List.length_take]; omega
  have h2 : (tkK zs).length ≤ (tkB zs).length := bef_le _ _
  have h3 : (tkV zs).length = (tkB zs).length - ((tkK zs).length + 1) := by unfold tkV; rw [List.length_drop]
  omega
theorem tk_en {zs : List Int} (hz : ∀ z ∈ zs, 0 ≤ z ∧ z ≤ 255) (h : TkOk zs) : zs.take (tkN zs) = enR (tkR zs) ∧ szR (tkR zs) = tkN zs := by
  have e : szR (tkR zs) = tkN zs := by unfold szR; rw [oth_tk hz]; exact h.sz
  refine ⟨?_, e⟩
  obtain ⟨h1, h2⟩ := bd_of_take hz
  rw [tk_line h]
  unfold enR
  rw [e]
  show _ = decD (tkN zs) ++ [32] ++ numsOf (strOfNums (tkK zs)) ++ [61] ++ numsOf (strOfNums (tkV zs)) ++ [10]
  rw [numsOf_strOfNums h1, numsOf_strOfNums h2]

theorem no_space (n : Nat) : (32 : Int) ∉ decD n := fun h => by
  have := decD_digs n
  rw [List.all_eq_true] at this
  have := this _ h
  exact absurd this (by decide)

theorem en_tk {r : Rec} (G : Good r) (rest : List Int) : TkOk (enR r ++ rest) ∧ tkR (enR r ++ rest) = r ∧ tkN (enR r ++ rest) = szR r := by
  have ho : oth r ≤ 1000000 := by have := G.oth; omega
  have hlen := enR_len ho
  obtain ⟨n, hn⟩ : ∃ n, n = szR r := ⟨_, rfl⟩
  have hfix : nDigits n + oth r = n := by rw [hn]; exact szN_fix ho
  have e1 : enR r ++ rest = decD n ++ 32 :: (numsOf r.1 ++ 61 :: numsOf r.2 ++ 10 :: rest) := by unfold enR; rw [hn]; simp
  have hD : tkD (enR r ++ rest) = decD n := by unfold tkD; rw [e1, bef_app (no_space n)]
  have hN : tkN (enR r ++ rest) = n := by unfold tkN; rw [hD, decV_decD]
  have hnp := nDigits_pos n
  have hon : oth r = (numsOf r.1).length + (numsOf r.2).length + 3 := by unfold oth; rw [numsOf_length, numsOf_length]
  have e2 : enR r ++ rest = (decD n ++ 32 :: (numsOf r.1 ++ 61 :: numsOf r.2)) ++ 10 :: rest := by rw [e1]; simp
  have hl2 : (decD n ++ 32 :: (numsOf r.1 ++ 61 :: numsOf r.2)).length = n - 1 := by
    simp only [List.length_append, List.length_cons, decD_len]; omega
  have hB : tkB (enR r ++ rest) = numsOf r.1 ++ 61 :: numsOf r.2 := by
    unfold tkB
    rw [hN, hD, e2, List.take_left' hl2, show decD n ++ 32 :: (numsOf r.1 ++ 61 :: numsOf r.2) = (decD n ++ [32]) ++ (numsOf r.1 ++ 61 :: numsOf r.2) by simp, List.drop_left' (by simp)]
  have hK : tkK (enR r ++ rest) = numsOf r.1 := by unfold tkK; rw [hB, bef_app G.eq]
  have hV : tkV (enR r ++ rest) = numsOf r.2 := by
    unfold tkV
    rw [hK, hB, show numsOf r.1 ++ 61 :: numsOf r.2 = (numsOf r.1 ++ [61]) ++ numsOf r.2 by simp, List.drop_left' (by simp)]
  have hR : tkR (enR r ++ rest) = r := by unfold tkR; rw [hK, hV, strOfNums_numsOf, strOfNums_numsOf]
  refine ⟨⟨?_, ?_, ?_, ?_, ?_, ?_, ?_, ?_, ?_⟩, hR, hN.trans hn⟩
  · rw [e1]; simp
  · rw [hD]; exact decD_ok n
  · rw [hN]; omega
  · rw [hN, hn]; have := G.sz; omega
  · rw [hN, List.length_append, hlen, hn]; omega
  · rw [hD, hN, decD_len]; omega
  · rw [hN, e2, List.getD_eq_getElem?_getD, List.getElem?_append_right (by omega), hl2, Nat.sub_self]; rfl
  · rw [hB]; simp
  · rw [hK, hV, hN, ← hon, hn]; rfl

/-! Parse -/
def pgo : Nat → List Rec → Nat → List Int → List Rec × Nat × Int
  | 0, out, at_, _ => (out, at_, 0)
  | f + 1, out, at_, zs =>
    if zs.length ≤ at_ then (out, zs.length, 0)
    else if tkE (zs.drop at_) ≠ 0 then ([], at_, tkE (zs.drop at_))
    else if chkN out (tkR (zs.drop at_)) ≠ 0 then ([], at_, chkN out (tkR (zs.drop at_)))
    else pgo f (out ++ [tkR (zs.drop at_)]) (at_ + tkN (zs.drop at_)) zs
def parZ (zs : List Int) : List Rec × Nat × Int := if 262144 < zs.length then ([], 0, 7) else pgo (zs.length + 1) [] 0 zs

theorem pgo_stop {f : Nat} {out : List Rec} {at_ : Nat} {zs : List Int} (h : zs.length ≤ at_) : pgo (f + 1) out at_ zs = (out, zs.length, 0) := by
  unfold pgo; rw [if_pos h]
theorem pgo_bad {f : Nat} {out : List Rec} {at_ : Nat} {zs : List Int} (h : ¬ zs.length ≤ at_) (h1 : tkE (zs.drop at_) ≠ 0) : pgo (f + 1) out at_ zs = ([], at_, tkE (zs.drop at_)) := by
  unfold pgo; rw [if_neg h, if_pos h1]
theorem pgo_wrong {f : Nat} {out : List Rec} {at_ : Nat} {zs : List Int} (h : ¬ zs.length ≤ at_) (h1 : tkE (zs.drop at_) = 0) (h2 : chkN out (tkR (zs.drop at_)) ≠ 0) : pgo (f + 1) out at_ zs = ([], at_, chkN out (tkR (zs.drop at_))) := by
  unfold pgo; rw [if_neg h, if_neg (by simpa using h1), if_pos h2]
theorem pgo_go {f : Nat} {out : List Rec} {at_ : Nat} {zs : List Int} (h : ¬ zs.length ≤ at_) (h1 : tkE (zs.drop at_) = 0) (h2 : chkN out (tkR (zs.drop at_)) = 0) : pgo (f + 1) out at_ zs = pgo f (out ++ [tkR (zs.drop at_)]) (at_ + tkN (zs.drop at_)) zs := by
  conv => lhs; unfold pgo
  rw [if_neg h, if_neg (by simpa using h1), if_neg (by simpa using h2)]

/-- what Parse answers, in words -/
theorem pgo_says (zs : List Int) (hz : ∀ z ∈ zs, 0 ≤ z ∧ z ≤ 255) : ∀ (f : Nat) (out : List Rec) (at_ : Nat), zs.length < at_ + f → at_ ≤ zs.length → fmE [] out = 0 → fmB out = zs.take at_ →
    ((pgo f out at_ zs).2.2 = 0 ∧ fmE [] (pgo f out at_ zs).1 = 0 ∧ fmB (pgo f out at_ zs).1 = zs ∧ (pgo f out at_ zs).2.1 = zs.length) ∨
    ((pgo f out at_ zs).2.2 ≠ 0 ∧ (pgo f out at_ zs).1 = [] ∧ (pgo f out at_ zs).2.1 ≤ zs.length)
  | 0, out, at_, h, h', _, _ => by omega
  | f + 1, out, at_, h, h', he, hb => by
    by_cases h0 : zs.length ≤ at_
    · rw [pgo_stop h0]
      exact .inl ⟨rfl, he, by rw [hb, List.take_of_length_le h0], rfl⟩
    · by_cases h1 : tkE (zs.drop at_) ≠ 0
      · rw [pgo_bad h0 h1]; exact .inr ⟨h1, rfl, h'⟩
      · by_cases h2 : chkN out (tkR (zs.drop at_)) ≠ 0
        · rw [pgo_wrong h0 (by simpa using h1) h2]; exact .inr ⟨h2, rfl, h'⟩
        · have T := (tkE_ok _).1 (by simpa using h1)
          have hz' : ∀ z ∈ zs.drop at_, 0 ≤ z ∧ z ≤ 255 := fun z hz0 => hz z (List.mem_of_mem_drop hz0)
          obtain ⟨t1, _⟩ := tk_en hz' T
          have tp := T.pos
          have tl := T.len
          rw [List.length_drop] at tl
          rw [pgo_go h0 (by simpa using h1) (by simpa using h2)]
          refine pgo_says zs hz f _ _ (by omega) (by omega) ?_ ?_
          · rw [fmE_app, List.nil_append]
            refine ⟨he, ?_⟩
            rw [fmE_cons, if_neg h2]; rfl
          · rw [fmB_snoc, hb, ← t1, List.take_add]
theorem pgo_reads : ∀ (rs before : List Rec) (f : Nat), rs.length < f → fmE before rs = 0 → pgo f before (fmB before).length (fmB before ++ fmB rs) = (before ++ rs, (fmB before ++ fmB rs).length, 0)
  | [], before, f, h, _ => by
    obtain ⟨f, rfl⟩ : ∃ g, f = g + 1 := ⟨f - 1, by simp at h; omega⟩
    rw [fmB_nil, List.append_nil, List.append_nil, pgo_stop (Nat.le_refl _)]
  | r :: rs, before, f, h, he => by
    obtain ⟨f, rfl⟩ : ∃ g, f = g + 1 := ⟨f - 1, by simp at h; omega⟩
    rw [fmE_cons] at he
    by_cases h1 : chkN before r ≠ 0
    · rw [if_pos h1] at he; exact absurd he h1
    · rw [if_neg h1] at he
      have G := good_of (chkN_good (by simpa using h1)).1
      obtain ⟨T, tR, tN⟩ := en_tk G (fmB rs)
      have hd : (fmB before ++ fmB (r :: rs)).drop (fmB before).length = enR r ++ fmB rs := by rw [List.drop_left, fmB_cons]
      have hl : (enR r).length = szR r := enR_len (by have := G.oth; omega)
      have hp : 1 ≤ szR r := by rw [← tN]; exact T.pos
      rw [pgo_go (by rw [List.length_append, fmB_cons, List.length_append]; omega) (by rw [hd]; exact (tkE_ok _).2 T) (by rw [hd, tR]; simpa using h1), hd, tR, tN, ← hl]
      have e1 : (fmB before).length + (enR r).length = (fmB (before ++ [r])).length := by rw [fmB_snoc, List.length_append]
      have e2 : fmB before ++ fmB (r :: rs) = fmB (before ++ [r]) ++ fmB rs := by rw [fmB_snoc, fmB_cons, List.append_assoc]
      rw [e1, e2, pgo_reads rs (before ++ [r]) f (by simp at h; omega) he, List.append_assoc, List.singleton_append]
/-- Parse inverts Format -/
theorem par_fm {rs : List Rec} (h : fmE [] rs = 0) (hl : (fmB rs).length ≤ 262144) : parZ (fmB rs) = (rs, (fmB rs).length, 0) := by
  unfold parZ
  rw [if_neg (by omega)]
  have hp : ∀ (l b : List Rec), fmE b l = 0 → l.length ≤ (fmB l).length := by
    intro l
    induction l with
    | nil => intro b _; exact Nat.zero_le _
    | cons r l ih =>
      intro b hb
      have G := (fmE_good _ _ hb r (List.mem_cons_self ..)).1
      rw [fmE_cons] at hb
      by_cases h1 : chkN b r ≠ 0
      · rw [if_pos h1] at hb; exact absurd hb h1
      · rw [if_neg h1] at hb
        have := ih _ hb
        rw [fmB_cons, List.length_append, List.length_cons, enR_len (by have := G.oth; omega)]
        have := szN_bd (rest := oth r) (by have := G.oth; omega)
        unfold szR
        omega
  have := pgo_reads rs [] ((fmB rs).length + 1) (by have := hp rs [] h; omega) h
  rw [fmB_nil, List.nil_append, List.nil_append] at this
  exact this
/-- what is accepted is the encoding of what is read -/
theorem par_says (zs : List Int) (hz : ∀ z ∈ zs, 0 ≤ z ∧ z ≤ 255) : ((parZ zs).2.2 = 0 ∧ fmE [] (parZ zs).1 = 0 ∧ fmB (parZ zs).1 = zs ∧ (parZ zs).2.1 = zs.length) ∨ ((parZ zs).2.2 ≠ 0 ∧ (parZ zs).1 = [] ∧ (parZ zs).2.1 ≤ zs.length) := by
  unfold parZ
  by_cases h : 262144 < zs.length
  · rw [if_pos h]; exact .inr ⟨by decide, rfl, Nat.zero_le _⟩
  · rw [if_neg h]
    exact pgo_says zs hz (zs.length + 1) [] 0 (by omega) (Nat.zero_le _) rfl (by rw [fmB_nil, List.take_zero])
end Go.Proofs.YthcbiohmghaobaaDoor.Pxr
/-
  Layer 9: the program's parseNumber.
-/
namespace Go.Proofs.YthcbiohmghaobaaDoor.Pxr
open Go.RowKit

def pnV (zs : List Int) : Int := if decOk zs = true then min (decV zs : Int) 1099511627777 else 0

/-- as far as pos: digits, none ahead of others a zero -/
theorem dec_all {s : ByteArray} (h : ∀ k, k < s.size → 48 ≤ (numsOf s).getD k 0 ∧ (numsOf s).getD k 0 ≤ 57) (h0 : s.size ≠ 0) (hz : (numsOf s).getD 0 0 = 48 → s.size = 1) : decOk (numsOf s) = true := by
  rw [decOk_iff, numsOf_length]
  exact ⟨fun e => h0 (by rw [← numsOf_length, e]; rfl), h, hz⟩
theorem dec_bad {s : ByteArray} {k : Nat} (hk : k < s.size) (h : ¬ (48 ≤ (numsOf s).getD k 0 ∧ (numsOf s).getD k 0 ≤ 57)) : decOk (numsOf s) = false := by
  rw [Bool.eq_false_iff]
  intro e
  rw [decOk_iff, numsOf_length] at e
  exact h (e.2.1 k hk)

set_option maxRecDepth 100000 in
set_option maxHeartbeats 4000000 in
theorem pnum_any (s : ByteArray) (w : World) (hs : s.size ≤ maxLen) : Calls Tryd.prog 111 #[.string s] w fun e w' =>
    e = .returned (.tuple #[.int .i64 (pnV (numsOf s)), .bool (decOk (numsOf s))]) ∧ Below w.heap.size w w' := by
  unfold maxLen at hs
  obtain ⟨R, hR⟩ := named (pnV (numsOf s))
  obtain ⟨B, hB⟩ := named (decOk (numsOf s))
  rw [← hR.out, ← hB.out]
  have FB : Hid (decOk (numsOf s) = false → R = 0 ∧ B = false) := fun h => ⟨by rw [hR.out]; unfold pnV; rw [h]; rfl, by rw [hB.out, h]⟩
  have FG : Hid (decOk (numsOf s) = true → R = min (decV (numsOf s) : Int) 1099511627777 ∧ B = true) := fun h => ⟨by rw [hR.out]; unfold pnV; rw [if_pos h], by rw [hB.out, h]⟩
  have HA : Hid (∀ j (h : j < s.size), (numsOf s).getD j 0 = (s[j].toNat : Int)) := num_at s
  have NL := Lib.hid (numsOf_length s)
  clear hR hB
  by_cases he : s = { data := #[] }
  · obtain ⟨q1, q2⟩ := FB.out (by rw [he]; rfl)
    have hl : s.toList = [] := by rw [he, ByteArray.toList_eq]
    clear FG HA NL
    have Q := Lib.hid (And.intro q1 q2)
    have hi : s.toList.isEmpty = true := by rw [hl]; rfl
    clear q1 q2 he
    go_enter Tryd.func111, Tryd.ntmps111
    go_wp2
    go_ret2
    rw [Q.out.1, Q.out.2]
    exact ⟨rfl, Below.refl _ _⟩
  · have h0 : 0 < s.size := by
      rcases Nat.eq_zero_or_pos s.size with h | h
      · exact absurd (nums_inj (by rw [List.length_eq_zero_iff.1 ((NL.out).trans h)]; rfl)) he
      · exact h
    have hi := empty_no he
    have hx0 := HA.out 0 h0
    obtain ⟨x, hxe⟩ : ∃ x : Int, ((s[0].toNat : Nat) : Int) = x := ⟨_, rfl⟩
    rw [hxe] at hx0
    by_cases hz : x = 48 ∧ s ≠ { data := #[48] }
    · have hbad : decOk (numsOf s) = false := by
        rw [Bool.eq_false_iff]
        intro e
        rw [decOk_iff] at e
        have h1 := e.2.2 (by rw [hx0]; exact hz.1)
        apply hz.2
        apply nums_inj
        match hm : numsOf s, h1 with
        | [y], _ => rw [hm] at hx0; change y = x at hx0; rw [hx0, hz.1]; rfl
      have Q := Lib.hid (FB.out hbad)
      have m1 : (x == 48) = true := by rw [hz.1]; rfl
      have m2 : (s.toList == [48]) = false := by
        have := bytes_neq hz.2; rwa [show ({ data := #[48] } : ByteArray).toList = [48] by rw [ByteArray.toList_eq]] at this
      clear FG HA NL FB hx0 hz hbad he
      go_enter Tryd.func111, Tryd.ntmps111
      go_wp2
      go_ret2
      rw [Q.out.1, Q.out.2]
      exact ⟨rfl, Below.refl _ _⟩
    · have hz1 : Hid ((numsOf s).getD 0 0 = 48 → s.size = 1) := fun e => by
        have : s = { data := #[48] } := by
          by_cases c : s = { data := #[48] }
          · exact c
          · exact absurd ⟨by rw [← hx0]; exact e, c⟩ hz
        rw [this]; rfl
      have hk0 : (w.iter s 0).heap[w.heap.size]? = some (.stringIter s 0) := World.iter_heap w s 0
      have hb0 : Below w.heap.size w (w.iter s 0) := (Below.refl _ w).alloc (Nat.le_refl _) _
      have hS0 : s.size ≠ 0 := by omega
      have HS0 := Lib.hid hS0
      have tests : ((x == 48) = true ∧ (s.toList == [48]) = true) ∨ (x == 48) = false := by
        by_cases c : x = 48
        · refine .inl ⟨by rw [c]; rfl, ?_⟩
          have : s = { data := #[48] } := by
            by_cases c' : s = { data := #[48] }
            · exact c'
            · exact absurd ⟨c, c'⟩ hz
          rw [this, ByteArray.toList_eq]; rfl
        · exact .inr (by simpa using c)
      clear hx0 hz he hS0
      have HK := Lib.hid hk0; have HB := Lib.hid hb0
      clear hk0 hb0
      rcases tests with ⟨m1, m2⟩ | m1
      all_goals
        go_enter Tryd.func111, Tryd.ntmps111
        go_wp2
        go_loopw [4] (fun n wr => ∃ pos : Nat, pos ≤ s.size ∧ n = .int .i64 (min (decV ((numsOf s).take pos) : Int) 1099511627777) ∧ (∀ k, k < pos → 48 ≤ (numsOf s).getD k 0 ∧ (numsOf s).getD k 0 ≤ 57) ∧ wr.heap[w.heap.size]? = some (.stringIter s pos) ∧ Below w.heap.size w wr)
          (fun _ wr => s.size - wr.iterPos w.heap.size)
        case atStart => exact ⟨0, Nat.zero_le _, rfl, fun k hk => by omega, HK.out, HB.out⟩
        case round =>
          obtain ⟨pos, hps, rfl, hdg, hk, hnx⟩ := hrel
          have HD := Lib.hid hdg
          clear hdg
          have hmu : wr.iterPos w.heap.size = pos := by simp [World.iterPos, hk]
          by_cases hp : pos < s.size
          · have hx := HA.out pos hp
            obtain ⟨nn, hnn⟩ : ∃ n : Int, min (decV ((numsOf s).take pos) : Int) 1099511627777 = n := ⟨_, rfl⟩
            rw [hnn]
            have n0 : 0 ≤ nn := by omega
            have n1 : nn ≤ 1099511627777 := by omega
            by_cases ha : (s[pos]'hp).toNat < 128
            · have hnext : ∀ ty, (Instr.next (.pointer (some ⟨w.heap.size, 0, none⟩)) true ty).run Tryd.prog wr = _ := fun ty => Lib.run_next_ascii_at wr w.heap.size s pos ty hk hp ha
              have hk1 := Lib.iterAt_heap wr w.heap.size s pos (pos + 1) hk
              have hnx1 : Below w.heap.size w (wr.iterAt w.heap.size s (pos + 1)) := Lib.below_iterAt hnx (Nat.le_refl _) s (pos + 1)
              have hmu1 : (wr.iterAt w.heap.size s (pos + 1)).iterPos w.heap.size = pos + 1 := by simp [World.iterPos, hk1]
              generalize wr.iterAt w.heap.size s (pos + 1) = W1 at hnext hk1 hnx1 hmu1
              obtain ⟨y, hye⟩ : ∃ y : Int, ((s[pos].toNat : Nat) : Int) = y := ⟨_, rfl⟩
              rw [hye] at hx
              have y0 : 0 ≤ y := by omega
              have y1 : y < 128 := by omega
              have HX := Lib.hid hx; have HN := Lib.hid hnn; have HK1 := Lib.hid hk1; have HX1 := Lib.hid hnx1; have HM := Lib.hid hmu; have HM1 := Lib.hid hmu1
              clear hx hnn hk1 hnx1 hmu hmu1 hk hnx
              by_cases c1 : y < 48
              · have Q := Lib.hid (FB.out (dec_bad hp (by rw [HX.out]; omega)))
                go_wp2
                go_ret2
                rw [Q.out.1, Q.out.2]
                exact ⟨rfl, HX1.out⟩
              · by_cases c2 : 57 < y
                · have Q := Lib.hid (FB.out (dec_bad hp (by rw [HX.out]; omega)))
                  go_wp2
                  go_ret2
                  rw [Q.out.1, Q.out.2]
                  exact ⟨rfl, HX1.out⟩
                · go_wp2_with (first | (refine wpList_min2 ..))
                  go_roundw
                  case rel =>
                    refine ⟨pos + 1, hp, ?_, fun k hk => ?_, HK1.out, HX1.out⟩
                    · have e1 := decV_take_succ (numsOf s) pos (by rw [NL.out]; exact hp)
                      rw [HX.out] at e1
                      have e2 := HN.out
                      congr 1
                      omega
                    · by_cases e : k = pos
                      · rw [e, HX.out]; omega
                      · exact HD.out k (by omega)
                  case measure => rw [HM.out, HM1.out]; omega
            · have hh := decode_high s pos hp (by omega)
              have hnext : ∀ ty, (Instr.next (.pointer (some ⟨w.heap.size, 0, none⟩)) true ty).run Tryd.prog wr = _ := fun ty => Lib.run_next_any_at wr w.heap.size s pos ty hk hp
              have hnx1 : Below w.heap.size w (wr.iterAt w.heap.size s (pos + (Utf8.decode s pos).2)) := Lib.below_iterAt hnx (Nat.le_refl _) s _
              generalize wr.iterAt w.heap.size s (pos + (Utf8.decode s pos).2) = W1 at hnext hnx1
              obtain ⟨y, hye⟩ : ∃ y : Int, (((Utf8.decode s pos).1 : Nat) : Int) = y := ⟨_, rfl⟩
              rw [hye] at hnext
              have y1 : 57 < y := by omega
              have y2 : ¬ y < 48 := by omega
              have Q := Lib.hid (FB.out (dec_bad hp (by rw [hx]; omega)))
              have HX1 := Lib.hid hnx1
              clear hx hnn hnx1 hmu hk hnx hh hye
              go_wp2
              go_ret2
              rw [Q.out.1, Q.out.2]
              exact ⟨rfl, HX1.out⟩
          · have hnext : ∀ ty, (Instr.next (.pointer (some ⟨w.heap.size, 0, none⟩)) true ty).run Tryd.prog wr = _ := fun ty => Lib.run_next_end_at wr w.heap.size s pos ty hk hp
            obtain rfl : pos = s.size := by omega
            have Q := FG.out (dec_all HD.out HS0.out hz1.out)
            rw [List.take_of_length_le (by rw [NL.out]; exact Nat.le_refl _), ← Q.1]
            have HQ := Lib.hid Q.2
            have HX1 := Lib.hid hnx
            clear Q hmu hnx hk
            go_wp2
            go_ret2
            rw [HQ.out]
            exact ⟨rfl, HX1.out⟩
end Go.Proofs.YthcbiohmghaobaaDoor.Pxr
/-
  Layer 9: the program's permitted, checkText, checkNumber, Check.
-/
namespace Go.Proofs.YthcbiohmghaobaaDoor.Pxr
open Go.RowKit

theorem tLink : kLink.toList = [108, 105, 110, 107, 112, 97, 116, 104] := by rw [ByteArray.toList_eq]
theorem tPath : kPath.toList = [112, 97, 116, 104] := by rw [ByteArray.toList_eq]
theorem tSize : kSize.toList = [115, 105, 122, 101] := by rw [ByteArray.toList_eq]
theorem eqT {a b : ByteArray} (h : a = b) : (a.toList == b.toList) = true := by rw [h]; exact beq_self_eq_true _
theorem eqF {a b : ByteArray} (h : ¬ a = b) : (a.toList == b.toList) = false := bytes_neq h
/-- the tests on a key -/
theorem key_tests (k : ByteArray) (b0 b1 b2 : Bool) (h0 : decide (k = kLink) = b0) (h1 : decide (k = kPath) = b1) (h2 : decide (k = kSize) = b2) :
    (k.toList == [108, 105, 110, 107, 112, 97, 116, 104]) = b0 ∧ (k.toList == [112, 97, 116, 104]) = b1 ∧ (k.toList == [115, 105, 122, 101]) = b2 := by
  rw [← tLink, ← tPath, ← tSize, ← h0, ← h1, ← h2]
  refine ⟨?_, ?_, ?_⟩
  · by_cases h : k = kLink
    · rw [decide_eq_true h]; exact eqT h
    · rw [decide_eq_false h]; exact eqF h
  · by_cases h : k = kPath
    · rw [decide_eq_true h]; exact eqT h
    · rw [decide_eq_false h]; exact eqF h
  · by_cases h : k = kSize
    · rw [decide_eq_true h]; exact eqT h
    · rw [decide_eq_false h]; exact eqF h

theorem idx_keys (w : World) (xs : Array Value) (i : Nat) (hi : i < 3) (s : ByteArray) (hx : xs[i]? = some (.string s)) : (Instr.index 154 (.agg xs) (.int .i64 (i : Int))).run Tryd.prog w = .ok (.string s) w := by
  have he : (Tryd.prog.info? 9).map (·.size) = some 1 := by kernel_rfl
  cases hq : Tryd.prog.info? 9 with
  | none => simp [hq] at he
  | some j =>
    have hs : j.size = 1 := by simpa [hq] using he
    simp [Instr.index, asIntOf, run_underlying Tryd.underlying154, hi, sizeOf, typeInfo, hq, hs, part, hx]

/-- where the loop over the keys stands -/
def PermRel (b0 b1 b2 : Bool) (i : Value) : Prop := i = .int .i64 0 ∨ (i = .int .i64 1 ∧ b0 = false) ∨ (i = .int .i64 2 ∧ b0 = false ∧ b1 = false) ∨ (i = .int .i64 3 ∧ b0 = false ∧ b1 = false ∧ b2 = false)

set_option maxRecDepth 100000 in
set_option maxHeartbeats 1000000 in
theorem perm_any (k : ByteArray) (w : World) (V : Vars w) (B : Bool) (hB : B = (decide (k = kLink) || decide (k = kPath) || decide (k = kSize))) : Calls Tryd.prog 106 #[.string k] w fun e w' => e = .returned (.bool B) ∧ w = w' := by
  have c0 := V.k0; have c1 := V.k1; have c2 := V.k2
  obtain ⟨b0, h0⟩ : ∃ b, decide (k = kLink) = b := ⟨_, rfl⟩
  obtain ⟨b1, h1⟩ : ∃ b, decide (k = kPath) = b := ⟨_, rfl⟩
  obtain ⟨b2, h2⟩ : ∃ b, decide (k = kSize) = b := ⟨_, rfl⟩
  obtain ⟨t0, t1, t2⟩ := key_tests k b0 b1 b2 h0 h1 h2
  rw [h0, h1, h2] at hB
  have HB := Lib.hid hB
  have T0 := Lib.hid t0; have T1 := Lib.hid t1; have T2 := Lib.hid t2
  clear V h0 h1 h2 hB t0 t1 t2
  go_enter Tryd.func106, Tryd.ntmps106
  go_wp2_with fail
  clear c0 c1 c2
  go_loop [6] (fun i => PermRel b0 b1 b2 i) (fun i => 3 - (intOf i).toNat)
  case atStart => exact .inl rfl
  case round =>
    rcases hrel with rfl | ⟨rfl, x0⟩ | ⟨rfl, x0, x1⟩ | ⟨rfl, x0, x1, x2⟩
    · have t := T0.out
      have hix := idx_keys w #[.string kLink, .string kPath, .string kSize] 0 (by decide) _ rfl
      change (Instr.index 154 _ (.int .i64 0)).run Tryd.prog w = _ at hix
      cases b0 with
      | true =>
        go_wp2
        go_ret
        exact ⟨by rw [HB.out]; rfl, rfl⟩
      | false =>
        go_wp2
        go_round
        case rel => exact .inr (.inl ⟨rfl, rfl⟩)
        case measure => simp [intOf]
    · have t := T1.out
      have hix := idx_keys w #[.string kLink, .string kPath, .string kSize] 1 (by decide) _ rfl
      change (Instr.index 154 _ (.int .i64 1)).run Tryd.prog w = _ at hix
      have X0 := Lib.hid x0
      clear x0
      cases b1 with
      | true =>
        go_wp2
        go_ret
        exact ⟨by rw [HB.out, X0.out]; rfl, rfl⟩
      | false =>
        go_wp2
        go_round
        case rel => exact .inr (.inr (.inl ⟨rfl, X0.out, rfl⟩))
        case measure => simp [intOf]
    · have t := T2.out
      have hix := idx_keys w #[.string kLink, .string kPath, .string kSize] 2 (by decide) _ rfl
      change (Instr.index 154 _ (.int .i64 2)).run Tryd.prog w = _ at hix
      have X0 := Lib.hid x0; have X1 := Lib.hid x1
      clear x0 x1
      cases b2 with
      | true =>
        go_wp2
        go_ret
        exact ⟨by rw [HB.out, X0.out, X1.out]; rfl, rfl⟩
      | false =>
        go_wp2
        go_round
        case rel => exact .inr (.inr (.inr ⟨rfl, X0.out, X1.out, rfl⟩))
        case measure => simp [intOf]
    · have X0 := Lib.hid x0; have X1 := Lib.hid x1; have X2 := Lib.hid x2
      clear x0 x1 x2
      go_wp2
      go_ret
      exact ⟨by rw [HB.out, X0.out, X1.out, X2.out]; rfl, rfl⟩

set_option maxHeartbeats 1000000 in
theorem ctext_any (v : ByteArray) (w : World) (hv : v.size ≤ maxLen) : Calls Tryd.prog 108 #[.string v] w fun e w' => e = .returned (.int .i64 (chkT v)) ∧ w = w' := by
  unfold maxLen at hv
  obtain ⟨R, hR⟩ := named (chkT v)
  rw [← hR.out]
  by_cases h1 : 65536 < v.size
  · have e := Lib.hid (show R = 7 by rw [hR.out]; unfold chkT; rw [if_pos h1])
    have m1 : (65536 : Int) < v.size := by omega
    clear h1 hR
    go_enter Tryd.func108, Tryd.ntmps108
    go_wp2
    go_ret
    exact ⟨by rw [e.out]; rfl, rfl⟩
  · have m1 : ¬ (65536 : Int) < v.size := by omega
    obtain ⟨k, hk⟩ := named (Lib.indexByte v.data.toList 0)
    have hk0 := idx_str v
    rw [← hk.out] at hk0
    by_cases h2 : v = { data := #[] }
    · have e := Lib.hid (show R = 6 by rw [hR.out]; unfold chkT; rw [if_neg h1, if_pos (.inl (by rw [h2]; rfl))])
      have hi : v.toList.isEmpty = true := by rw [h2, ByteArray.toList_eq]; rfl
      have hi2 : v.toList = [] := by rw [h2, ByteArray.toList_eq]
      clear h1 hR h2 hk0 hi2
      go_enter Tryd.func108, Tryd.ntmps108
      go_wp2
      go_ret
      exact ⟨by rw [e.out]; rfl, rfl⟩
    · have hi := empty_no h2
      have hs0 : v.size ≠ 0 := fun e => h2 (nums_inj (by rw [List.length_eq_zero_iff.1 ((numsOf_length v).trans e)]; rfl))
      by_cases h3 : (0 : Int) ∈ numsOf v
      · have e := Lib.hid (show R = 6 by rw [hR.out]; unfold chkT; rw [if_neg h1, if_pos (.inr h3)])
        have m2 : 0 ≤ k := hk0.2 h3
        clear h1 hR h2 hk0 h3 hs0
        go_enter Tryd.func108, Tryd.ntmps108
        go_wp2_with fail
        refine (Tryd.strings_IndexByte v 0 w).mono ?_; rintro e w1 ⟨rfl, rfl⟩
        rw [show (0 : Int).toNat.toUInt8 = 0 from rfl, ← hk.out]
        go_wp2
        go_ret
        exact ⟨by rw [e.out]; rfl, rfl⟩
      · have e := Lib.hid (show R = 0 by rw [hR.out]; unfold chkT; rw [if_neg h1, if_neg (fun h => h.elim hs0 h3)])
        have m2 : ¬ 0 ≤ k := fun h => h3 (hk0.1 h)
        clear h1 hR h2 hk0 h3 hs0
        go_enter Tryd.func108, Tryd.ntmps108
        go_wp2_with fail
        refine (Tryd.strings_IndexByte v 0 w).mono ?_; rintro e w1 ⟨rfl, rfl⟩
        rw [show (0 : Int).toNat.toUInt8 = 0 from rfl, ← hk.out]
        go_wp2
        go_ret
        exact ⟨by rw [e.out]; rfl, rfl⟩

set_option maxHeartbeats 1000000 in
theorem cnum_any (v : ByteArray) (w : World) (hv : v.size ≤ maxLen) : Calls Tryd.prog 107 #[.string v] w fun e w' => e = .returned (.int .i64 (chkS v)) ∧ Below w.heap.size w w' := by
  obtain ⟨R, hR⟩ := named (chkS v)
  rw [← hR.out]
  have P := pnum_any v w hv
  obtain ⟨n, hn⟩ := named (pnV (numsOf v))
  obtain ⟨B, hB⟩ := named (decOk (numsOf v))
  rw [← hn.out, ← hB.out] at P
  have HP := Lib.hid P
  clear P
  by_cases h1 : decOk (numsOf v) = false
  · have e := Lib.hid (show R = 6 by rw [hR.out]; unfold chkS; rw [if_pos h1])
    have b := hB.out.trans h1
    subst b
    clear hB hR hn h1
    go_enter Tryd.func107, Tryd.ntmps107
    go_wp2_with fail
    refine HP.out.mono ?_; rintro e w1 ⟨rfl, b1⟩
    go_wp2
    go_ret
    exact ⟨by rw [e.out]; rfl, b1⟩
  · have h1' : decOk (numsOf v) = true := by simpa using h1
    have b := hB.out.trans h1'
    have en := hn.out
    unfold pnV at en
    rw [if_pos h1'] at en
    by_cases h2 : 1099511627776 < decV (numsOf v)
    · have e := Lib.hid (show R = 3 by rw [hR.out]; unfold chkS; rw [if_neg h1, if_pos h2])
      have m : (1099511627776 : Int) < n := by omega
      subst b
      clear hB hR hn h1 h1' en h2
      go_enter Tryd.func107, Tryd.ntmps107
      go_wp2_with fail
      refine HP.out.mono ?_; rintro e w1 ⟨rfl, b1⟩
      go_wp2
      go_ret
      exact ⟨by rw [e.out]; rfl, b1⟩
    · have e := Lib.hid (show R = 0 by rw [hR.out]; unfold chkS; rw [if_neg h1, if_neg h2])
      have m : ¬ (1099511627776 : Int) < n := by omega
      subst b
      clear hB hR hn h1 h1' en h2
      go_enter Tryd.func107, Tryd.ntmps107
      go_wp2_with fail
      refine HP.out.mono ?_; rintro e w1 ⟨rfl, b1⟩
      go_wp2
      go_ret
      exact ⟨by rw [e.out]; rfl, b1⟩

/-- a record as a value -/
abbrev rv (r : Rec) : Value := .agg #[.string r.1, .string r.2]

set_option maxHeartbeats 1000000 in
theorem check_any (k v : ByteArray) (w : World) (V : Vars w) (hv : v.size ≤ maxLen) : Calls Tryd.prog 96 #[.agg #[.string k, .string v]] w fun e w' => e = .returned (.int .i64 (chk (k, v))) ∧ Below w.heap.size w w' := by
  obtain ⟨R, hR⟩ := named (chk (k, v))
  rw [← hR.out]
  have HP := Lib.hid fun (B : Bool) hB (w' : World) (hb : Below w.heap.size w w') => perm_any k w' (V.go hb) B hB
  have HT := Lib.hid fun (w' : World) => ctext_any v w' hv
  have HS := Lib.hid fun (w' : World) => cnum_any v w' hv
  have b0 : Hid (Below w.heap.size w (w.alloc (.cells #[.string k, .string v] 120))) := (Below.refl _ w).alloc (Nat.le_refl _) _
  have hd := hR.out
  unfold chk at hd
  dsimp only at hd
  by_cases h1 : k = kLink ∨ k = kPath
  · rw [if_pos h1] at hd
    have h3 : k ≠ kSize := by rcases h1 with rfl | rfl <;> decide
    have t3 := (key_tests k _ _ _ rfl rfl rfl).2.2
    rw [decide_eq_false h3] at t3
    have hp : (true : Bool) = (decide (k = kLink) || decide (k = kPath) || decide (k = kSize)) := by
      rcases h1 with rfl | rfl <;> decide
    have HPP := Lib.hid fun w' hb => HP.out true hp w' hb
    have HD := Lib.hid hd
    clear hR hd h1 h3 hp HP
    go_enter Tryd.func96, Tryd.ntmps96
    go_wp2_with fail
    refine (HPP.out _ b0.out).mono ?_; rintro e w1 ⟨rfl, rfl⟩
    go_wp2_with fail
    refine (HT.out _).mono ?_; rintro e w1 ⟨rfl, rfl⟩
    go_wp2
    go_ret
    exact ⟨by rw [HD.out]; rfl, b0.out⟩
  · rw [if_neg h1] at hd
    by_cases h2 : k = kSize
    · rw [if_pos h2] at hd
      have t3 := (key_tests k _ _ _ rfl rfl rfl).2.2
      rw [decide_eq_true h2] at t3
      have hp : (true : Bool) = (decide (k = kLink) || decide (k = kPath) || decide (k = kSize)) := by
        rw [h2]; decide
      have HPP := Lib.hid fun w' hb => HP.out true hp w' hb
      have HD := Lib.hid hd
      clear hR hd h1 h2 hp HP
      go_enter Tryd.func96, Tryd.ntmps96
      go_wp2_with fail
      refine (HPP.out _ b0.out).mono ?_; rintro e w1 ⟨rfl, rfl⟩
      go_wp2_with fail
      refine (HS.out _).mono ?_; rintro e w1 ⟨rfl, b1⟩
      have B1 := Lib.hid b1
      clear b1
      go_wp2
      go_ret
      exact ⟨by rw [HD.out]; rfl, b0.out.trans (B1.out.mono (by simp))⟩
    · rw [if_neg h2] at hd
      have hp : (false : Bool) = (decide (k = kLink) || decide (k = kPath) || decide (k = kSize)) := by
        rw [decide_eq_false (fun h => h1 (.inl h)), decide_eq_false (fun h => h1 (.inr h)), decide_eq_false h2]; rfl
      have HPP := Lib.hid fun w' hb => HP.out false hp w' hb
      have HD := Lib.hid hd
      clear hR hd h1 h2 hp HP
      go_enter Tryd.func96, Tryd.ntmps96
      go_wp2_with fail
      refine (HPP.out _ b0.out).mono ?_; rintro e w1 ⟨rfl, rfl⟩
      go_wp2
      go_ret
      exact ⟨by rw [HD.out]; rfl, b0.out⟩
end Go.Proofs.YthcbiohmghaobaaDoor.Pxr
