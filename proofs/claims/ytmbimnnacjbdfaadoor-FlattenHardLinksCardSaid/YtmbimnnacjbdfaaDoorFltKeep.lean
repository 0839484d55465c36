/-
  Layer 14: what stays while a row and a map are turned; the least paths as a map; what Members answers.
-/
import Derived.Test.YtmbimnnacjbdfaaDoorFltNode
import Derived.Test.YtmbimnnacjbdfaaDoorOnly
import Derived.Test.YtmbimnnacjbdfaaDoorTreCan
import Derived.Test.YtmbimnnacjbdfaaDoorPk06
namespace Go.Proofs.YtmbimnnacjbdfaaDoor.Flt
open Go.RowKit Go.MapKept Go.Proofs.YtmbimnnacjbdfaaDoor.Fit Pnm Tre

theorem TurnB.only {S : Nat → Prop} {w w' : World} {g : Nat} (t : TurnB w w' g) (h : S g) : Only S w w' :=
  ⟨(t.below (Nat.zero_le _)).os, (t.below (Nat.zero_le _)).tape, (t.below (Nat.zero_le _)).output, (t.below (Nat.zero_le _)).size, fun _ _ hk => t.other fun e => hk (e ▸ h)⟩
theorem ArgInts.only {S : Nat → Prop} {k : IntKind} {w w' : World} {a : Option Addr} {len cap : Nat} {zs : List Int} (h : ArgInts k w a len cap zs) (ho : Only S w w') (e : ∀ x, a = some x → ¬ S x.block) : ArgInts k w' a len cap zs := by
  obtain ⟨h1, h2, h3, h4, h5⟩ := h
  refine ⟨h1, h2, h3, h4, h5.imp id ?_⟩
  rintro ⟨b, off, rfl, hb, hc⟩
  refine ⟨b, off, rfl, Nat.lt_of_lt_of_le hb ho.size, fun i hi => ?_⟩
  have := hc i hi
  unfold World.cell? at this ⊢
  rw [ho.block b hb (e _ rfl)]
  exact this
theorem MbF.only {S : Nat → Prop} {w w' : World} {y : MbS} (h : MbF w y) (ho : Only S w w') (e : ∀ x, y.a = some x → ¬ S x.block) : MbF w' y := ⟨h.k, h.p, h.m, h.t, h.s, ArgInts.only h.d ho e, h.l⟩
theorem NdF.only {S : Nat → Prop} {w w' : World} {y : NdS} (h : NdF w y) (ho : Only S w w') (e : ∀ x, y.a = some x → ¬ S x.block) : NdF w' y := ⟨h.k, h.p, h.m, h.t, ArgInts.only h.d ho e, h.l, h.c⟩
/-- data of the call's own lie behind base -/
theorem frs_at {B : Nat} {w : World} {y : NdS} (h : Frs B w y) : ∀ x, y.a = some x → B ≤ x.block := fun x hx => by
  obtain ⟨h1, h2⟩ := h
  rcases h2 with ⟨hv, _⟩ | ⟨g, cap, cur, hv, hb, _⟩
  · injection hv with e1 _ _
    rw [hx] at e1; cases e1
  · injection hv with e1 _ _
    rw [hx] at e1
    injection e1 with e1
    subst e1
    exact hb

/-- the least paths met before place j -/
def Lst (F : Value → Option Value) (C : List Nd) (j : Nat) : Prop := ∀ c : Int, F (.int .i64 c) = (fr C j c).map fun y => .string y.p
theorem Lst.zero (C : List Nd) : Lst (fun _ => none) C 0 := fun _ => rfl
theorem Lst.stay {F : Value → Option Value} {C : List Nd} {j : Nat} (h : Lst F C j) (hj : j < C.length) (hs : (∃ y, fr C j (nd C j).c = some y) ∨ (nd C j).c ≤ 0) : Lst F C (j + 1) := fun c => by
  rw [h c, fr_step hj]
  by_cases hc : 0 < (nd C j).c ∧ (nd C j).c = c
  · rw [if_pos hc]
    rcases hs with ⟨y, hy⟩ | hs
    · rw [← hc.2, hy]; rfl
    · exact absurd hc.1 (by omega)
  · rw [if_neg hc]
    cases fr C j c <;> rfl
theorem Lst.more {F : Value → Option Value} {C : List Nd} {j : Nat} (h : Lst F C j) (hj : j < C.length) (hn : fr C j (nd C j).c = none) (hp : 0 < (nd C j).c) : Lst (upd F (.int .i64 (nd C j).c) (.string (nd C j).p)) C (j + 1) := fun c => by
  rw [fr_step hj]
  by_cases hc : (nd C j).c = c
  · subst hc
    rw [upd_same, hn, if_pos ⟨hp, rfl⟩]; rfl
  · rw [upd_ne (fun e => hc (by injection e with _ e; exact e.symm)), h c, if_neg (fun e => hc e.2)]
    cases fr C j c <;> rfl

/-- what Members answers -/
noncomputable def mbR (l : List Nd) : List Mb := if (chk l).2 = 0 then mbs (canon l) else []
def RetMb (w : World) (l : List Nd) (e : Ending) (w' : World) : Prop :=
  ∃ b k c us X1 X2, e = .returned (.tuple #[.slice b k c, .int .i64 X1, .int .i64 X2]) ∧ X1 = (chk l).1 ∧ X2 = (chk l).2 ∧ ArgMbs w' b k c us ∧ mms us = mbR l ∧ Below w.heap.size w w'
theorem RetMb.bad {w w' : World} {l : List Nd} {X1 X2 : Int} (h1 : X1 = (chk l).1) (h2 : X2 = (chk l).2) (h0 : X2 ≠ 0) (hb : Below w.heap.size w w') : RetMb w l (.returned (.tuple #[.slice none 0 0, .int .i64 X1, .int .i64 X2])) w' :=
  ⟨none, 0, 0, [], X1, X2, rfl, h1, h2, ⟨rfl, Nat.le_refl _, Nat.zero_le _, .inl rfl, fun _ h => by cases h⟩, by unfold mbR; rw [if_neg (by rw [← h2]; exact h0)]; rfl, hb⟩

/-- place i of the row is filled -/
structure El (S : Nat → Prop) (C : List Nd) (w : World) (i : Nat) (u : MbS) : Prop where
  n : u.n = mb C i
  f : MbF w u
  s : ∀ x, u.a = some x → ¬ S x.block
/-- the row before place j -/
structure Rw (S : Nat → Prop) (C : List Nd) (w : World) (n : Nat) (us : List MbS) (j : Nat) : Prop where
  len : us.length = n
  el : ∀ i, i < j → ∃ u, us[i]? = some u ∧ El S C w i u
theorem Rw.next {S : Nat → Prop} {C : List Nd} {w : World} {n : Nat} {us : List MbS} {j : Nat} (h : Rw S C w n us j) (hj : j < n) {u : MbS} (hu : El S C w j u) : Rw S C w n (us.set j u) (j + 1) := by
  refine ⟨by rw [List.length_set]; exact h.len, fun i hi => ?_⟩
  by_cases e : i = j
  · subst e
    exact ⟨u, List.getElem?_set_self (by rw [h.len]; exact hj), hu⟩
  · rw [List.getElem?_set_ne (fun e' => e e'.symm)]
    exact h.el i (by omega)
theorem Rw.done {S : Nat → Prop} {C : List Nd} {w w' : World} {n : Nat} {us : List MbS} (h : Rw S C w n us n) (hn : C.length = n) (ho : Only S w w') : mms us = mbs C ∧ ∀ u ∈ us, MbF w' u := by
  constructor
  · refine List.ext_getElem? fun i => ?_
    by_cases hi : i < n
    · obtain ⟨u, h1, h2⟩ := h.el i hi
      rw [mms_at h1, mbs_at (by omega), h2.n]
    · rw [List.getElem?_eq_none (by rw [mms_len, h.len]; omega), List.getElem?_eq_none (by rw [mbs_len]; omega)]
  · intro u hu
    obtain ⟨i, hi, rfl⟩ := List.getElem_of_mem hu
    obtain ⟨v, h1, h2⟩ := h.el i (by rw [← h.len]; exact hi)
    obtain rfl : us[i] = v := Option.some.inj ((List.getElem?_eq_getElem hi).symm.trans h1)
    exact h2.f.only ho h2.s
/-- a node that is no link, as a member -/
theorem own_el {S : Nat → Prop} {C : List Nd} {w : World} {i : Nat} {z : NdS} (hC : Can C) (hi : i < C.length) (hz : nd C i = z.n) (hn : fr C i (nd C i).c = none) (hf : NdF w z) (hs : ∀ x, z.a = some x → ¬ S x.block) :
    El S C w i ⟨⟨⟨z.n.k, z.n.p, z.n.m, z.n.t, z.n.d.length⟩, z.n.d⟩, z.a, z.cap⟩ := by
  refine ⟨?_, ⟨hf.k, hf.p, hf.m, hf.t, ?_, hf.d, hf.l⟩, hs⟩
  · rw [mb_none hn]
    have o := one_c (hC.v.one _ (nd_mem hi))
    unfold own1 entN
    rw [hz] at o ⊢
    by_cases hk : z.n.k = 1
    · rw [if_pos hk]
    · rw [if_neg hk, o.2.2.1 hk]; rfl
  · have := hf.l
    have e1 : IntKind.i64.min = -9223372036854775808 := by decide
    have e2 : IntKind.i64.max = 9223372036854775807 := by decide
    simp [Lit.wf]
    omega
theorem lnk_el {S : Nat → Prop} {C : List Nd} {w : World} {i : Nat} {z : NdS} {y : Nd} (hz : nd C i = z.n) (hy : fr C i (nd C i).c = some y) (hf : NdF w z) (hp : y.p.size ≤ 140737488355328) :
    El S C w i ⟨⟨⟨3, z.n.p, z.n.m, y.p, 0⟩, []⟩, none, 0⟩ := by
  refine ⟨?_, ⟨(show (Lit.int .i64 3).wf = true by decide), hf.p, hf.m, hp, (show (Lit.int .i64 0).wf = true by decide), ArgInts.nil, Nat.zero_le _⟩, fun x hx => by cases hx⟩
  rw [mb_some hy, hz]; rfl
end Go.Proofs.YtmbimnnacjbdfaaDoor.Flt
