/-
  Layer 19, plain mathematics: which file a number belongs to. No memory.
-/
import Derived.Test.YthcbiohmghaobaaDoorPz10
import Derived.Test.YthcbiohmghaobaaDoorPz04
namespace Go.Proofs.YthcbiohmghaobaaDoor.Vfs
open Go.RowKit Go.MapKept Go.Proofs.YthcbiohmghaobaaDoor.Pnm

theorem fnd_more {ps : List (ByteArray × Nat)} {p q : ByteArray} {i j : Nat} (h : fnd ps q = some j) : fnd (ps ++ [(p, i)]) q = some j := by rw [fnd_snoc, h]
theorem fnd_new {ps : List (ByteArray × Nat)} {p : ByteArray} {i : Nat} (h : fnd ps p = none) : fnd (ps ++ [(p, i)]) p = some i := by
  rw [fnd_snoc, h]
  exact if_pos rfl
theorem num_inj {F S : Int} (hS : 1 ≤ S) {i j : Nat} (h : F + S * (i : Int) = F + S * (j : Int)) : i = j := by
  have h1 : S * (i : Int) = S * (j : Int) := by omega
  have := Int.eq_of_mul_eq_mul_left (by omega) h1
  omega
/-- the owners: each number of a file leads to one of its paths -/
structure OwnN (F S : Int) (ps : List (ByteArray × Nat)) (n : Nat) (O : Value → Option Value) : Prop where
  a : ∀ i : Nat, i < n → ∃ p, O (.int .i64 (F + S * (i : Int))) = some (.string p) ∧ fnd ps p = some i
  b : ∀ z : Int, (∀ i : Nat, i < n → z ≠ F + S * (i : Int)) → O (.int .i64 z) = none
theorem own0 (F S : Int) : OwnN F S (st0 F).ps 1 (upd (fun _ => none) (.int .i64 F) (.string ⟨#[]⟩)) := by
  refine ⟨fun i hi => ⟨⟨#[]⟩, ?_, ?_⟩, fun z hz => ?_⟩
  · obtain rfl : i = 0 := by omega
    rw [show F + S * ((0 : Nat) : Int) = F by omega]
    exact upd_same _ _ _
  · obtain rfl : i = 0 := by omega
    show fnd [_] _ = _
    unfold fnd; rw [if_pos rfl]
  · refine upd_ne fun c => ?_
    have : z = F := by injection c
    exact hz 0 (by omega) (by omega)
/-- a file more -/
theorem OwnN.new {F S : Int} {ps : List (ByteArray × Nat)} {n : Nat} {O : Value → Option Value} (h : OwnN F S ps n O) (hS : 1 ≤ S) {p : ByteArray} (hf : fnd ps p = none) :
    O (.int .i64 (F + S * (n : Int))) = none ∧ OwnN F S (ps ++ [(p, n)]) (n + 1) (upd O (.int .i64 (F + S * (n : Int))) (.string p)) := by
  refine ⟨h.b _ fun i hi e => by have := num_inj hS e; omega, fun i hi => ?_, fun z hz => ?_⟩
  · by_cases e : i = n
    · subst e
      exact ⟨p, upd_same _ _ _, fnd_new hf⟩
    · obtain ⟨q, h1, h2⟩ := h.a i (by omega)
      refine ⟨q, ?_, fnd_more h2⟩
      rw [upd_ne fun c => e (num_inj hS (by injection c))]
      exact h1
  · rw [upd_ne fun c => hz n (by omega) (by injection c)]
    exact h.b z fun i hi => hz i (by omega)
/-- a path more -/
theorem OwnN.lnk {F S : Int} {ps : List (ByteArray × Nat)} {n : Nat} {O : Value → Option Value} (h : OwnN F S ps n O) (hS : 1 ≤ S) {p : ByteArray} {i : Nat} (hi : i < n) (hf : fnd ps p = none) :
    OwnN F S (ps ++ [(p, i)]) n (upd O (.int .i64 (F + S * (i : Int))) (.string p)) := by
  refine ⟨fun k hk => ?_, fun z hz => ?_⟩
  · by_cases e : k = i
    · subst e
      exact ⟨p, upd_same _ _ _, fnd_new hf⟩
    · obtain ⟨q, h1, h2⟩ := h.a k hk
      refine ⟨q, ?_, fnd_more h2⟩
      rw [upd_ne fun c => e (num_inj hS (by injection c))]
      exact h1
  · rw [upd_ne fun c => hz i hi (by injection c)]
    exact h.b z hz
/-- what a call that makes a file leaves -/
theorem do_new {N : Nat} {F S : Int} {s : St} (g : Gd N F S s) {a : Va} (hk : 0 ≤ a.k ∧ a.k ≤ 3) (he : doE s a = 0) :
    fnd s.ps a.p = none ∧ (doS F S s a).ps = s.ps ++ [(a.p, s.is.length)] ∧ (doS F S s a).is.length = s.is.length + 1 ∧ ((doS F S s a).at s.is.length).num = F + S * (s.is.length : Int) := by
  have key : ∀ k m t d, mkE s k a.p m t = 0 → fnd s.ps a.p = none ∧ (mkS F S s k a.p m d t).ps = s.ps ++ [(a.p, s.is.length)] ∧ (mkS F S s k a.p m d t).is.length = s.is.length + 1 ∧ ((mkS F S s k a.p m d t).at s.is.length).num = F + S * (s.is.length : Int) := fun k m t d h => by
    obtain ⟨j, hj, _, hf⟩ := plc_zero (mk_zero h).2
    rw [mkS_of h]
    exact ⟨hf, newS_ps .., newS_len .., by rw [newS_new hj (g.wf.lt hj)]⟩
  unfold doE at he
  unfold doS
  by_cases h0 : a.k = 0
  · rw [if_pos h0] at he ⊢; exact key _ _ _ _ he
  rw [if_neg h0] at he ⊢
  by_cases h1 : a.k = 1
  · rw [if_pos h1] at he ⊢; exact key _ _ _ _ he
  rw [if_neg h1] at he ⊢
  by_cases h2 : a.k = 2
  · rw [if_pos h2] at he ⊢; exact key _ _ _ _ he
  rw [if_neg h2] at he ⊢
  by_cases h3 : a.k = 3
  · rw [if_pos h3] at he ⊢; exact key _ _ _ _ he
  omega
theorem cnt_pos {ps : List (ByteArray × Nat)} {p : ByteArray} {i : Nat} (h : fnd ps p = some i) : 1 ≤ cnt ps i := by
  have hm := fnd_mem h
  unfold cnt
  exact List.length_pos_of_mem (List.mem_filter.2 ⟨hm, by simp⟩)
/-- what a link leaves -/
theorem do_lnk {N : Nat} {F S : Int} {s : St} (g : Gd N F S s) {a : Va} (hk : a.k = 4) (he : doE s a = 0) :
    ∃ i, i < s.is.length ∧ fnd s.ps a.p = none ∧ (doS F S s a).ps = s.ps ++ [(a.p, i)] ∧ (doS F S s a).is.length = s.is.length ∧ ((doS F S s a).at i).num = F + S * (i : Int) ∧ 2 ≤ ((doS F S s a).at i).l := by
  unfold doE at he
  unfold doS
  rw [if_neg (by omega), if_neg (by omega), if_neg (by omega), if_neg (by omega), if_pos hk] at he ⊢
  obtain ⟨_, h2, i, h3, _⟩ := lnk_zero he
  obtain ⟨j, hj, _, hf⟩ := plc_zero h2
  have hi := g.wf.lt h3
  have e := putS_at (p := a.p) hi hj (g.wf.lt hj) hi
  rw [lnkS_of he h3]
  refine ⟨i, hi, hf, putS_ps .., putS_len .., ?_, ?_⟩
  · rw [e]; exact g.nu i (s.at i) (at_some hi)
  · rw [e]
    show 2 ≤ (s.at i).l + (if i = i then 1 else 0)
    rw [if_pos rfl, g.lk i _ (at_some hi)]
    have := cnt_pos h3
    omega
/-- what other calls leave -/
theorem do_oth {F S : Int} {s : St} {a : Va} (h : doE s a ≠ 0 ∨ a.k < 0 ∨ 4 < a.k) : (doS F S s a).ps = s.ps ∧ (doS F S s a).is.length = s.is.length := by
  unfold doE at h
  unfold doS
  have key : ∀ k m t d, mkE s k a.p m t ≠ 0 → (mkS F S s k a.p m d t).ps = s.ps ∧ (mkS F S s k a.p m d t).is.length = s.is.length := fun k m t d h => by rw [mkS_bad h]; exact ⟨rfl, rfl⟩
  by_cases h0 : a.k = 0
  · rw [if_pos h0] at h ⊢; exact key _ _ _ _ (by rcases h with h | h | h; exact h; omega; omega)
  rw [if_neg h0] at h ⊢
  by_cases h1 : a.k = 1
  · rw [if_pos h1] at h ⊢; exact key _ _ _ _ (by rcases h with h | h | h; exact h; omega; omega)
  rw [if_neg h1] at h ⊢
  by_cases h2 : a.k = 2
  · rw [if_pos h2] at h ⊢; exact key _ _ _ _ (by rcases h with h | h | h; exact h; omega; omega)
  rw [if_neg h2] at h ⊢
  by_cases h3 : a.k = 3
  · rw [if_pos h3] at h ⊢; exact key _ _ _ _ (by rcases h with h | h | h; exact h; omega; omega)
  rw [if_neg h3] at h ⊢
  by_cases h4 : a.k = 4
  · rw [if_pos h4] at h ⊢
    rw [lnkS_bad (by rcases h with h | h | h; exact h; omega; omega)]
    exact ⟨rfl, rfl⟩
  rw [if_neg h4] at h ⊢
  by_cases h5 : a.k = 5
  · rw [if_pos h5]
    refine ⟨chS_ps .., ?_⟩
    unfold chS
    cases fnd s.ps a.p with
    | none => rfl
    | some i => exact setI_len ..
  rw [if_neg h5]
  exact ⟨rfl, rfl⟩
end Go.Proofs.YthcbiohmghaobaaDoor.Vfs
