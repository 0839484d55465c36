/-
  bytes.Clone.
-/
import Derived.Test.YtmbimnnacjbdfaaDoorElem
namespace Go.Proofs.YtmbimnnacjbdfaaDoor
open Go.RowKit

set_option maxRecDepth 100000 in
set_option maxHeartbeats 1000000 in
theorem bclone (a : Option Addr) (n cap : Nat) (zs : List Int) (w : World) (hb : InK .u8 w a zs) (hl : zs.length = n) (hn : n ≤ 140737488355328) :
    Calls Tryd.prog 27 #[.slice a n cap] w fun e w' => ∃ v, e = .returned v ∧ w'.ownsRow w.heap.size 5 1 v n (zs.map (.int .u8)) ∧ Below w.heap.size w w' := by
  have HB := Lib.hid hb; clear hb
  have HL := Lib.hid hl; clear hl
  have HN := Lib.hid hn; clear hn
  have HE := Lib.hid u8T
  have he : (Tryd.prog.info? 5).map (·.size) = some 1 := by obtain ⟨i, h1, _, h2, _⟩ := u8T; simp [h1, h2]
  have HE1 := Lib.hid he; clear he
  have he : ∀ w : World, (binOp .eql 23 (.slice none n cap) (.slice none 0 0)).run Tryd.prog w = .ok (.bool true) w := fun _ => rfl
  have he' : ∀ (x : Addr) (w : World), (binOp .eql 23 (.slice (some x) n cap) (.slice none 0 0)).run Tryd.prog w = .ok (.bool false) w := fun _ _ => rfl
  cases a with
  | none =>
    have h0 : zs = [] := by
      rcases HB.out with h | ⟨_, _, h, _⟩
      · exact h
      · cases h
    subst h0
    obtain rfl : n = 0 := HL.out.symm
    go_enter Tryd.func27, Tryd.ntmps27
    go_wp2
    go_ret
    exact ⟨_, rfl, ⟨rfl, .inl ⟨rfl, rfl⟩⟩, Below.refl _ _⟩
  | some x =>
    go_enter Tryd.func27, Tryd.ntmps27
    go_wp2_with (first | (refine wpList_lit_k rfl 23 5 .u8 rfl Tryd.underlying23 HE1.out ?_; intro w1 h1 b1; have O1 := Lib.hid h1; have B1 := Lib.hid b1; clear h1 b1) | (at_builtin; refine wpList_append_k rfl _ _ 23 rfl w.heap.size 5 .u8 1 Tryd.underlying23 HE.out (.slice (some ⟨w.heap.size, 0, none⟩) 0 0) 0 [] rfl O1.out (some x) n cap zs rfl (HB.out.below B1.out) HL.out (by have := HN.out; unfold maxLen; omega) (by have := HN.out; omega) B1.out.size ?_; intro v2 w2 h2 b2; rw [Nat.zero_add, List.nil_append] at h2; have O2 := Lib.hid h2; have B2 := Lib.hid b2; clear h2 b2))
    go_ret
    exact ⟨_, rfl, O2.out, B1.out.trans B2.out⟩
end Go.Proofs.YtmbimnnacjbdfaaDoor
