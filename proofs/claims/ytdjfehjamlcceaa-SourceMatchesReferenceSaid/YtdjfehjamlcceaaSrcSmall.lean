/-
  Walks of layer 4: the clones, the next chunk size.
-/
import Derived.Test.YtdjfehjamlcceaaRows
import Derived.Test.YtdjfehjamlcceaaObj
import Derived.Deep.QuietTactic
import Derived.BigQuiet
import Derived.BigRegion
namespace Go.Proofs.Ytdjfehjamlcceaa
open Go.RowKit

theorem u8T : ElemT Try.prog 5 .u8 1 := elemT (by kernel_rfl)
theorem i64T : ElemT Try.prog 3 .i64 8 := elemT (by kernel_rfl)

set_option maxHeartbeats 1000000 in
theorem bclone (a : Option Addr) (n cap : Nat) (zs : List Int) (w : World) (hb : InK .u8 w a zs) (hl : zs.length = n) (hn : n ≤ 140737488355328) :
    Calls Try.prog 14 #[.slice a n cap] w fun e w' => ∃ v, e = .returned v ∧ w'.ownsRow w.heap.size 5 1 v n (zs.map (.int .u8)) ∧ Below w.heap.size w w' := by
  have HB := Lib.hid hb; clear hb
  have HL := Lib.hid hl; clear hl
  have HN := Lib.hid hn; clear hn
  have HE := Lib.hid u8T
  have he : (Try.prog.info? 5).map (·.size) = some 1 := by obtain ⟨i, h1, _, h2, _⟩ := u8T; simp [h1, h2]
  have HE1 := Lib.hid he; clear he
  have he : ∀ w : World, (binOp .eql 22 (.slice none n cap) (.slice none 0 0)).run Try.prog w = .ok (.bool true) w := fun _ => rfl
  have he' : ∀ (x : Addr) (w : World), (binOp .eql 22 (.slice (some x) n cap) (.slice none 0 0)).run Try.prog w = .ok (.bool false) w := fun _ _ => rfl
  cases a with
  | none =>
    have h0 : zs = [] := by
      rcases HB.out with h | ⟨_, _, h, _⟩
      · exact h
      · cases h
    subst h0
    obtain rfl : n = 0 := HL.out.symm
    go_enter Try.func14, Try.ntmps14
    go_wp2
    go_ret
    exact ⟨_, rfl, ⟨rfl, .inl ⟨rfl, rfl⟩⟩, Below.refl _ _⟩
  | some x =>
    go_enter Try.func14, Try.ntmps14
    go_wp2_with (first | (refine wpList_lit_k rfl 22 5 .u8 rfl Try.underlying22 HE1.out ?_; intro w1 h1 b1; have O1 := Lib.hid h1; have B1 := Lib.hid b1; clear h1 b1) | (at_builtin; refine wpList_append_k rfl _ _ 22 rfl w.heap.size 5 .u8 1 Try.underlying22 HE.out (.slice (some ⟨w.heap.size, 0, none⟩) 0 0) 0 [] rfl O1.out (some x) n cap zs rfl (HB.out.below B1.out) HL.out (by have := HN.out; unfold maxLen; omega) (by have := HN.out; omega) B1.out.size ?_; intro v2 w2 h2 b2; rw [Nat.zero_add, List.nil_append] at h2; have O2 := Lib.hid h2; have B2 := Lib.hid b2; clear h2 b2))
    go_ret
    exact ⟨_, rfl, O2.out, B1.out.trans B2.out⟩

set_option maxHeartbeats 1000000 in
theorem iclone (a : Option Addr) (n cap : Nat) (zs : List Int) (w : World) (hb : InK .i64 w a zs) (hl : zs.length = n) (hn : n ≤ 17592186044416) :
    Calls Try.prog 15 #[.slice a n cap] w fun e w' => ∃ v, e = .returned v ∧ w'.ownsRow w.heap.size 3 1 v n (zs.map (.int .i64)) ∧ Below w.heap.size w w' := by
  have HB := Lib.hid hb; clear hb
  have HL := Lib.hid hl; clear hl
  have HN := Lib.hid hn; clear hn
  have HE := Lib.hid i64T
  have he : (Try.prog.info? 3).map (·.size) = some 1 := by obtain ⟨i, h1, _, h2, _⟩ := i64T; simp [h1, h2]
  have HE1 := Lib.hid he; clear he
  have he : ∀ w : World, (binOp .eql 23 (.slice none n cap) (.slice none 0 0)).run Try.prog w = .ok (.bool true) w := fun _ => rfl
  have he' : ∀ (x : Addr) (w : World), (binOp .eql 23 (.slice (some x) n cap) (.slice none 0 0)).run Try.prog w = .ok (.bool false) w := fun _ _ => rfl
  cases a with
  | none =>
    have h0 : zs = [] := by
      rcases HB.out with h | ⟨_, _, h, _⟩
      · exact h
      · cases h
    subst h0
    obtain rfl : n = 0 := HL.out.symm
    go_enter Try.func15, Try.ntmps15
    go_wp2
    go_ret
    exact ⟨_, rfl, ⟨rfl, .inl ⟨rfl, rfl⟩⟩, Below.refl _ _⟩
  | some x =>
    go_enter Try.func15, Try.ntmps15
    go_wp2_with (first | (refine wpList_lit_k rfl 23 3 .i64 rfl Try.underlying23 HE1.out ?_; intro w1 h1 b1; have O1 := Lib.hid h1; have B1 := Lib.hid b1; clear h1 b1) | (at_builtin; refine wpList_append_k rfl _ _ 23 rfl w.heap.size 3 .i64 8 Try.underlying23 HE.out (.slice (some ⟨w.heap.size, 0, none⟩) 0 0) 0 [] rfl O1.out (some x) n cap zs rfl (HB.out.below B1.out) HL.out (by have := HN.out; unfold maxLen; omega) (by have := HN.out; omega) B1.out.size ?_; intro v2 w2 h2 b2; rw [Nat.zero_add, List.nil_append] at h2; have O2 := Lib.hid h2; have B2 := Lib.hid b2; clear h2 b2))
    go_ret
    exact ⟨_, rfl, O2.out, B1.out.trans B2.out⟩

/-- the chunk size with the number r -/
def chunkZ (cs : List Int) (r : Nat) : Int := if cs.length = 0 then 1048576 else max (cs.getD (r % cs.length) 0) 1
theorem chunkZ_pos (cs : List Int) (r : Nat) : 1 ≤ chunkZ cs r := by unfold chunkZ; split <;> omega
/-- where the sequence stands behind r reads -/
def ixN (cs : List Int) (r : Nat) : Nat := if cs.length = 0 then 0 else r % cs.length
/-- the chunks at c -/
def Chk (w : World) (c : Nat) (sa : Option Addr) (sc : Nat) (cs : List Int) (r : Nat) : Prop :=
  ObjAt w c 50 [.slice sa cs.length sc, .int .i64 (ixN cs r)] ∧ InK .i64 w sa cs ∧ cs.length ≤ 140737488355328 ∧ ∀ x, sa = some x → x.block ≠ c

set_option maxHeartbeats 1000000 in
theorem next_any (c : Nat) (sa : Option Addr) (sc : Nat) (cs : List Int) (r : Nat) (w : World) (h : Chk w c sa sc cs r) :
    Calls Try.prog 16 #[.pointer (some ⟨c, 0, none⟩)] w fun e w' => e = .returned (.int .i64 (chunkZ cs r)) ∧ Chk w' c sa sc cs (r + 1) ∧ Out c (c + 1) w w' := by
  have H := Lib.hid h
  obtain ⟨ho, hi, hm, hx⟩ := h
  have HO := Lib.hid ho
  by_cases hz : cs.length = 0
  · have HZ := Lib.hid hz
    have c0 : w.cell? ⟨c, 0, none⟩ = some (.slice sa 0 sc) := by have := ho.get 0 rfl; rwa [hz] at this
    clear ho hi hm hx hz
    go_enter Try.func16, Try.ntmps16
    go_wp2
    go_ret
    refine ⟨?_, ?_, .refl _ _ _⟩
    · unfold chunkZ; rw [if_pos HZ.out]; rfl
    · have := H.out
      unfold Chk ixN at this ⊢
      rw [if_pos HZ.out] at this ⊢
      exact this
  · obtain ⟨L, hL⟩ := named cs.length
    obtain ⟨i, hI⟩ := named (r % cs.length)
    obtain ⟨d, hd⟩ := named (cs.getD i 0)
    have e1 : ixN cs r = i := by unfold ixN; rw [if_neg hz, hI.out]
    have hlt : i < cs.length := by rw [hI.out]; exact Nat.mod_lt _ (by omega)
    obtain ⟨b, off, rfl, hb⟩ := hi.plain (by omega)
    have cd := hi.get i hlt
    have cf := ho.frozen 1
    rw [← hd.out] at cd
    have c0 : w.cell? ⟨c, 0, none⟩ = some (.slice (some ⟨b, off, none⟩) L sc) := by have := ho.get 0 rfl; rwa [← hL.out] at this
    have c1 : w.cell? ⟨c, 1, none⟩ = some (.int .i64 i) := by have := ho.get 1 rfl; rwa [e1] at this
    have hxb : b ≠ c := hx _ rfl
    have hm' : L ≤ 140737488355328 := by rw [hL.out]; exact hm
    have hlt' : (i : Int) < L := by rw [hL.out]; omega
    have hL0 : ¬ L = 0 := by rw [hL.out]; exact hz
    have HX := Lib.hid hx; have HXB := Lib.hid hxb; have HM := Lib.hid hm; have HZ := Lib.hid hz; have E1 := Lib.hid e1; have HLT := Lib.hid hlt; have HIN := Lib.hid hi
    clear ho hi hm hx hz e1 hlt hxb
    go_enter Try.func16, Try.ntmps16
    go_wp2
    go_quiet (fail)
    go_wp2
    have hnext : ((i : Int) + 1) % (L : Int) = (ixN cs (r + 1) : Nat) := by
      unfold ixN; rw [if_neg HZ.out, hL.out, hI.out]
      rw [show ((r % cs.length : Nat) : Int) + 1 = ((r % cs.length + 1 : Nat) : Int) by omega, ← Int.natCast_emod, Nat.mod_add_mod]
    have hck : chunkZ cs r = max d 1 := by unfold chunkZ; rw [if_neg HZ.out, hd.out, hI.out]
    have HN := Lib.hid hnext; have HK := Lib.hid hck
    clear hnext hck
    have fin : ∀ nq, Chk ((w.drewN nq).setCell ⟨c, 1, none⟩ (.int .i64 ((i + 1 : Int) % L))) c (some ⟨b, off, none⟩) sc cs (r + 1) ∧ Out c (c + 1) w ((w.drewN nq).setCell ⟨c, 1, none⟩ (.int .i64 ((i + 1 : Int) % L))) := by
      intro nq
      have ho : ObjAt (w.drewN nq) c 50 _ := HO.out
      refine ⟨⟨?_, (show InK .i64 (w.drewN nq) _ cs from HIN.out).set _ HX.out, HM.out, HX.out⟩, ?_⟩
      · rw [HN.out]; exact ho.set 1 _
      · have : Out c (c + 1) w (w.drewN nq) := ⟨rfl, rfl, rfl, Nat.le_refl _, fun _ _ _ => rfl⟩
        exact this.setCell (Nat.le_refl _) (Nat.lt_succ_self _) _
    have FIN := Lib.hid fin; clear fin
    by_cases hd1 : 1 ≤ d
    · have HKd : Hid (chunkZ cs r = d) := by show _ = _; rw [HK.out]; omega
      go_region
      all_goals (go_wp2; go_ret; exact ⟨by rw [HKd.out]; rfl, FIN.out _⟩)
    · have HKd : Hid (chunkZ cs r = 1) := by show _ = _; rw [HK.out]; omega
      go_region
      all_goals (go_wp2; go_ret; exact ⟨by rw [HKd.out]; rfl, FIN.out _⟩)
end Go.Proofs.Ytdjfehjamlcceaa
