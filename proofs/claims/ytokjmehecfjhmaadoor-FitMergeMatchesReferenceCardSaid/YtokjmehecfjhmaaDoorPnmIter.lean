/-
  Layer 8: the program's components: an iterator over the parts of a path.
-/
import Derived.RangeFuncNested
import Derived.RangeFuncBound
import Derived.RangeFuncCalls
import Derived.RangeFuncLeaves
import Derived.Shelf.Abstract
import Derived.Shelf.RegionOpen
import Derived.WalkKit
import Derived.OwnWalkIn
import Derived.TacticsInMore
import Derived.LoopNIn
import Derived.LoopIn
import Derived.Test.YtokjmehecfjhmaaDoorPnmRefK
namespace Go.Proofs.YtokjmehecfjhmaaDoor.Pnm
open Go.RowKit Go.Shelf
attribute [local go_sem] Oper.semAt_some

def compsB (s : ByteArray) : List ByteArray := (comps (numsOf s)).map strOfNums

set_option maxRecDepth 100000 in
set_option maxHeartbeats 2000000 in
theorem comp1_in (F : Fence) (n : Nat) (hf : F.fn 53) (hro : F.round = none) (hn : 1 ≤ n) (l Bp n₀ : Nat) (s : ByteArray) (hs : s.size ≤ maxLen) (hb : Bp < n₀) (J Jx : List ByteArray → World → Prop)
    (hY : ∀ pre x W, J pre W → pre.length < (compsB s).length → YieldAt F (n - 1) Tryd.prog l #[.string x] W fun e W' =>
      (e = .returned (.bool true) ∧ J (pre ++ [x]) W' ∧ Below n₀ W W') ∨ (e = .returned (.bool false) ∧ Jx (pre ++ [x]) W'))
    (W : World) (hBp : W.cell? ⟨Bp, 0, none⟩ = some (.string s)) (h0 : J [] W) :
    CallsIn F n Tryd.prog 53 #[.func (.yield l) #[] #[], .pointer (some ⟨Bp, 0, none⟩)] W fun e W' => (∃ v, e = .returned v) ∧
      ((∃ ys, ys = compsB s ∧ J ys W') ∨ (∃ pre, pre <+: compsB s ∧ Jx pre W')) := by
  unfold maxLen at hs
  have NL := Lib.hid (numsOf_length s)
  have HA : Hid (∀ j (h : j < s.size), (numsOf s).getD j 0 = (s[j].toNat : Int)) := num_at s
  refine callsIn_of_wp Tryd.func53 rfl hf ?_ hro
  simp only [Tryd.ntmps53, List.size_toArray, List.length_cons, List.length_nil, Nat.reduceAdd, Nat.reduceSub, Array.replicate_succ, Array.replicate_zero, List.push_toArray, List.append_toArray, List.nil_append, List.cons_append]
  gi_wp2
  gi_loopw [3, 7] (fun f i wr => ∃ (a j : Nat) (pre : List ByteArray), f = .int .i64 a ∧ i = .int .i64 j ∧ j ≤ s.size ∧ a ≤ j ∧ (∀ k, a ≤ k → k < j → (numsOf s).getD k 0 ≠ 47) ∧ pre ++ (comps ((numsOf s).drop a)).map strOfNums = compsB s ∧ J pre wr ∧ Below n₀ W wr)
    (fun _ i _ => s.size + 1 - (intOf i).toNat)
  case atStart => exact ⟨0, 0, [], rfl, rfl, Nat.zero_le _, Nat.le_refl _, fun k _ h => by omega, rfl, h0, Below.refl _ _⟩
  case round =>
    obtain ⟨a, j, pre, rfl, rfl, hj, ha, hns, hpre, hJs, hnx⟩ := hrel
    have HP := Lib.hid hpre; have HN := Lib.hid hns; have HJ := Lib.hid hJs; have HX := Lib.hid hnx
    have hcell : wr.cell? ⟨Bp, 0, none⟩ = some (.string s) := (hnx.cell (p := ⟨Bp, 0, none⟩) hb).trans hBp
    clear hpre hns hJs hnx
    have m1 : (a : Int) ≤ j := by omega
    have m0 : (j : Int) ≤ s.size := by omega
    have nsl := Lib.hid (no_slash (zs := numsOf s) HN.out)
    by_cases hlt : j < s.size
    · have m3 : (j : Int) < s.size := by omega
      have hx := HA.out j hlt
      obtain ⟨x, hxe⟩ : ∃ x : Int, ((s[j].toNat : Nat) : Int) = x := ⟨_, rfl⟩
      rw [hxe] at hx
      by_cases h47 : x = 47
      · have m4 : (x != 47) = false := by rw [h47]; rfl
        have cut := cut_at (zs := numsOf s) ha (by rw [NL.out]; exact hlt) (by rw [hx]; exact h47)
        have e1 : Hid ((pre ++ [s.extract a j]) ++ (comps ((numsOf s).drop (j + 1))).map strOfNums = compsB s) := by
          show _ = _
          rw [← HP.out, cut, comps_cut nsl.out, List.map_cons, ext_str, List.append_assoc]; rfl
        have hlen : pre.length < (compsB s).length := by rw [← e1.out]; simp
        obtain ⟨fn, tmps, assign, body, hy, hR⟩ := hY pre (s.extract a j) wr HJ.out hlen
        clear hx h47 cut hlen
        gi_wp2
        refine hR.mono ?_
        rintro e W3 (⟨rfl, hJ3, hk3⟩ | ⟨rfl, hJx3⟩)
        · gi_wp2
          go_roundw
          case rel => exact ⟨j + 1, j + 1, pre ++ [s.extract a j], by go_num, by go_num, by omega, Nat.le_refl _, fun k h1 h2 => by omega, e1.out, hJ3, HX.out.trans hk3⟩
          case measure => simp [intOf]; omega
        · gi_wp2
          refine bodyPost_ret (results_none rfl _ _ _) rfl ?_
          exact ⟨⟨_, rfl⟩, .inr ⟨_, ⟨_, e1.out⟩, hJx3⟩⟩
      · have m4 : (x != 47) = true := by simpa using h47
        have HX47 : Hid ((numsOf s).getD j 0 ≠ 47) := by show _ ≠ _; rw [hx]; exact h47
        clear hx h47
        gi_wp2
        go_roundw
        case rel => exact ⟨a, j + 1, pre, rfl, by go_num, by omega, by omega, fun k h1 h2 => by
          by_cases e : k = j
          · rw [e]; exact HX47.out
          · exact HN.out k h1 (by omega), HP.out, HJ.out, HX.out⟩
        case measure => simp [intOf]; omega
    · obtain rfl : j = s.size := by omega
      have e1 : Hid (pre ++ [s.extract a s.size] = compsB s) := by
        show _ = _
        have e := nsl.out
        rw [List.take_of_length_le (by rw [List.length_drop, NL.out]; exact Nat.le_refl _)] at e
        rw [← HP.out, comps_one e, ext_str, List.take_of_length_le (by rw [List.length_drop, NL.out]; exact Nat.le_refl _)]; rfl
      have hlen : pre.length < (compsB s).length := by rw [← e1.out]; simp
      obtain ⟨fn, tmps, assign, body, hy, hR⟩ := hY pre (s.extract a s.size) wr HJ.out hlen
      clear hlen
      gi_wp2
      refine hR.mono ?_
      rintro e W3 (⟨rfl, hJ3, hk3⟩ | ⟨rfl, hJx3⟩)
      · gi_wp2
        go_end0
        exact ⟨⟨_, rfl⟩, .inl ⟨_, e1.out, hJ3⟩⟩
      · gi_wp2
        go_end0
        exact ⟨⟨_, rfl⟩, .inr ⟨_, ⟨[], by rw [List.append_nil]; exact e1.out⟩, hJx3⟩⟩

set_option maxHeartbeats 1000000 in
theorem comp_in (F : Fence) (n : Nat) (hf : F.fn 39) (hro : F.round = none) (s : ByteArray) (w : World) :
    CallsIn F n Tryd.prog 39 #[.string s] w fun e w' => e = .returned (.func (.func 53) #[] #[.pointer (some ⟨w.heap.size, 0, none⟩)]) ∧ w' = w.alloc (.cells #[.string s] 9) := by
  refine callsIn_of_wp Tryd.func39 rfl hf ?_ hro
  simp only [Tryd.ntmps39, List.size_toArray, List.length_cons, List.length_nil, Nat.reduceAdd, Nat.reduceSub, Array.replicate_succ, Array.replicate_zero, List.push_toArray, List.append_toArray, List.nil_append, List.cons_append]
  gi_wp2
  go_ret
  exact ⟨rfl, rfl⟩

theorem comp_stops (F : Fence) (n : Nat) (hf : F.fn 53) (hro : F.round = none) (hn : 1 ≤ n) (Bp n₀ : Nat) (s : ByteArray) (hs : s.size ≤ maxLen) (hb : Bp < n₀) (w : World) (hB : Bp < w.heap.size)
    (hc : w.cell? ⟨Bp, 0, none⟩ = some (.string s)) :
    SeqStopsK F n Tryd.prog 53 #[.pointer (some ⟨Bp, 0, none⟩)] (fun x : ByteArray => #[Value.string x]) (Below n₀) (fun ys => ys = compsB s) (fun pre => pre <+: compsB s) (compsB s).length w := fun l J Jx W hW _ _ hY h0 =>
  comp1_in F n hf hro hn l Bp n₀ s hs hb J Jx hY W ((hW.cell (p := ⟨Bp, 0, none⟩) hB).trans hc) h0
end Go.Proofs.YtokjmehecfjhmaaDoor.Pnm
