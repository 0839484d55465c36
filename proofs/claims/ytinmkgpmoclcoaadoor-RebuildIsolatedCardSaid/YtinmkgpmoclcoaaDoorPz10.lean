/-
  Layer 8: the reference's part, Check.
-/
import Derived.Test.YtinmkgpmoclcoaaDoorPz06
import Derived.RangeFuncNested
import Derived.RangeFuncBound
import Derived.RangeFuncCalls
import Derived.RangeFuncLeaves
import Derived.Shelf.Abstract
import Derived.Shelf.RegionOpen
import Derived.WalkKit
import Derived.OwnWalkIn
import Derived.TacticsInMore
import Derived.LoopNIn
import Derived.LoopIn
import Derived.Test.YtinmkgpmoclcoaaDoorPz02
import Derived.Test.YtinmkgpmoclcoaaDoorShelf
import Derived.Test.YtinmkgpmoclcoaaDoorPz08
import Derived.Test.YtinmkgpmoclcoaaDoorPz09
import Derived.Test.YtinmkgpmoclcoaaDoorPz05
namespace Go.Proofs.YtinmkgpmoclcoaaDoor.Pnm
open Go.RowKit

theorem nums_inj {s t : ByteArray} (h : numsOf s = numsOf t) : s = t := by rw [← strOfNums_numsOf s, ← strOfNums_numsOf t, h]

set_option maxHeartbeats 1000000 in
theorem rpart_any (s : ByteArray) (w : World) (hs : s.size ≤ maxLen) : Calls Tryd.prog 71 #[.string s] w fun e w' => e = .returned (.bool (decide (partOk (numsOf s)))) ∧ w = w' := by
  unfold maxLen at hs
  by_cases h1 : s = { data := #[] }
  · subst h1
    rw [decide_eq_false (fun h => h.1 rfl)]
    go_enter Tryd.func71, Tryd.ntmps71
    go_wp2
    go_ret
    exact ⟨rfl, rfl⟩
  · by_cases h2 : s = { data := #[46] }
    · subst h2
      rw [decide_eq_false (fun h => h.2.1 rfl)]
      go_enter Tryd.func71, Tryd.ntmps71
      go_wp2
      go_ret
      exact ⟨rfl, rfl⟩
    · by_cases h3 : s = { data := #[46, 46] }
      · subst h3
        rw [decide_eq_false (fun h => h.2.2.1 rfl)]
        go_enter Tryd.func71, Tryd.ntmps71
        go_wp2
        go_ret
        exact ⟨rfl, rfl⟩
      · have n1 : s.toList.isEmpty = false := empty_no h1
        have n2 := bytes_neq h2
        have n3 := bytes_neq h3
        have e2 : ({ data := #[46] } : ByteArray).toList = [46] := by rw [ByteArray.toList_eq]
        have e3 : ({ data := #[46, 46] } : ByteArray).toList = [46, 46] := by rw [ByteArray.toList_eq]
        have n2' : (s.toList == [46]) = false := by rw [← e2]; exact n2
        have n3' : (s.toList == [46, 46]) = false := by rw [← e3]; exact n3
        have g1 : numsOf s ≠ [] := fun h => h1 (nums_inj h)
        have g2 : numsOf s ≠ [46] := fun h => h2 (nums_inj h)
        have g3 : numsOf s ≠ [46, 46] := fun h => h3 (nums_inj h)
        obtain ⟨R, hR⟩ := named (decide (partOk (numsOf s)))
        have HR : Hid (R = !decide ((0 : Int) ∈ numsOf s)) := by
          show _ = _; rw [hR.out]
          by_cases hz : (0 : Int) ∈ numsOf s
          · rw [decide_eq_false (fun h => h.2.2.2 hz), decide_eq_true hz]; rfl
          · rw [decide_eq_true (show partOk (numsOf s) from ⟨g1, g2, g3, hz⟩), decide_eq_false hz]; rfl
        have HA : Hid (∀ j (h : j < s.size), (numsOf s).getD j 0 = (s[j].toNat : Int)) := num_at s
        have NL := Lib.hid (numsOf_length s)
        rw [← hR.out]
        clear hR g1 g2 g3 h1 h2 h3 e2 e3 n2 n3
        go_enter Tryd.func71, Tryd.ntmps71
        go_wp2
        go_loop [3] (fun i => ∃ j : Nat, j ≤ s.size ∧ i = .int .i64 j ∧ ∀ k, k < j → (numsOf s).getD k 0 ≠ 0) (fun i => s.size + 1 - (intOf i).toNat)
        case atStart => exact ⟨0, Nat.zero_le _, rfl, fun k hk => by omega⟩
        case round =>
          obtain ⟨j, hj, rfl, hz⟩ := hrel
          have HZ := Lib.hid hz
          clear hz
          by_cases hlt : j < s.size
          · have m1 : (j : Int) < s.size := by omega
            have hx := HA.out j hlt
            obtain ⟨x, hxe⟩ : ∃ x : Int, ((s[j].toNat : Nat) : Int) = x := ⟨_, rfl⟩
            rw [hxe] at hx
            by_cases h0 : x = 0
            · have m2 : (x == 0) = true := by rw [h0]; rfl
              have e : Hid (R = false) := by
                show _ = _
                rw [HR.out, decide_eq_true]; rfl
                have hl : j < (numsOf s).length := by rw [NL.out]; exact hlt
                rw [h0, List.getD_eq_getElem?_getD, List.getElem?_eq_getElem hl] at hx
                have hx' : (numsOf s)[j] = 0 := hx
                rw [← hx']; exact List.getElem_mem hl
              clear hx h0
              go_wp2
              go_ret
              rw [e.out]
              exact ⟨rfl, rfl⟩
            · have m2 : (x == 0) = false := by simpa using h0
              have HX : Hid ((numsOf s).getD j 0 ≠ 0) := by show _ ≠ _; rw [hx]; exact h0
              clear hx h0
              go_wp2
              go_round
              case rel => exact ⟨j + 1, by omega, by go_num, fun k hk => by
                by_cases e : k = j
                · rw [e]; exact HX.out
                · exact HZ.out k (by omega)⟩
              case measure => simp [intOf]; omega
          · obtain rfl : j = s.size := by omega
            have e : Hid (R = true) := by
              show _ = _
              rw [HR.out, decide_eq_false]; rfl
              intro hm
              obtain ⟨k, hk, he⟩ := List.getElem_of_mem hm
              refine HZ.out k (by rw [NL.out] at hk; exact hk) ?_
              rw [List.getD_eq_getElem?_getD, List.getElem?_eq_getElem hk]; exact he
            go_wp2
            go_ret
            rw [e.out]
            exact ⟨rfl, rfl⟩

theorem ext_size (s : ByteArray) (a b : Nat) : (s.extract a b).size ≤ s.size := by
  rw [← numsOf_length, nums_ext, List.length_take, List.length_drop, numsOf_length]; omega
theorem mem_getD {l : List Int} {x : Int} (h : x ∈ l) : ∃ i, i < l.length ∧ l.getD i 0 = x := by
  obtain ⟨i, hi, e⟩ := List.getElem_of_mem h
  exact ⟨i, hi, by rw [List.getD_eq_getElem?_getD, List.getElem?_eq_getElem hi]; exact e⟩
/-- the bytes from a up to j hold no slash -/
theorem no_slash {zs : List Int} {a j : Nat} (h : ∀ k, a ≤ k → k < j → zs.getD k 0 ≠ 47) : (47 : Int) ∉ (zs.drop a).take (j - a) := by
  intro hm
  obtain ⟨i, hi, he⟩ := mem_getD hm
  rw [List.length_take, List.length_drop] at hi
  rw [List.getD_eq_getElem?_getD, List.getElem?_take, if_pos (by omega), List.getElem?_drop, ← List.getD_eq_getElem?_getD] at he
  exact h (a + i) (by omega) (by omega) he
theorem cut_at {zs : List Int} {a j : Nat} (ha : a ≤ j) (hj : j < zs.length) (h : zs.getD j 0 = 47) : zs.drop a = (zs.drop a).take (j - a) ++ 47 :: zs.drop (j + 1) := by
  have hg : zs[j] = 47 := by rw [List.getD_eq_getElem?_getD, List.getElem?_eq_getElem hj] at h; exact h
  have e : zs.drop j = 47 :: zs.drop (j + 1) := by rw [List.drop_eq_getElem_cons hj, hg]
  rw [← e]
  conv => lhs; rw [← List.take_append_drop (j - a) (zs.drop a)]
  rw [List.drop_drop, show a + (j - a) = j by omega]

set_option maxRecDepth 100000 in
set_option maxHeartbeats 4000000 in
theorem rcheck_any (s : ByteArray) (w : World) (hs : s.size ≤ maxLen) : Calls Tryd.prog 55 #[.string s] w fun e w' => e = .returned (.int .i64 (chE (numsOf s))) ∧ w = w' := by
  have hs0 := hs
  unfold maxLen at hs
  have NL := Lib.hid (numsOf_length s)
  by_cases h1 : 65536 < s.size
  · have h1' : (65536 : Int) < s.size := by omega
    have e : chE (numsOf s) = 7 := by unfold chE; rw [if_pos (by rw [NL.out]; exact h1)]
    rw [e]
    go_enter Tryd.func55, Tryd.ntmps55
    go_wp2
    go_ret
    exact ⟨rfl, rfl⟩
  · have h1' : ¬ (65536 : Int) < s.size := by omega
    have h1'' : (s.size : Int) ≤ 65536 := by omega
    obtain ⟨R, hR⟩ := named (chE (numsOf s))
    have RG : Hid (pathOk (numsOf s) → R = 0) := fun h => by rw [hR.out]; unfold chE; rw [if_neg (by rw [NL.out]; exact h1), if_pos h]
    have RB : Hid (¬ pathOk (numsOf s) → R = 6) := fun h => by rw [hR.out]; unfold chE; rw [if_neg (by rw [NL.out]; exact h1), if_neg h]
    have HA : Hid (∀ j (h : j < s.size), (numsOf s).getD j 0 = (s[j].toNat : Int)) := num_at s
    have HSM := Lib.hid hs0
    rw [← hR.out]
    clear hR hs0
    go_enter Tryd.func55, Tryd.ntmps55
    go_wp2
    go_loop [3, 4] (fun f i => ∃ a j : Nat, f = .int .i64 a ∧ i = .int .i64 j ∧ ((j ≤ s.size ∧ a ≤ j ∧ (∀ k, a ≤ k → k < j → (numsOf s).getD k 0 ≠ 47) ∧ (pathOk (numsOf s) ↔ pathOk ((numsOf s).drop a))) ∨ (j = s.size + 1 ∧ pathOk (numsOf s)))) (fun _ i => s.size + 2 - (intOf i).toNat)
    case atStart => exact ⟨0, 0, rfl, rfl, .inl ⟨Nat.zero_le _, Nat.le_refl _, fun k _ h => by omega, Iff.rfl⟩⟩
    case round =>
      obtain ⟨a, j, rfl, rfl, hc⟩ := hrel
      rcases hc with ⟨hj, ha, hn, hi⟩ | ⟨hj, hok⟩
      · have HN := Lib.hid hn; have HI := Lib.hid hi
        clear hn hi
        have m0 : (j : Int) ≤ s.size := by omega
        have m1 : (a : Int) ≤ j := by omega
        by_cases hlt : j < s.size
        · have m2 : ((j : Int) == s.size) = false := by simp; omega
          have m3 : (j : Int) < s.size := by omega
          have hx := HA.out j hlt
          obtain ⟨x, hxe⟩ : ∃ x : Int, ((s[j].toNat : Nat) : Int) = x := ⟨_, rfl⟩
          rw [hxe] at hx
          by_cases h47 : x = 47
          · have m4 : (x == 47) = true := by rw [h47]; rfl
            have cut := cut_at (zs := numsOf s) ha (by rw [NL.out]; exact hlt) (by rw [hx]; exact h47)
            have nsl := no_slash (zs := numsOf s) HN.out
            have STEP : Hid (pathOk (numsOf s) ↔ partOk (numsOf (s.extract a j)) ∧ pathOk ((numsOf s).drop (j + 1))) := by
              show _ ↔ _
              rw [HI.out, cut, pathOk_app, nums_ext, pathOk_one nsl]
            clear hx h47 cut nsl
            go_wp2_with fail
            refine (rpart_any (s.extract a j) w (Nat.le_trans (ext_size s a j) HSM.out)).mono ?_; rintro e w1 ⟨rfl, rfl⟩
            by_cases hp : partOk (numsOf (s.extract a j))
            · have HP := Lib.hid hp
              rw [decide_eq_true hp]
              clear hp
              go_wp2
              go_round
              case rel => exact ⟨j + 1, j + 1, by go_num, by go_num, .inl ⟨by omega, Nat.le_refl _, fun k h1 h2 => by omega, ⟨fun h => (STEP.out.1 h).2, fun h => STEP.out.2 ⟨HP.out, h⟩⟩⟩⟩
              case measure => simp [intOf]; omega
            · have e := Lib.hid (RB.out fun h => hp (STEP.out.1 h).1)
              rw [decide_eq_false hp]
              clear hp
              go_wp2
              go_ret
              rw [e.out]
              exact ⟨rfl, rfl⟩
          · have m4 : (x == 47) = false := by simpa using h47
            have HX : Hid ((numsOf s).getD j 0 ≠ 47) := by show _ ≠ _; rw [hx]; exact h47
            clear hx h47
            go_wp2
            go_round
            case rel => exact ⟨a, j + 1, rfl, by go_num, .inl ⟨by omega, by omega, fun k h1 h2 => by
              by_cases e : k = j
              · rw [e]; exact HX.out
              · exact HN.out k h1 (by omega), HI.out⟩⟩
            case measure => simp [intOf]; omega
        · obtain rfl : j = s.size := by omega
          have nsl := no_slash (zs := numsOf s) HN.out
          have STEP : Hid (pathOk (numsOf s) ↔ partOk (numsOf (s.extract a s.size))) := by
            show _ ↔ _
            rw [HI.out, nums_ext, ← pathOk_one nsl, List.take_of_length_le (by rw [List.length_drop, NL.out]; exact Nat.le_refl _)]
          clear nsl
          go_wp2_with fail
          refine (rpart_any (s.extract a s.size) w (Nat.le_trans (ext_size s a s.size) HSM.out)).mono ?_; rintro e w1 ⟨rfl, rfl⟩
          by_cases hp : partOk (numsOf (s.extract a s.size))
          · have HP := Lib.hid (STEP.out.2 hp)
            rw [decide_eq_true hp]
            clear hp
            go_wp2
            go_round
            case rel => exact ⟨s.size + 1, s.size + 1, by go_num, by go_num, .inr ⟨rfl, HP.out⟩⟩
            case measure => simp [intOf]
          · have e := Lib.hid (RB.out fun h => hp (STEP.out.1 h))
            rw [decide_eq_false hp]
            clear hp
            go_wp2
            go_ret
            rw [e.out]
            exact ⟨rfl, rfl⟩
      · have e := Lib.hid (RG.out hok)
        have m0 : decide ((j : Int) ≤ s.size) = false := by simp; omega
        clear hok
        go_wp2
        go_ret
        rw [e.out]
        exact ⟨rfl, rfl⟩
end Go.Proofs.YtinmkgpmoclcoaaDoor.Pnm
/-
  Layer 8: the program's components: an iterator over the parts of a path.
-/
namespace Go.Proofs.YtinmkgpmoclcoaaDoor.Pnm
open Go.RowKit Go.Shelf
attribute [local go_sem] Oper.semAt_some

def compsB (s : ByteArray) : List ByteArray := (comps (numsOf s)).map strOfNums

set_option maxRecDepth 100000 in
set_option maxHeartbeats 2000000 in
theorem comp1_in (F : Fence) (n : Nat) (hf : F.fn 74) (hro : F.round = none) (hn : 1 ≤ n) (l Bp n₀ : Nat) (s : ByteArray) (hs : s.size ≤ maxLen) (hb : Bp < n₀) (J Jx : List ByteArray → World → Prop)
    (hY : ∀ pre x W, J pre W → pre.length < (compsB s).length → YieldAt F (n - 1) Tryd.prog l #[.string x] W fun e W' =>
      (e = .returned (.bool true) ∧ J (pre ++ [x]) W' ∧ Below n₀ W W') ∨ (e = .returned (.bool false) ∧ Jx (pre ++ [x]) W'))
    (W : World) (hBp : W.cell? ⟨Bp, 0, none⟩ = some (.string s)) (h0 : J [] W) :
    CallsIn F n Tryd.prog 74 #[.func (.yield l) #[] #[], .pointer (some ⟨Bp, 0, none⟩)] W fun e W' => (∃ v, e = .returned v) ∧
      ((∃ ys, ys = compsB s ∧ J ys W') ∨ (∃ pre, pre <+: compsB s ∧ Jx pre W')) := by
  unfold maxLen at hs
  have NL := Lib.hid (numsOf_length s)
  have HA : Hid (∀ j (h : j < s.size), (numsOf s).getD j 0 = (s[j].toNat : Int)) := num_at s
  refine callsIn_of_wp Tryd.func74 rfl hf ?_ hro
  simp only [Tryd.ntmps74, List.size_toArray, List.length_cons, List.length_nil, Nat.reduceAdd, Nat.reduceSub, Array.replicate_succ, Array.replicate_zero, List.push_toArray, List.append_toArray, List.nil_append, List.cons_append]
  gi_wp2
  gi_loopw [3, 7] (fun f i wr => ∃ (a j : Nat) (pre : List ByteArray), f = .int .i64 a ∧ i = .int .i64 j ∧ j ≤ s.size ∧ a ≤ j ∧ (∀ k, a ≤ k → k < j → (numsOf s).getD k 0 ≠ 47) ∧ pre ++ (comps ((numsOf s).drop a)).map strOfNums = compsB s ∧ J pre wr ∧ Below n₀ W wr)
    (fun _ i _ => s.size + 1 - (intOf i).toNat)
  case atStart => exact ⟨0, 0, [], rfl, rfl, Nat.zero_le _, Nat.le_refl _, fun k _ h => by omega, rfl, h0, Below.refl _ _⟩
  case round =>
    obtain ⟨a, j, pre, rfl, rfl, hj, ha, hns, hpre, hJs, hnx⟩ := hrel
    have HP := Lib.hid hpre; have HN := Lib.hid hns; have HJ := Lib.hid hJs; have HX := Lib.hid hnx
    have hcell : wr.cell? ⟨Bp, 0, none⟩ = some (.string s) := (hnx.cell (p := ⟨Bp, 0, none⟩) hb).trans hBp
    clear hpre hns hJs hnx
    have m1 : (a : Int) ≤ j := by omega
    have m0 : (j : Int) ≤ s.size := by omega
    have nsl := Lib.hid (no_slash (zs := numsOf s) HN.out)
    by_cases hlt : j < s.size
    · have m3 : (j : Int) < s.size := by omega
      have hx := HA.out j hlt
      obtain ⟨x, hxe⟩ : ∃ x : Int, ((s[j].toNat : Nat) : Int) = x := ⟨_, rfl⟩
      rw [hxe] at hx
      by_cases h47 : x = 47
      · have m4 : (x != 47) = false := by rw [h47]; rfl
        have cut := cut_at (zs := numsOf s) ha (by rw [NL.out]; exact hlt) (by rw [hx]; exact h47)
        have e1 : Hid ((pre ++ [s.extract a j]) ++ (comps ((numsOf s).drop (j + 1))).map strOfNums = compsB s) := by
          show _ = _
          rw [← HP.out, cut, comps_cut nsl.out, List.map_cons, ext_str, List.append_assoc]; rfl
        have hlen : pre.length < (compsB s).length := by rw [← e1.out]; simp
        obtain ⟨fn, tmps, assign, body, hy, hR⟩ := hY pre (s.extract a j) wr HJ.out hlen
        clear hx h47 cut hlen
        gi_wp2
        refine hR.mono ?_
        rintro e W3 (⟨rfl, hJ3, hk3⟩ | ⟨rfl, hJx3⟩)
        · gi_wp2
          go_roundw
          case rel => exact ⟨j + 1, j + 1, pre ++ [s.extract a j], by go_num, by go_num, by omega, Nat.le_refl _, fun k h1 h2 => by omega, e1.out, hJ3, HX.out.trans hk3⟩
          case measure => simp [intOf]; omega
        · gi_wp2
          refine bodyPost_ret (results_none rfl _ _ _) rfl ?_
          exact ⟨⟨_, rfl⟩, .inr ⟨_, ⟨_, e1.out⟩, hJx3⟩⟩
      · have m4 : (x != 47) = true := by simpa using h47
        have HX47 : Hid ((numsOf s).getD j 0 ≠ 47) := by show _ ≠ _; rw [hx]; exact h47
        clear hx h47
        gi_wp2
        go_roundw
        case rel => exact ⟨a, j + 1, pre, rfl, by go_num, by omega, by omega, fun k h1 h2 => by
          by_cases e : k = j
          · rw [e]; exact HX47.out
          · exact HN.out k h1 (by omega), HP.out, HJ.out, HX.out⟩
        case measure => simp [intOf]; omega
    · obtain rfl : j = s.size := by omega
      have e1 : Hid (pre ++ [s.extract a s.size] = compsB s) := by
        show _ = _
        have e := nsl.out
        rw [List.take_of_length_le (by rw [List.length_drop, NL.out]; exact Nat.le_refl _)] at e
        rw [← HP.out, comps_one e, ext_str, List.take_of_length_le (by rw [List.length_drop, NL.out]; exact Nat.le_refl _)]; rfl
      have hlen : pre.length < (compsB s).length := by rw [← e1.out]; simp
      obtain ⟨fn, tmps, assign, body, hy, hR⟩ := hY pre (s.extract a s.size) wr HJ.out hlen
      clear hlen
      gi_wp2
      refine hR.mono ?_
      rintro e W3 (⟨rfl, hJ3, hk3⟩ | ⟨rfl, hJx3⟩)
      · gi_wp2
        go_end0
        exact ⟨⟨_, rfl⟩, .inl ⟨_, e1.out, hJ3⟩⟩
      · gi_wp2
        go_end0
        exact ⟨⟨_, rfl⟩, .inr ⟨_, ⟨[], by rw [List.append_nil]; exact e1.out⟩, hJx3⟩⟩

set_option maxHeartbeats 1000000 in
theorem comp_in (F : Fence) (n : Nat) (hf : F.fn 66) (hro : F.round = none) (s : ByteArray) (w : World) :
    CallsIn F n Tryd.prog 66 #[.string s] w fun e w' => e = .returned (.func (.func 74) #[] #[.pointer (some ⟨w.heap.size, 0, none⟩)]) ∧ w' = w.alloc (.cells #[.string s] 9) := by
  refine callsIn_of_wp Tryd.func66 rfl hf ?_ hro
  simp only [Tryd.ntmps66, List.size_toArray, List.length_cons, List.length_nil, Nat.reduceAdd, Nat.reduceSub, Array.replicate_succ, Array.replicate_zero, List.push_toArray, List.append_toArray, List.nil_append, List.cons_append]
  gi_wp2
  go_ret
  exact ⟨rfl, rfl⟩

theorem comp_stops (F : Fence) (n : Nat) (hf : F.fn 74) (hro : F.round = none) (hn : 1 ≤ n) (Bp n₀ : Nat) (s : ByteArray) (hs : s.size ≤ maxLen) (hb : Bp < n₀) (w : World) (hB : Bp < w.heap.size)
    (hc : w.cell? ⟨Bp, 0, none⟩ = some (.string s)) :
    SeqStopsK F n Tryd.prog 74 #[.pointer (some ⟨Bp, 0, none⟩)] (fun x : ByteArray => #[Value.string x]) (Below n₀) (fun ys => ys = compsB s) (fun pre => pre <+: compsB s) (compsB s).length w := fun l J Jx W hW _ _ hY h0 =>
  comp1_in F n hf hro hn l Bp n₀ s hs hb J Jx hY W ((hW.cell (p := ⟨Bp, 0, none⟩) hB).trans hc) h0
end Go.Proofs.YtinmkgpmoclcoaaDoor.Pnm
/-
  Layer 8: the program's Check.
-/
namespace Go.Proofs.YtinmkgpmoclcoaaDoor.Pnm
open Go.RowKit Go.Shelf
attribute [local go_sem] Oper.semAt_some

theorem comps_mem {z : Int} (hz : z ≠ 47) : ∀ zs : List Int, z ∈ zs ↔ ∃ c ∈ comps zs, z ∈ c
  | [] => by simp [comps]
  | y :: zs => by
    have ih := comps_mem hz zs
    unfold comps
    by_cases h : y = 47
    · rw [if_pos h, List.mem_cons, ih]
      constructor
      · rintro (e | ⟨c, hc, h1⟩)
        · exact absurd (e.trans h) hz
        · exact ⟨c, List.mem_cons_of_mem _ hc, h1⟩
      · rintro ⟨c, hc, h1⟩
        rcases List.mem_cons.1 hc with rfl | hc
        · cases h1
        · exact .inr ⟨c, hc, h1⟩
    · rw [if_neg h]
      cases hc : comps zs with
      | nil => exact absurd hc (comps_ne zs)
      | cons c cs =>
        rw [hc] at ih
        simp only [List.mem_cons, exists_eq_or_imp] at ih ⊢
        rw [ih, or_assoc]
def badS (x : ByteArray) : Prop := x = { data := #[] } ∨ x = { data := #[46] } ∨ x = { data := #[46, 46] }
instance (x : ByteArray) : Decidable (badS x) := by unfold badS; infer_instance
theorem bad_part (x : ByteArray) : badS x ↔ (numsOf x = [] ∨ numsOf x = [46] ∨ numsOf x = [46, 46]) := by
  unfold badS
  constructor
  · rintro (rfl | rfl | rfl)
    · exact .inl rfl
    · exact .inr (.inl rfl)
    · exact .inr (.inr rfl)
  · rintro (h | h | h)
    · exact .inl (nums_inj (h.trans rfl))
    · exact .inr (.inl (nums_inj (h.trans rfl)))
    · exact .inr (.inr (nums_inj (h.trans rfl)))
theorem comps_sub {zs : List Int} {c : List Int} (hc : c ∈ comps zs) {z : Int} (hz : z ∈ c) : z ∈ zs :=
  (comps_mem (fun e => comps_noslash zs c hc (e ▸ hz)) zs).2 ⟨c, hc, hz⟩
theorem comp_nums {s : ByteArray} {c : List Int} (hc : c ∈ comps (numsOf s)) : numsOf (strOfNums c) = c :=
  numsOf_strOfNums fun z hz => by
    have := comps_sub hc hz
    rw [numsOf_eq, List.mem_map] at this
    obtain ⟨b, _, rfl⟩ := this
    have := b.toNat_lt
    omega
theorem path_parts (s : ByteArray) : pathOk (numsOf s) ↔ (0 : Int) ∉ numsOf s ∧ ∀ x ∈ compsB s, ¬ badS x := by
  constructor
  · intro h
    refine ⟨fun h0 => ?_, fun x hx => ?_⟩
    · obtain ⟨c, hc, hz⟩ := (comps_mem (by decide) _).1 h0
      exact (h c hc).2.2.2 hz
    · obtain ⟨c, hc, rfl⟩ := List.mem_map.1 hx
      rw [bad_part, comp_nums hc]
      obtain ⟨h1, h2, h3, _⟩ := h c hc
      rintro (e | e | e)
      · exact h1 e
      · exact h2 e
      · exact h3 e
  · rintro ⟨h0, h⟩ c hc
    have hb := h _ (List.mem_map.2 ⟨c, hc, rfl⟩)
    rw [bad_part, comp_nums hc] at hb
    exact ⟨fun e => hb (.inl e), fun e => hb (.inr (.inl e)), fun e => hb (.inr (.inr e)), fun hz => h0 (comps_sub hc hz)⟩
theorem idx_zero (s : ByteArray) (k : Int) (hk : Lib.indexByte s.data.toList 0 = k) : (0 ≤ k ↔ (0 : Int) ∈ numsOf s) := by
  rw [← hk]; exact idx_byte s 0

theorem res14 (tmps : Array Value) (W : World) (g : Nat) (z : Int) (hp : tmps.getD 2 undef = .pointer (some ⟨g, 0, none⟩)) (hc : W.cell? ⟨g, 0, none⟩ = some (.int .i64 z)) :
    (results Tryd.f45 tmps).run Tryd.prog W = .ok (.int .i64 z) W := by
  have hp' : tmps[2]?.getD undef = .pointer (some ⟨g, 0, none⟩) := by simpa using hp
  simp [results, Tryd.f45, hp', go_sem, hc]

set_option maxHeartbeats 2000000 in
theorem pcheck_long (s : ByteArray) (w : World) (h1 : (65536 : Int) < s.size) : Calls Tryd.prog 45 #[.string s] w fun e w' => e = .returned (.int .i64 7) ∧ Below w.heap.size w w' := by
  go_enter Tryd.func45, Tryd.ntmps45
  go_wp2
  exact bodyPost_ret (res14 _ _ w.heap.size 7 rfl (Boxed.new w 24 _).cell) rfl ⟨rfl, (Below.refl _ w).alloc (Nat.le_refl _) _⟩

set_option maxHeartbeats 2000000 in
theorem pcheck_zero (s : ByteArray) (w : World) (h1 : (s.size : Int) ≤ 65536) (hz : (0 : Int) ∈ numsOf s) : Calls Tryd.prog 45 #[.string s] w fun e w' => e = .returned (.int .i64 6) ∧ Below w.heap.size w w' := by
  obtain ⟨k, hk⟩ := named (Lib.indexByte s.data.toList 0)
  have hk0 := (idx_zero s k hk.out.symm).2 hz
  go_enter Tryd.func45, Tryd.ntmps45
  go_wp2_with fail
  refine (Tryd.strings_IndexByte s 0 _).mono ?_; rintro e w1 ⟨rfl, rfl⟩
  rw [show (0 : Int).toNat.toUInt8 = 0 from rfl, ← hk.out]
  go_wp2
  exact bodyPost_ret (res14 _ _ w.heap.size 6 rfl (Boxed.new w 24 _).cell) rfl ⟨rfl, (Below.refl _ w).alloc (Nat.le_refl _) _⟩

theorem eq_tests (x : ByteArray) : (badS x → x.toList.isEmpty = true ∨ (x.toList.isEmpty = false ∧ (x.toList == [46]) = true) ∨ (x.toList.isEmpty = false ∧ (x.toList == [46]) = false ∧ (x.toList == [46, 46]) = true)) ∧
    (¬ badS x → x.toList.isEmpty = false ∧ (x.toList == [46]) = false ∧ (x.toList == [46, 46]) = false) := by
  have e1 : ({ data := #[] } : ByteArray).toList = [] := by rw [ByteArray.toList_eq]
  have e2 : ({ data := #[46] } : ByteArray).toList = [46] := by rw [ByteArray.toList_eq]
  have e3 : ({ data := #[46, 46] } : ByteArray).toList = [46, 46] := by rw [ByteArray.toList_eq]
  constructor
  · rintro (rfl | rfl | rfl)
    · rw [e1]; decide
    · rw [e2]; decide
    · rw [e3]; decide
  · intro h
    refine ⟨empty_no fun e => h (.inl e), ?_, ?_⟩
    · rw [← e2]; exact bytes_neq fun e => h (.inr (.inl e))
    · rw [← e3]; exact bytes_neq fun e => h (.inr (.inr e))

set_option maxRecDepth 100000 in
set_option maxHeartbeats 4000000 in
theorem pcheck_in (s : ByteArray) (w : World) (h1 : (s.size : Int) ≤ 65536) (hz : ¬ (0 : Int) ∈ numsOf s) (R : Int) (hR0 : Hid ((∀ x ∈ compsB s, ¬ badS x) → R = 0)) (hR6 : Hid ((∃ x ∈ compsB s, badS x) → R = 6)) :
    CallsIn Fence.wide 4 Tryd.prog 45 #[.string s] w fun e w' => e = .returned (.int .i64 R) ∧ Below w.heap.size w w' := by
  obtain ⟨k, hk⟩ := named (Lib.indexByte s.data.toList 0)
  have hk0 : k < 0 := by
    rcases Int.lt_or_le k 0 with h | h
    · exact h
    · exact absurd ((idx_zero s k hk.out.symm).1 h) hz
  have hsz : s.size ≤ maxLen := by unfold maxLen; omega
  clear hz
  refine callsIn_of_wp_marks Tryd.func45 rfl trivial ?_ rfl
  simp only [Tryd.ntmps45, List.size_toArray, List.length_cons, List.length_nil, Nat.reduceAdd, Nat.reduceSub, Array.replicate_succ, Array.replicate_zero, List.push_toArray, List.append_toArray, List.nil_append, List.cons_append]
  gi_wp2_with (first | (refine ⟨trivial, ?_⟩; gi_at_call 65; refine (callsIn_wide.2 (Tryd.strings_IndexByte s 0 _)).mono ?_; rintro e w1 ⟨rfl, rfl⟩; rw [show (0 : Int).toNat.toUInt8 = 0 from rfl, ← hk.out]) | (refine ⟨trivial, ?_⟩; gi_at_call 66; refine (comp_in Fence.wide 3 trivial rfl s _).mono ?_; rintro e w1 ⟨rfl, rfl⟩))
  have bR := Boxed.new w 24 (.int .i64 0)
  have bN := Boxed.new (w.alloc (.cells #[.int .i64 0] 24)) 9 (.string s)
  rw [World.size_alloc] at bN
  have hB0 : Below w.heap.size w ((w.alloc (.cells #[.int .i64 0] 24)).alloc (.cells #[.string s] 9)) := ((Below.refl _ w).alloc (Nat.le_refl _) _).alloc (by simp) _
  refine wpIn_rangeFunc_ownG rfl (by decide) (gf := 74) (lb := #[.pointer (some ⟨w.heap.size + 1, 0, none⟩)]) rfl trivial (enters_of Tryd.func74 (by kernel_rfl) rfl)
    (comp_stops Fence.wide 3 trivial rfl (by decide) (w.heap.size + 1) (w.heap.size + 2) s hsz (by omega) _ (by simp) bN.cell) belowK_t (belowK_b (by simp)) (Below.refl _ _) (fun _ => rfl)
    (fun pre W => ((∀ x ∈ pre, ¬ badS x) ∧ W.cell? ⟨w.heap.size, 0, none⟩ = some (.int .i64 0) ∧ W.frozen? ⟨w.heap.size, 0, none⟩ = false) ∧ Below w.heap.size w W)
    (fun c pre W => (c = .ret ∧ (∃ x ∈ pre, badS x) ∧ W.cell? ⟨w.heap.size, 0, none⟩ = some (.int .i64 6)) ∧ Below w.heap.size w W)
    (OwnFrom.and (Own.from (fun s A B row hs hg hr => ⟨hs.1, cell_kept hs.2.1 hg hr, (frozen_kept hs.2.1 hg hr).trans hs.2.2⟩) _) (ownFrom_below (Nat.le_refl _) (by simp; omega)))
    (fun c => OwnFrom.and (Own.from (fun s A B row hs hg hr => ⟨hs.1, hs.2.1, cell_kept hs.2.2 hg hr⟩) _) (ownFrom_below (Nat.le_refl _) (by simp; omega)))
    ⟨⟨by simp, (bR.alloc _).cell, (bR.alloc _).frozen⟩, hB0⟩
    (fun x => { tmps := #[.string s, undef, .pointer (some ⟨w.heap.size, 0, none⟩), .string x, .bool (decide ((65536 : Int) < s.size)), .string s, .int .i64 s.size, .bool (decide ((65536 : Int) < s.size)), .bool (decide (0 ≤ k)), .string s, .int .i64 k, .bool (decide (0 ≤ k)), .string s, .func (.func 74) #[] #[.pointer (some ⟨w.heap.size + 1, 0, none⟩)], .string x, undef, undef, undef, undef, undef, undef, undef, undef, undef, undef], defers := [] }) ?assign ?body ?done ?stop
  case assign =>
    intro l x W K hK
    gi_wp2
    exact hK
  case body =>
    rintro l pre x W ⟨⟨hp, hc, hf⟩, hB⟩ _
    have HP := Lib.hid hp
    have HB := Lib.hid hB
    clear hp hB
    by_cases hb : badS x
    · have HX : Hid (∃ y ∈ pre ++ [x], badS y) := ⟨x, by simp, hb⟩
      rcases (eq_tests x).1 hb with m1 | ⟨m1, m2⟩ | ⟨m1, m2, m3⟩
      all_goals
        clear hb
        gi_wp2
        exact ⟨(KeepsOthers.setCell _ _ _).from _, ⟨rfl, HX.out, World.cell?_setCell_same' _ _ _ (by rw [hc]; rfl)⟩, HB.out.setCell (p := ⟨w.heap.size, 0, none⟩) (Nat.le_refl _) _⟩
    · obtain ⟨m1, m2, m3⟩ := (eq_tests x).2 hb
      have HX : Hid (∀ y ∈ pre ++ [x], ¬ badS y) := fun y hy => by
        rcases List.mem_append.1 hy with h | h
        · exact HP.out y h
        · rw [List.mem_singleton.1 h]; exact hb
      clear hb
      gi_wp2
      exact ⟨(KeepsOthers.refl _).from _, Below.refl _ _, ⟨HX.out, hc, hf⟩, HB.out⟩
  case done =>
    rintro D ys W hD rfl ⟨⟨hne, hc, hf⟩, hB⟩ hK
    have e := Lib.hid (hR0.out hne)
    clear hne
    gi_wp2
    have hK' := (KeepsOthers.setCell W ⟨w.heap.size, 0, none⟩ (.int .i64 0)).same D _ hK rfl
    refine ⟨by simp, .inl ⟨_, _, rfl, run_takeDeferred hK', ?_⟩⟩
    have hc5 := cell_kept (World.cell?_setCell_same' W ⟨w.heap.size, 0, none⟩ (.int .i64 0) (by rw [hc]; rfl)) (grownBy_putObj' _ D (.deferred none)) (fun r e => by cases e; exact ⟨_, hK', rfl⟩)
    exact ⟨_, res14 _ _ w.heap.size 0 rfl hc5, by rw [e.out], (hB.setCell (p := ⟨w.heap.size, 0, none⟩) (Nat.le_refl _) _).trans (belowK_b (w := w) (Nat.le_refl _) _ D _ _ (by simp at hD; omega) hK' rfl rfl)⟩
  case stop =>
    rintro D c pre W hD hpre ⟨⟨rfl, ⟨x, hx, hin⟩, hcr⟩, hB⟩ hK
    have e := Lib.hid (hR6.out ⟨x, hpre.subset hx, hin⟩)
    gi_wp2
    refine ⟨by simp, .inl ⟨_, _, rfl, run_takeDeferred hK, ?_⟩⟩
    have hc5 := cell_kept hcr (grownBy_putObj' _ D (.deferred none)) (fun r e => by cases e; exact ⟨_, hK, rfl⟩)
    exact ⟨_, res14 _ _ w.heap.size 6 rfl hc5, by rw [e.out], hB.trans (belowK_b (w := w) (Nat.le_refl _) W D _ _ (by simp at hD; omega) hK rfl rfl)⟩

theorem pcheck (s : ByteArray) (w : World) (_ : s.size ≤ maxLen) : Calls Tryd.prog 45 #[.string s] w fun e w' => e = .returned (.int .i64 (chE (numsOf s))) ∧ Below w.heap.size w w' := by
  unfold chE
  rw [numsOf_length]
  by_cases h1 : 65536 < s.size
  · rw [if_pos h1]; exact pcheck_long s w (by omega)
  · rw [if_neg h1]
    by_cases hz : (0 : Int) ∈ numsOf s
    · rw [if_neg (fun h => ((path_parts s).1 h).1 hz)]
      exact pcheck_zero s w (by omega) hz
    · refine callsIn_wide.1 (pcheck_in s w (by omega) hz _ ?_ ?_)
      · exact Lib.hid fun h => if_pos ((path_parts s).2 ⟨hz, h⟩)
      · exact Lib.hid fun ⟨x, hx, hb⟩ => if_neg fun h => ((path_parts s).1 h).2 x hx hb
end Go.Proofs.YtinmkgpmoclcoaaDoor.Pnm
/-
  Layer 10: the program's checkTarget, checkSize, Check.
-/
namespace Go.Proofs.YtinmkgpmoclcoaaDoor.Fit
open Go.RowKit Pxr Pnm

theorem chk_link (t : ByteArray) : chk (kLink, t) = chkT t := by unfold chk; rw [if_pos (.inl rfl)]

set_option maxHeartbeats 1000000 in
theorem ptarget_any (k : Int) (t : ByteArray) (w : World) (V : FVars w) (ht : t.size ≤ maxLen) : Calls Tryd.prog 46 #[.int .i64 k, .string t] w fun e w' => e = .returned (.int .i64 (tgE k t)) ∧ Below w.heap.size w w' := by
  have H1 := Lib.hid (Pxr.check_any kLink t w V.v ht)
  have H2 := Lib.hid (Pnm.pcheck t w ht)
  rw [chk_link] at H1
  obtain ⟨R, hR⟩ := named (tgE k t)
  rw [← hR.out]
  clear V ht
  by_cases h2 : k = 2
  · subst h2
    have e : R = chkT t := by rw [hR.out]; unfold tgE; rw [if_pos rfl]
    rw [← e] at H1
    clear hR e H2
    go_enter Tryd.func46, Tryd.ntmps46
    go_wp2_with fail
    refine H1.out.mono ?_; rintro e w1 ⟨rfl, b⟩
    have B := Lib.hid b; clear b
    go_wp2
    go_ret
    exact ⟨rfl, B.out⟩
  · have n2 : (k == 2) = false := by simpa using h2
    by_cases h3 : k = 3
    · subst h3
      have e : R = chE (numsOf t) := by rw [hR.out]; unfold tgE; rw [if_neg (by decide), if_pos rfl]
      rw [← e] at H2
      clear hR e H1
      go_enter Tryd.func46, Tryd.ntmps46
      go_wp2_with fail
      refine H2.out.mono ?_; rintro e w1 ⟨rfl, b⟩
      have B := Lib.hid b; clear b
      go_wp2
      go_ret
      exact ⟨rfl, B.out⟩
    · have n3 : (k == 3) = false := by simpa using h3
      have e : R = if t = emp then 0 else 2 := by rw [hR.out]; unfold tgE; rw [if_neg h2, if_neg h3]
      clear hR H1 H2 h2 h3
      by_cases ht : t = emp
      · rw [if_pos ht] at e
        subst e; subst ht
        go_enter Tryd.func46, Tryd.ntmps46
        go_wp2
        go_ret
        exact ⟨rfl, Below.refl _ _⟩
      · rw [if_neg ht] at e
        have hi := empty_no ht
        clear ht
        subst e
        go_enter Tryd.func46, Tryd.ntmps46
        go_wp2
        go_ret
        exact ⟨rfl, Below.refl _ _⟩

set_option maxHeartbeats 1000000 in
theorem psize_any (k s : Int) (w : World) : Calls Tryd.prog 47 #[.int .i64 k, .int .i64 s] w fun e w' => e = .returned (.int .i64 (szE k s)) ∧ w = w' := by
  obtain ⟨R, hR⟩ := named (szE k s)
  rw [← hR.out]
  by_cases h1 : k = 1
  · subst h1
    have e : R = if s < 0 ∨ 1099511627776 < s then 3 else 0 := by rw [hR.out]; unfold szE; rw [if_pos rfl]
    clear hR
    by_cases c1 : s < 0
    · rw [if_pos (.inl c1)] at e; subst e
      go_enter Tryd.func47, Tryd.ntmps47
      go_wp2
      go_ret
      exact ⟨rfl, rfl⟩
    · by_cases c2 : 1099511627776 < s
      · rw [if_pos (.inr c2)] at e; subst e
        go_enter Tryd.func47, Tryd.ntmps47
        go_wp2
        go_ret
        exact ⟨rfl, rfl⟩
      · rw [if_neg (by omega)] at e; subst e
        go_enter Tryd.func47, Tryd.ntmps47
        go_wp2
        go_ret
        exact ⟨rfl, rfl⟩
  · have n1 : (k == 1) = false := by simpa using h1
    have n1' : (k != 1) = true := by simpa using h1
    have e : R = if s = 0 then 0 else 2 := by rw [hR.out]; unfold szE; rw [if_neg h1]
    clear hR h1
    by_cases c1 : s = 0
    · rw [if_pos c1] at e; subst e; subst c1
      go_enter Tryd.func47, Tryd.ntmps47
      go_wp2
      go_ret
      exact ⟨rfl, rfl⟩
    · rw [if_neg c1] at e; subst e
      have n2 : (s != 0) = true := by simpa using c1
      go_enter Tryd.func47, Tryd.ntmps47
      go_wp2
      go_ret
      exact ⟨rfl, rfl⟩

set_option maxRecDepth 100000 in
set_option maxHeartbeats 4000000 in
theorem pcheck_any (k : Int) (p : ByteArray) (m : Int) (t : ByteArray) (s : Int) (w : World) (V : FVars w) (hp : p.size ≤ maxLen) (ht : t.size ≤ maxLen) :
    Calls Tryd.prog 26 #[.agg (enV k p m t s).toArray] w fun e w' => e = .returned (.int .i64 (ckE ⟨k, p, m, t, s⟩)) ∧ Below w.heap.size w w' := by
  obtain ⟨R, hR⟩ := named (ckE ⟨k, p, m, t, s⟩)
  obtain ⟨E1, h1⟩ := named (chE (numsOf p))
  obtain ⟨E2, h2⟩ := named (tgE k t)
  obtain ⟨E3, h3⟩ := named (szE k s)
  have HR : Hid (R = if k < 0 ∨ 4 ≤ k then 8 else if E1 ≠ 0 then E1 else if m < 0 ∨ 4095 < m ∨ (k = 2 ∧ m ≠ 0) then 16 else if E2 ≠ 0 then E2 else E3) := by
    show _ = _; rw [hR.out, h1.out, h2.out, h3.out]; rfl
  have C1 : Hid (∀ w', Calls Tryd.prog 45 #[.string p] w' fun e w'' => e = .returned (.int .i64 E1) ∧ Below w'.heap.size w' w'') := fun w' => by rw [h1.out]; exact Pnm.pcheck p w' hp
  have C2 : Hid (∀ w', Below w.heap.size w w' → Calls Tryd.prog 46 #[.int .i64 k, .string t] w' fun e w'' => e = .returned (.int .i64 E2) ∧ Below w'.heap.size w' w'') := fun w' hb => by rw [h2.out]; exact ptarget_any k t w' (V.go hb) ht
  have C3 : Hid (∀ w', Calls Tryd.prog 47 #[.int .i64 k, .int .i64 s] w' fun e w'' => e = .returned (.int .i64 E3) ∧ w' = w'') := fun w' => by rw [h3.out]; exact psize_any k s w'
  rw [← hR.out]
  clear hR h1 h2 h3 V hp ht
  by_cases k0 : k < 0
  · have e := HR.out; rw [if_pos (.inl k0)] at e; subst e; clear HR C1 C2 C3
    go_enter Tryd.func26, Tryd.ntmps26
    go_wp2_with (first | (refine wpList_box_obj rfl 27 _ rfl (enV k p m t s) rfl ?_; intro w1 g1 b1; have B1 := Lib.hid b1; have c0 := g1.get 0 rfl; clear g1 b1))
    go_ret
    exact ⟨rfl, B1.out⟩
  by_cases k4 : 4 ≤ k
  · have e := HR.out; rw [if_pos (.inr k4)] at e; subst e; clear HR C1 C2 C3
    go_enter Tryd.func26, Tryd.ntmps26
    go_wp2_with (first | (refine wpList_box_obj rfl 27 _ rfl (enV k p m t s) rfl ?_; intro w1 g1 b1; have B1 := Lib.hid b1; have c0 := g1.get 0 rfl; clear g1 b1))
    go_ret
    exact ⟨rfl, B1.out⟩
  go_enter Tryd.func26, Tryd.ntmps26
  go_wp2_with (first | (refine wpList_box_obj rfl 27 _ rfl (enV k p m t s) rfl ?_; intro w1 g1 b1; have H1 := Lib.hid g1; have B1 := Lib.hid b1; have c0 := g1.get 0 rfl; have c1 := g1.get 1 rfl; clear g1 b1))
  refine (C1.out w1).mono ?_; rintro e w2 ⟨rfl, b2⟩
  have H2 := Lib.hid (H1.out.below b2 H1.out.lt); have B2 := Lib.hid (belT B1.out b2)
  clear b2 c0 c1
  by_cases z1 : E1 = 0
  · subst z1
    have HR' : Hid (R = if m < 0 ∨ 4095 < m ∨ (k = 2 ∧ m ≠ 0) then 16 else if E2 ≠ 0 then E2 else E3) := by
      have e := HR.out; rw [if_neg (by omega), if_neg (by simp)] at e; exact e
    clear HR
    have c0 := H2.out.get 0 rfl
    have c2 := H2.out.get 2 rfl
    by_cases m0 : m < 0
    · have e := HR'.out; rw [if_pos (.inl m0)] at e; subst e
      go_wp2_with fail
      go_ret
      exact ⟨rfl, B2.out⟩
    by_cases m1 : 4095 < m
    · have e := HR'.out; rw [if_pos (.inr (.inl m1))] at e; subst e
      go_wp2_with fail
      go_ret
      exact ⟨rfl, B2.out⟩
    by_cases k2 : k = 2 ∧ m ≠ 0
    · have e := HR'.out; rw [if_pos (.inr (.inr k2))] at e; subst e
      obtain ⟨rfl, hm⟩ := k2
      have n2 : (m != 0) = true := by simpa using hm
      go_wp2_with fail
      go_ret
      exact ⟨rfl, B2.out⟩
    have HR2 : Hid (R = if E2 ≠ 0 then E2 else E3) := by
      have e := HR'.out; rw [if_neg (by omega)] at e; exact e
    clear HR'
    have c3 := H2.out.get 3 rfl
    have hk : (k == 2) = false ∨ (k = 2 ∧ m = 0) := by
      by_cases h : k = 2
      · exact .inr ⟨h, by omega⟩
      · exact .inl (by simpa using h)
    clear C1 k0 k4 k2
    rcases hk with n2 | ⟨rfl, rfl⟩
    all_goals
      go_wp2_with fail
      refine (C2.out w2 B2.out).mono ?_; rintro e w3 ⟨rfl, b3⟩
      have H3 := Lib.hid (H2.out.below b3 H2.out.lt); have B3 := Lib.hid (belT B2.out b3)
      clear b3 c0 c2 c3
      by_cases z2 : E2 = 0
      · subst z2
        have e := HR2.out; rw [if_neg (by simp)] at e; subst e
        have c0 := H3.out.get 0 rfl
        have c4 := H3.out.get 4 rfl
        go_wp2_with fail
        refine (C3.out w3).mono ?_; rintro e w4 ⟨rfl, rfl⟩
        go_wp2
        go_ret
        exact ⟨rfl, B3.out⟩
      · have e := HR2.out; rw [if_pos z2] at e; subst e
        have n3 : (R != 0) = true := by simpa using z2
        clear HR2 z2
        go_wp2_with fail
        go_ret
        exact ⟨rfl, B3.out⟩
  · have e := HR.out; rw [if_neg (by omega), if_pos z1] at e; subst e
    have n1 : (R != 0) = true := by simpa using z1
    clear HR z1
    go_wp2_with fail
    go_ret
    exact ⟨rfl, B2.out⟩
end Go.Proofs.YtinmkgpmoclcoaaDoor.Fit
