/-
  Layer 8: the reference's part, Check.
-/
import Derived.Test.YthcbiohmghaobaaDoorPz01
namespace Go.Proofs.YthcbiohmghaobaaDoor.Pnm
open Go.RowKit

theorem nums_inj {s t : ByteArray} (h : numsOf s = numsOf t) : s = t := by rw [← strOfNums_numsOf s, ← strOfNums_numsOf t, h]

set_option maxHeartbeats 1000000 in
theorem rpart_any (s : ByteArray) (w : World) (hs : s.size ≤ maxLen) : Calls Tryd.prog 91 #[.string s] w fun e w' => e = .returned (.bool (decide (partOk (numsOf s)))) ∧ w = w' := by
  unfold maxLen at hs
  by_cases h1 : s = { data := #[] }
  · subst h1
    rw [decide_eq_false (fun h => h.1 rfl)]
    go_enter Tryd.func91, Tryd.ntmps91
    go_wp2
    go_ret
    exact ⟨rfl, rfl⟩
  · by_cases h2 : s = { data := #[46] }
    · subst h2
      rw [decide_eq_false (fun h => h.2.1 rfl)]
      go_enter Tryd.func91, Tryd.ntmps91
      go_wp2
      go_ret
      exact ⟨rfl, rfl⟩
    · by_cases h3 : s = { data := #[46, 46] }
      · subst h3
        rw [decide_eq_false (fun h => h.2.2.1 rfl)]
        go_enter Tryd.func91, Tryd.ntmps91
        go_wp2
        go_ret
        exact ⟨rfl, rfl⟩
      · have n1 : s.toList.isEmpty = false := empty_no h1
        have n2 := bytes_neq h2
        have n3 := bytes_neq h3
        have e2 : ({ data := #[46] } : ByteArray).toList = [46] := by rw [ByteArray.toList_eq]
        have e3 : ({ data := #[46, 46] } : ByteArray).toList = [46, 46] := by rw [ByteArray.toList_eq]
        have n2' : (s.toList == [46]) = false := by rw [← e2]; exact n2
        have n3' : (s.toList == [46, 46]) = false := by rw [← e3]; exact n3
        have g1 : numsOf s ≠ [] := fun h => h1 (nums_inj h)
        have g2 : numsOf s ≠ [46] := fun h => h2 (nums_inj h)
        have g3 : numsOf s ≠ [46, 46] := fun h => h3 (nums_inj h)
        obtain ⟨R, hR⟩ := named (decide (partOk (numsOf s)))
        have HR : Hid (R = !decide ((0 : Int) ∈ numsOf s)) := by
          show _ = _; rw [hR.out]
          by_cases hz : (0 : Int) ∈ numsOf s
          · rw [decide_eq_false (fun h => h.2.2.2 hz), decide_eq_true hz]; rfl
          · rw [decide_eq_true (show partOk (numsOf s) from ⟨g1, g2, g3, hz⟩), decide_eq_false hz]; rfl
        have HA : Hid (∀ j (h : j < s.size), (numsOf s).getD j 0 = (s[j].toNat : Int)) := num_at s
        have NL := Lib.hid (numsOf_length s)
        rw [← hR.out]
        clear hR g1 g2 g3 h1 h2 h3 e2 e3 n2 n3
        go_enter Tryd.func91, Tryd.ntmps91
        go_wp2
        go_loop [3] (fun i => ∃ j : Nat, j ≤ s.size ∧ i = .int .i64 j ∧ ∀ k, k < j → (numsOf s).getD k 0 ≠ 0) (fun i => s.size + 1 - (intOf i).toNat)
        case atStart => exact ⟨0, Nat.zero_le _, rfl, fun k hk => by omega⟩
        case round =>
          obtain ⟨j, hj, rfl, hz⟩ := hrel
          have HZ := Lib.hid hz
          clear hz
          by_cases hlt : j < s.size
          · have m1 : (j : Int) < s.size := by omega
            have hx := HA.out j hlt
            obtain ⟨x, hxe⟩ : ∃ x : Int, ((s[j].toNat : Nat) : Int) = x := ⟨_, rfl⟩
            rw [hxe] at hx
            by_cases h0 : x = 0
            · have m2 : (x == 0) = true := by rw [h0]; rfl
              have e : Hid (R = false) := by
                show _ = _
                rw [HR.out, decide_eq_true]; rfl
                have hl : j < (numsOf s).length := by rw [NL.out]; exact hlt
                rw [h0, List.getD_eq_getElem?_getD, List.getElem?_eq_getElem hl] at hx
                have hx' : (numsOf s)[j] = 0 := hx
                rw [← hx']; exact List.getElem_mem hl
              clear hx h0
              go_wp2
              go_ret
              rw [e.out]
              exact ⟨rfl, rfl⟩
            · have m2 : (x == 0) = false := by simpa using h0
              have HX : Hid ((numsOf s).getD j 0 ≠ 0) := by show _ ≠ _; rw [hx]; exact h0
              clear hx h0
              go_wp2
              go_round
              case rel => exact ⟨j + 1, by omega, by go_num, fun k hk => by
                by_cases e : k = j
                · rw [e]; exact HX.out
                · exact HZ.out k (by omega)⟩
              case measure => simp [intOf]; omega
          · obtain rfl : j = s.size := by omega
            have e : Hid (R = true) := by
              show _ = _
              rw [HR.out, decide_eq_false]; rfl
              intro hm
              obtain ⟨k, hk, he⟩ := List.getElem_of_mem hm
              refine HZ.out k (by rw [NL.out] at hk; exact hk) ?_
              rw [List.getD_eq_getElem?_getD, List.getElem?_eq_getElem hk]; exact he
            go_wp2
            go_ret
            rw [e.out]
            exact ⟨rfl, rfl⟩

theorem ext_size (s : ByteArray) (a b : Nat) : (s.extract a b).size ≤ s.size := by
  rw [← numsOf_length, nums_ext, List.length_take, List.length_drop, numsOf_length]; omega
theorem mem_getD {l : List Int} {x : Int} (h : x ∈ l) : ∃ i, i < l.length ∧ l.getD i 0 = x := by
  obtain ⟨i, hi, e⟩ := List.getElem_of_mem h
  exact ⟨i, hi, by rw [List.getD_eq_getElem?_getD, List.getElem?_eq_getElem hi]; exact e⟩
/-- the bytes from a up to j hold no slash -/
theorem no_slash {zs : List Int} {a j : Nat} (h : ∀ k, a ≤ k → k < j → zs.getD k 0 ≠ 47) : (47 : Int) ∉ (zs.drop a).take (j - a) := by
  intro hm
  obtain ⟨i, hi, he⟩ := mem_getD hm
  rw [List.length_take, List.length_drop] at hi
  rw [List.getD_eq_getElem?_getD, List.getElem?_take, if_pos (by omega), List.getElem?_drop, ← List.getD_eq_getElem?_getD] at he
  exact h (a + i) (by omega) (by omega) he
theorem cut_at {zs : List Int} {a j : Nat} (ha : a ≤ j) (hj : j < zs.length) (h : zs.getD j 0 = 47) : zs.drop a = (zs.drop a).take (j - a) ++ 47 :: zs.drop (j + 1) := by
  have hg : zs[j] = 47 := by rw [List.getD_eq_getElem?_getD, List.getElem?_eq_getElem hj] at h; exact h
  have e : zs.drop j = 47 :: zs.drop (j + 1) := by rw [List.drop_eq_getElem_cons hj, hg]
  rw [← e]
  conv => lhs; rw [← List.take_append_drop (j - a) (zs.drop a)]
  rw [List.drop_drop, show a + (j - a) = j by omega]

set_option maxRecDepth 100000 in
set_option maxHeartbeats 4000000 in
theorem rcheck_any (s : ByteArray) (w : World) (hs : s.size ≤ maxLen) : Calls Tryd.prog 64 #[.string s] w fun e w' => e = .returned (.int .i64 (chE (numsOf s))) ∧ w = w' := by
  have hs0 := hs
  unfold maxLen at hs
  have NL := Lib.hid (numsOf_length s)
  by_cases h1 : 65536 < s.size
  · have h1' : (65536 : Int) < s.size := by omega
    have e : chE (numsOf s) = 7 := by unfold chE; rw [if_pos (by rw [NL.out]; exact h1)]
    rw [e]
    go_enter Tryd.func64, Tryd.ntmps64
    go_wp2
    go_ret
    exact ⟨rfl, rfl⟩
  · have h1' : ¬ (65536 : Int) < s.size := by omega
    have h1'' : (s.size : Int) ≤ 65536 := by omega
    obtain ⟨R, hR⟩ := named (chE (numsOf s))
    have RG : Hid (pathOk (numsOf s) → R = 0) := fun h => by rw [hR.out]; unfold chE; rw [if_neg (by rw [NL.out]; exact h1), if_pos h]
    have RB : Hid (¬ pathOk (numsOf s) → R = 6) := fun h => by rw [hR.out]; unfold chE; rw [if_neg (by rw [NL.out]; exact h1), if_neg h]
    have HA : Hid (∀ j (h : j < s.size), (numsOf s).getD j 0 = (s[j].toNat : Int)) := num_at s
    have HSM := Lib.hid hs0
    rw [← hR.out]
    clear hR hs0
    go_enter Tryd.func64, Tryd.ntmps64
    go_wp2
    go_loop [3, 4] (fun f i => ∃ a j : Nat, f = .int .i64 a ∧ i = .int .i64 j ∧ ((j ≤ s.size ∧ a ≤ j ∧ (∀ k, a ≤ k → k < j → (numsOf s).getD k 0 ≠ 47) ∧ (pathOk (numsOf s) ↔ pathOk ((numsOf s).drop a))) ∨ (j = s.size + 1 ∧ pathOk (numsOf s)))) (fun _ i => s.size + 2 - (intOf i).toNat)
    case atStart => exact ⟨0, 0, rfl, rfl, .inl ⟨Nat.zero_le _, Nat.le_refl _, fun k _ h => by omega, Iff.rfl⟩⟩
    case round =>
      obtain ⟨a, j, rfl, rfl, hc⟩ := hrel
      rcases hc with ⟨hj, ha, hn, hi⟩ | ⟨hj, hok⟩
      · have HN := Lib.hid hn; have HI := Lib.hid hi
        clear hn hi
        have m0 : (j : Int) ≤ s.size := by omega
        have m1 : (a : Int) ≤ j := by omega
        by_cases hlt : j < s.size
        · have m2 : ((j : Int) == s.size) = false := by simp; omega
          have m3 : (j : Int) < s.size := by omega
          have hx := HA.out j hlt
          obtain ⟨x, hxe⟩ : ∃ x : Int, ((s[j].toNat : Nat) : Int) = x := ⟨_, rfl⟩
          rw [hxe] at hx
          by_cases h47 : x = 47
          · have m4 : (x == 47) = true := by rw [h47]; rfl
            have cut := cut_at (zs := numsOf s) ha (by rw [NL.out]; exact hlt) (by rw [hx]; exact h47)
            have nsl := no_slash (zs := numsOf s) HN.out
            have STEP : Hid (pathOk (numsOf s) ↔ partOk (numsOf (s.extract a j)) ∧ pathOk ((numsOf s).drop (j + 1))) := by
              show _ ↔ _
              rw [HI.out, cut, pathOk_app, nums_ext, pathOk_one nsl]
            clear hx h47 cut nsl
            go_wp2_with fail
            refine (rpart_any (s.extract a j) w (Nat.le_trans (ext_size s a j) HSM.out)).mono ?_; rintro e w1 ⟨rfl, rfl⟩
            by_cases hp : partOk (numsOf (s.extract a j))
            · have HP := Lib.hid hp
              rw [decide_eq_true hp]
              clear hp
              go_wp2
              go_round
              case rel => exact ⟨j + 1, j + 1, by go_num, by go_num, .inl ⟨by omega, Nat.le_refl _, fun k h1 h2 => by omega, ⟨fun h => (STEP.out.1 h).2, fun h => STEP.out.2 ⟨HP.out, h⟩⟩⟩⟩
              case measure => simp [intOf]; omega
            · have e := Lib.hid (RB.out fun h => hp (STEP.out.1 h).1)
              rw [decide_eq_false hp]
              clear hp
              go_wp2
              go_ret
              rw [e.out]
              exact ⟨rfl, rfl⟩
          · have m4 : (x == 47) = false := by simpa using h47
            have HX : Hid ((numsOf s).getD j 0 ≠ 47) := by show _ ≠ _; rw [hx]; exact h47
            clear hx h47
            go_wp2
            go_round
            case rel => exact ⟨a, j + 1, rfl, by go_num, .inl ⟨by omega, by omega, fun k h1 h2 => by
              by_cases e : k = j
              · rw [e]; exact HX.out
              · exact HN.out k h1 (by omega), HI.out⟩⟩
            case measure => simp [intOf]; omega
        · obtain rfl : j = s.size := by omega
          have nsl := no_slash (zs := numsOf s) HN.out
          have STEP : Hid (pathOk (numsOf s) ↔ partOk (numsOf (s.extract a s.size))) := by
            show _ ↔ _
            rw [HI.out, nums_ext, ← pathOk_one nsl, List.take_of_length_le (by rw [List.length_drop, NL.out]; exact Nat.le_refl _)]
          clear nsl
          go_wp2_with fail
          refine (rpart_any (s.extract a s.size) w (Nat.le_trans (ext_size s a s.size) HSM.out)).mono ?_; rintro e w1 ⟨rfl, rfl⟩
          by_cases hp : partOk (numsOf (s.extract a s.size))
          · have HP := Lib.hid (STEP.out.2 hp)
            rw [decide_eq_true hp]
            clear hp
            go_wp2
            go_round
            case rel => exact ⟨s.size + 1, s.size + 1, by go_num, by go_num, .inr ⟨rfl, HP.out⟩⟩
            case measure => simp [intOf]
          · have e := Lib.hid (RB.out fun h => hp (STEP.out.1 h))
            rw [decide_eq_false hp]
            clear hp
            go_wp2
            go_ret
            rw [e.out]
            exact ⟨rfl, rfl⟩
      · have e := Lib.hid (RG.out hok)
        have m0 : decide ((j : Int) ≤ s.size) = false := by simp; omega
        clear hok
        go_wp2
        go_ret
        rw [e.out]
        exact ⟨rfl, rfl⟩
end Go.Proofs.YthcbiohmghaobaaDoor.Pnm
