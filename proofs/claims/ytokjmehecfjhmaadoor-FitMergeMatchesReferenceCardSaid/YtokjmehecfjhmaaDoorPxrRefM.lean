/-
  Layer 9: the reference's Number.
-/
import Derived.Test.YtokjmehecfjhmaaDoorPxrNum
import Derived.BigQuiet
namespace Go.Proofs.YtokjmehecfjhmaaDoor.Pxr
open Go.RowKit

/-- Number's answers -/
def rnV (most : Int) (zs : List Int) : Int := if decOk zs = false then 0 else if most < decV zs then 0 else decV zs
def rnE (most : Int) (zs : List Int) : Int := if decOk zs = false then 6 else if most < decV zs then 3 else 0

set_option maxHeartbeats 4000000 in
set_option maxRecDepth 100000 in
theorem rnum_any (s : ByteArray) (most : Int) (w : World) (hs : s.size ≤ maxLen) (h0 : 0 ≤ most) (h1 : most ≤ 1099511627776) : Calls Tryd.prog 31 #[.string s, .int .i64 most] w fun e w' =>
    e = .returned (.tuple #[.int .i64 (rnV most (numsOf s)), .int .i64 (rnE most (numsOf s))]) ∧ w = w' := by
  unfold maxLen at hs
  obtain ⟨R, hR⟩ := named (rnV most (numsOf s))
  obtain ⟨E, hE⟩ := named (rnE most (numsOf s))
  rw [← hR.out, ← hE.out]
  have FB : Hid (decOk (numsOf s) = false → R = 0 ∧ E = 6) := fun h => ⟨by rw [hR.out]; unfold rnV; rw [if_pos h], by rw [hE.out]; unfold rnE; rw [if_pos h]⟩
  have FR : Hid (decOk (numsOf s) = true → most < decV (numsOf s) → R = 0 ∧ E = 3) := fun h h' => ⟨by rw [hR.out]; unfold rnV; rw [h, if_neg (by decide), if_pos h'], by rw [hE.out]; unfold rnE; rw [h, if_neg (by decide), if_pos h']⟩
  have FG : Hid (decOk (numsOf s) = true → ¬ most < decV (numsOf s) → R = decV (numsOf s) ∧ E = 0) := fun h h' => ⟨by rw [hR.out]; unfold rnV; rw [h, if_neg (by decide), if_neg h'], by rw [hE.out]; unfold rnE; rw [h, if_neg (by decide), if_neg h']⟩
  have HA : Hid (∀ j (h : j < s.size), (numsOf s).getD j 0 = (s[j].toNat : Int)) := num_at s
  have NL := Lib.hid (numsOf_length s)
  clear hR hE
  by_cases he : s = { data := #[] }
  · have Q := Lib.hid (FB.out (by rw [he]; rfl))
    have hi : s.toList.isEmpty = true := by rw [he, ByteArray.toList_eq]; rfl
    clear FG FR FB HA NL he
    go_enter Tryd.func31, Tryd.ntmps31
    go_wp2
    go_ret2
    rw [Q.out.1, Q.out.2]
    exact ⟨rfl, rfl⟩
  · have hp : 0 < s.size := by
      rcases Nat.eq_zero_or_pos s.size with h | h
      · exact absurd (nums_inj (by rw [List.length_eq_zero_iff.1 ((NL.out).trans h)]; rfl)) he
      · exact h
    have hi := empty_no he
    have hS0 : Hid (s.size ≠ 0) := by show _ ≠ _; omega
    have HP := Lib.hid hp
    clear he
    go_enter Tryd.func31, Tryd.ntmps31
    go_wp2
    go_loop [6] (fun i => ∃ j : Nat, i = .int .i64 j ∧ j ≤ s.size ∧ ∀ k, k < j → 48 ≤ (numsOf s).getD k 0 ∧ (numsOf s).getD k 0 ≤ 57) (fun i => s.size - (intOf i).toNat)
    case atStart => exact ⟨0, rfl, Nat.zero_le _, fun k hk => by omega⟩
    case round =>
      obtain ⟨j, rfl, hj, hd⟩ := hrel
      have HD := Lib.hid hd
      clear hd
      by_cases hlt : j < s.size
      · have hx := HA.out j hlt
        obtain ⟨x, hxe⟩ : ∃ x : Int, ((s[j].toNat : Nat) : Int) = x := ⟨_, rfl⟩
        rw [hxe] at hx
        have HX := Lib.hid hx
        have m1 : (j : Int) < s.size := by omega
        clear hx
        by_cases c1 : x < 48
        · have Q := Lib.hid (FB.out (dec_bad hlt (by rw [HX.out]; omega)))
          go_wp2
          go_ret2
          rw [Q.out.1, Q.out.2]
          exact ⟨rfl, rfl⟩
        · by_cases c2 : 57 < x
          · have Q := Lib.hid (FB.out (dec_bad hlt (by rw [HX.out]; omega)))
            go_wp2
            go_ret2
            rw [Q.out.1, Q.out.2]
            exact ⟨rfl, rfl⟩
          · go_wp2
            go_round
            case rel => exact ⟨j + 1, by go_num, by omega, fun k hk => by
              by_cases e : k = j
              · rw [e, HX.out]; omega
              · exact HD.out k (by omega)⟩
            case measure => simp [intOf]; omega
      · have m1 : ¬ (j : Int) < s.size := by omega
        obtain rfl : j = s.size := by omega
        obtain ⟨x, hxe⟩ : ∃ x : Int, (((s[0]'hp).toNat : Nat) : Int) = x := ⟨_, rfl⟩
        have hx := (HA.out 0 hp).trans hxe
        have HX := Lib.hid hx
        clear hx hlt
        by_cases hz : x = 48 ∧ 1 < s.size
        · have m2 : (x == 48) = true := by rw [hz.1]; rfl
          have m3 : (1 : Int) < s.size := by omega
          have Q := Lib.hid (FB.out (by
            rw [Bool.eq_false_iff]
            intro e
            rw [decOk_iff, NL.out] at e
            have := e.2.2 (by rw [HX.out]; exact hz.1)
            omega))
          clear hz
          go_wp2
          go_ret2
          rw [Q.out.1, Q.out.2]
          exact ⟨rfl, rfl⟩
        · have hok : Hid (decOk (numsOf s) = true) := dec_all HD.out hS0.out (by rw [HX.out]; intro e; have := HP.out; omega)
          have tests : ((x == 48) = true ∧ ¬ (1 : Int) < s.size) ∨ (x == 48) = false := by
            by_cases c : x = 48
            · exact .inl ⟨by rw [c]; rfl, by omega⟩
            · exact .inr (by simpa using c)
          clear hz
          rcases tests with ⟨m2, m3⟩ | m2
          all_goals
            go_wp2
            go_loop [7, 8] (fun n i => ∃ (j : Nat) (z : Int), i = .int .i64 j ∧ n = .int .i64 z ∧ j ≤ s.size ∧ Hid (z = decV ((numsOf s).take j)) ∧ 0 ≤ z ∧ z ≤ most) (fun _ i => s.size - (intOf i).toNat)
            case atStart => exact ⟨0, 0, rfl, rfl, Nat.zero_le _, rfl, Int.le_refl _, h0⟩
            case round =>
              obtain ⟨j, z, rfl, rfl, hj, HZ, z0, z1⟩ := hrel
              by_cases hlt : j < s.size
              · have hx := HA.out j hlt
                obtain ⟨y, hye⟩ : ∃ y : Int, ((s[j].toNat : Nat) : Int) = y := ⟨_, rfl⟩
                rw [hye] at hx
                have hd := HD.out j hlt
                rw [hx] at hd
                obtain ⟨y0, y1⟩ := hd
                have HY := Lib.hid hx
                have j1 : (j : Int) < s.size := by omega
                have HN : Hid (10 * z + y - 48 = decV ((numsOf s).take (j + 1))) := by
                  show _ = _
                  rw [decV_take_succ _ _ (by rw [NL.out]; exact hlt), HY.out]
                  have := HZ.out
                  omega
                have z2 : z ≤ 1099511627776 := by omega
                clear hx
                by_cases hm : most < 10 * z + y - 48
                · have Q := Lib.hid (FR.out hok.out (by have := decV_take_le (numsOf s) (j + 1); have := HN.out; omega))
                  go_wp2
                  go_ret2
                  rw [Q.out.1, Q.out.2]
                  exact ⟨rfl, rfl⟩
                · go_wp2
                  go_round
                  case rel => exact ⟨j + 1, _, by go_num, rfl, by omega, HN.out, by omega, by omega⟩
                  case measure => simp [intOf]; omega
              · obtain rfl : j = s.size := by omega
                have j1 : ¬ (s.size : Int) < s.size := by omega
                have hz := HZ.out
                rw [List.take_of_length_le (by rw [NL.out]; exact Nat.le_refl _)] at hz
                have Q := Lib.hid (FG.out hok.out (by omega))
                have HZ2 := Lib.hid hz
                clear hz hlt
                go_wp2
                go_ret2
                rw [Q.out.1, Q.out.2, ← HZ2.out]
                exact ⟨rfl, rfl⟩
end Go.Proofs.YtokjmehecfjhmaaDoor.Pxr
