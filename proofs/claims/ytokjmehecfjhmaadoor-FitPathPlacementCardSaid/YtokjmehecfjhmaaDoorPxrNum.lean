/-
  Layer 9: the program's parseNumber.
-/
import Derived.Test.YtokjmehecfjhmaaDoorPxrItoa
import Derived.Test.YtokjmehecfjhmaaDoorPxrTk
import Derived.Lib.OthersKept
import Derived.Lib.BufferKept
namespace Go.Proofs.YtokjmehecfjhmaaDoor.Pxr
open Go.RowKit

def pnV (zs : List Int) : Int := if decOk zs = true then min (decV zs : Int) 1099511627777 else 0

/-- as far as pos: digits, none ahead of others a zero -/
theorem dec_all {s : ByteArray} (h : ∀ k, k < s.size → 48 ≤ (numsOf s).getD k 0 ∧ (numsOf s).getD k 0 ≤ 57) (h0 : s.size ≠ 0) (hz : (numsOf s).getD 0 0 = 48 → s.size = 1) : decOk (numsOf s) = true := by
  rw [decOk_iff, numsOf_length]
  exact ⟨fun e => h0 (by rw [← numsOf_length, e]; rfl), h, hz⟩
theorem dec_bad {s : ByteArray} {k : Nat} (hk : k < s.size) (h : ¬ (48 ≤ (numsOf s).getD k 0 ∧ (numsOf s).getD k 0 ≤ 57)) : decOk (numsOf s) = false := by
  rw [Bool.eq_false_iff]
  intro e
  rw [decOk_iff, numsOf_length] at e
  exact h (e.2.1 k hk)

set_option maxRecDepth 100000 in
set_option maxHeartbeats 4000000 in
theorem pnum_any (s : ByteArray) (w : World) (hs : s.size ≤ maxLen) : Calls Tryd.prog 70 #[.string s] w fun e w' =>
    e = .returned (.tuple #[.int .i64 (pnV (numsOf s)), .bool (decOk (numsOf s))]) ∧ Below w.heap.size w w' := by
  unfold maxLen at hs
  obtain ⟨R, hR⟩ := named (pnV (numsOf s))
  obtain ⟨B, hB⟩ := named (decOk (numsOf s))
  rw [← hR.out, ← hB.out]
  have FB : Hid (decOk (numsOf s) = false → R = 0 ∧ B = false) := fun h => ⟨by rw [hR.out]; unfold pnV; rw [h]; rfl, by rw [hB.out, h]⟩
  have FG : Hid (decOk (numsOf s) = true → R = min (decV (numsOf s) : Int) 1099511627777 ∧ B = true) := fun h => ⟨by rw [hR.out]; unfold pnV; rw [if_pos h], by rw [hB.out, h]⟩
  have HA : Hid (∀ j (h : j < s.size), (numsOf s).getD j 0 = (s[j].toNat : Int)) := num_at s
  have NL := Lib.hid (numsOf_length s)
  clear hR hB
  by_cases he : s = { data := #[] }
  · obtain ⟨q1, q2⟩ := FB.out (by rw [he]; rfl)
    have hl : s.toList = [] := by rw [he, ByteArray.toList_eq]
    clear FG HA NL
    have Q := Lib.hid (And.intro q1 q2)
    have hi : s.toList.isEmpty = true := by rw [hl]; rfl
    clear q1 q2 he
    go_enter Tryd.func70, Tryd.ntmps70
    go_wp2
    go_ret2
    rw [Q.out.1, Q.out.2]
    exact ⟨rfl, Below.refl _ _⟩
  · have h0 : 0 < s.size := by
      rcases Nat.eq_zero_or_pos s.size with h | h
      · exact absurd (nums_inj (by rw [List.length_eq_zero_iff.1 ((NL.out).trans h)]; rfl)) he
      · exact h
    have hi := empty_no he
    have hx0 := HA.out 0 h0
    obtain ⟨x, hxe⟩ : ∃ x : Int, ((s[0].toNat : Nat) : Int) = x := ⟨_, rfl⟩
    rw [hxe] at hx0
    by_cases hz : x = 48 ∧ s ≠ { data := #[48] }
    · have hbad : decOk (numsOf s) = false := by
        rw [Bool.eq_false_iff]
        intro e
        rw [decOk_iff] at e
        have h1 := e.2.2 (by rw [hx0]; exact hz.1)
        apply hz.2
        apply nums_inj
        match hm : numsOf s, h1 with
        | [y], _ => rw [hm] at hx0; change y = x at hx0; rw [hx0, hz.1]; rfl
      have Q := Lib.hid (FB.out hbad)
      have m1 : (x == 48) = true := by rw [hz.1]; rfl
      have m2 : (s.toList == [48]) = false := by
        have := bytes_neq hz.2; rwa [show ({ data := #[48] } : ByteArray).toList = [48] by rw [ByteArray.toList_eq]] at this
      clear FG HA NL FB hx0 hz hbad he
      go_enter Tryd.func70, Tryd.ntmps70
      go_wp2
      go_ret2
      rw [Q.out.1, Q.out.2]
      exact ⟨rfl, Below.refl _ _⟩
    · have hz1 : Hid ((numsOf s).getD 0 0 = 48 → s.size = 1) := fun e => by
        have : s = { data := #[48] } := by
          by_cases c : s = { data := #[48] }
          · exact c
          · exact absurd ⟨by rw [← hx0]; exact e, c⟩ hz
        rw [this]; rfl
      have hk0 : (w.iter s 0).heap[w.heap.size]? = some (.stringIter s 0) := World.iter_heap w s 0
      have hb0 : Below w.heap.size w (w.iter s 0) := (Below.refl _ w).alloc (Nat.le_refl _) _
      have hS0 : s.size ≠ 0 := by omega
      have HS0 := Lib.hid hS0
      have tests : ((x == 48) = true ∧ (s.toList == [48]) = true) ∨ (x == 48) = false := by
        by_cases c : x = 48
        · refine .inl ⟨by rw [c]; rfl, ?_⟩
          have : s = { data := #[48] } := by
            by_cases c' : s = { data := #[48] }
            · exact c'
            · exact absurd ⟨c, c'⟩ hz
          rw [this, ByteArray.toList_eq]; rfl
        · exact .inr (by simpa using c)
      clear hx0 hz he hS0
      have HK := Lib.hid hk0; have HB := Lib.hid hb0
      clear hk0 hb0
      rcases tests with ⟨m1, m2⟩ | m1
      all_goals
        go_enter Tryd.func70, Tryd.ntmps70
        go_wp2
        go_loopw [4] (fun n wr => ∃ pos : Nat, pos ≤ s.size ∧ n = .int .i64 (min (decV ((numsOf s).take pos) : Int) 1099511627777) ∧ (∀ k, k < pos → 48 ≤ (numsOf s).getD k 0 ∧ (numsOf s).getD k 0 ≤ 57) ∧ wr.heap[w.heap.size]? = some (.stringIter s pos) ∧ Below w.heap.size w wr)
          (fun _ wr => s.size - wr.iterPos w.heap.size)
        case atStart => exact ⟨0, Nat.zero_le _, rfl, fun k hk => by omega, HK.out, HB.out⟩
        case round =>
          obtain ⟨pos, hps, rfl, hdg, hk, hnx⟩ := hrel
          have HD := Lib.hid hdg
          clear hdg
          have hmu : wr.iterPos w.heap.size = pos := by simp [World.iterPos, hk]
          by_cases hp : pos < s.size
          · have hx := HA.out pos hp
            obtain ⟨nn, hnn⟩ : ∃ n : Int, min (decV ((numsOf s).take pos) : Int) 1099511627777 = n := ⟨_, rfl⟩
            rw [hnn]
            have n0 : 0 ≤ nn := by omega
            have n1 : nn ≤ 1099511627777 := by omega
            by_cases ha : (s[pos]'hp).toNat < 128
            · have hnext : ∀ ty, (Instr.next (.pointer (some ⟨w.heap.size, 0, none⟩)) true ty).run Tryd.prog wr = _ := fun ty => Lib.run_next_ascii_at wr w.heap.size s pos ty hk hp ha
              have hk1 := Lib.iterAt_heap wr w.heap.size s pos (pos + 1) hk
              have hnx1 : Below w.heap.size w (wr.iterAt w.heap.size s (pos + 1)) := Lib.below_iterAt hnx (Nat.le_refl _) s (pos + 1)
              have hmu1 : (wr.iterAt w.heap.size s (pos + 1)).iterPos w.heap.size = pos + 1 := by simp [World.iterPos, hk1]
              generalize wr.iterAt w.heap.size s (pos + 1) = W1 at hnext hk1 hnx1 hmu1
              obtain ⟨y, hye⟩ : ∃ y : Int, ((s[pos].toNat : Nat) : Int) = y := ⟨_, rfl⟩
              rw [hye] at hx
              have y0 : 0 ≤ y := by omega
              have y1 : y < 128 := by omega
              have HX := Lib.hid hx; have HN := Lib.hid hnn; have HK1 := Lib.hid hk1; have HX1 := Lib.hid hnx1; have HM := Lib.hid hmu; have HM1 := Lib.hid hmu1
              clear hx hnn hk1 hnx1 hmu hmu1 hk hnx
              by_cases c1 : y < 48
              · have Q := Lib.hid (FB.out (dec_bad hp (by rw [HX.out]; omega)))
                go_wp2
                go_ret2
                rw [Q.out.1, Q.out.2]
                exact ⟨rfl, HX1.out⟩
              · by_cases c2 : 57 < y
                · have Q := Lib.hid (FB.out (dec_bad hp (by rw [HX.out]; omega)))
                  go_wp2
                  go_ret2
                  rw [Q.out.1, Q.out.2]
                  exact ⟨rfl, HX1.out⟩
                · go_wp2_with (first | (refine wpList_min2 ..))
                  go_roundw
                  case rel =>
                    refine ⟨pos + 1, hp, ?_, fun k hk => ?_, HK1.out, HX1.out⟩
                    · have e1 := decV_take_succ (numsOf s) pos (by rw [NL.out]; exact hp)
                      rw [HX.out] at e1
                      have e2 := HN.out
                      congr 1
                      omega
                    · by_cases e : k = pos
                      · rw [e, HX.out]; omega
                      · exact HD.out k (by omega)
                  case measure => rw [HM.out, HM1.out]; omega
            · have hh := decode_high s pos hp (by omega)
              have hnext : ∀ ty, (Instr.next (.pointer (some ⟨w.heap.size, 0, none⟩)) true ty).run Tryd.prog wr = _ := fun ty => Lib.run_next_any_at wr w.heap.size s pos ty hk hp
              have hnx1 : Below w.heap.size w (wr.iterAt w.heap.size s (pos + (Utf8.decode s pos).2)) := Lib.below_iterAt hnx (Nat.le_refl _) s _
              generalize wr.iterAt w.heap.size s (pos + (Utf8.decode s pos).2) = W1 at hnext hnx1
              obtain ⟨y, hye⟩ : ∃ y : Int, (((Utf8.decode s pos).1 : Nat) : Int) = y := ⟨_, rfl⟩
              rw [hye] at hnext
              have y1 : 57 < y := by omega
              have y2 : ¬ y < 48 := by omega
              have Q := Lib.hid (FB.out (dec_bad hp (by rw [hx]; omega)))
              have HX1 := Lib.hid hnx1
              clear hx hnn hnx1 hmu hk hnx hh hye
              go_wp2
              go_ret2
              rw [Q.out.1, Q.out.2]
              exact ⟨rfl, HX1.out⟩
          · have hnext : ∀ ty, (Instr.next (.pointer (some ⟨w.heap.size, 0, none⟩)) true ty).run Tryd.prog wr = _ := fun ty => Lib.run_next_end_at wr w.heap.size s pos ty hk hp
            obtain rfl : pos = s.size := by omega
            have Q := FG.out (dec_all HD.out HS0.out hz1.out)
            rw [List.take_of_length_le (by rw [NL.out]; exact Nat.le_refl _), ← Q.1]
            have HQ := Lib.hid Q.2
            have HX1 := Lib.hid hnx
            clear Q hmu hnx hk
            go_wp2
            go_ret2
            rw [HQ.out]
            exact ⟨rfl, HX1.out⟩
end Go.Proofs.YtokjmehecfjhmaaDoor.Pxr
