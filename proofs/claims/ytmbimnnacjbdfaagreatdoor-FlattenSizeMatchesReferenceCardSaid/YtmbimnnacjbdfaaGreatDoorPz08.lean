/-
  Layer 9: the program's parseNumber.
-/
import Derived.Test.YtmbimnnacjbdfaaGreatDoorPz07
import Derived.Test.YtmbimnnacjbdfaaGreatDoorPxrTk
import Derived.Lib.OthersKept
import Derived.Lib.BufferKept
import Derived.BigQuiet
import Derived.Test.YtmbimnnacjbdfaaGreatDoorPz06
import Derived.Laws.OwnMore
namespace Go.Proofs.YtmbimnnacjbdfaaGreatDoor.Pxr
open Go.RowKit

def pnV (zs : List Int) : Int := if decOk zs = true then min (decV zs : Int) 1099511627777 else 0

/-- as far as pos: digits, none ahead of others a zero -/
theorem dec_all {s : ByteArray} (h : ∀ k, k < s.size → 48 ≤ (numsOf s).getD k 0 ∧ (numsOf s).getD k 0 ≤ 57) (h0 : s.size ≠ 0) (hz : (numsOf s).getD 0 0 = 48 → s.size = 1) : decOk (numsOf s) = true := by
  rw [decOk_iff, numsOf_length]
  exact ⟨fun e => h0 (by rw [← numsOf_length, e]; rfl), h, hz⟩
theorem dec_bad {s : ByteArray} {k : Nat} (hk : k < s.size) (h : ¬ (48 ≤ (numsOf s).getD k 0 ∧ (numsOf s).getD k 0 ≤ 57)) : decOk (numsOf s) = false := by
  rw [Bool.eq_false_iff]
  intro e
  rw [decOk_iff, numsOf_length] at e
  exact h (e.2.1 k hk)

set_option maxRecDepth 100000 in
set_option maxHeartbeats 4000000 in
theorem pnum_any (s : ByteArray) (w : World) (hs : s.size ≤ maxLen) : Calls Tryz.prog 140 #[.string s] w fun e w' =>
    e = .returned (.tuple #[.int .i64 (pnV (numsOf s)), .bool (decOk (numsOf s))]) ∧ Below w.heap.size w w' := by
  unfold maxLen at hs
  obtain ⟨R, hR⟩ := named (pnV (numsOf s))
  obtain ⟨B, hB⟩ := named (decOk (numsOf s))
  rw [← hR.out, ← hB.out]
  have FB : Hid (decOk (numsOf s) = false → R = 0 ∧ B = false) := fun h => ⟨by rw [hR.out]; unfold pnV; rw [h]; rfl, by rw [hB.out, h]⟩
  have FG : Hid (decOk (numsOf s) = true → R = min (decV (numsOf s) : Int) 1099511627777 ∧ B = true) := fun h => ⟨by rw [hR.out]; unfold pnV; rw [if_pos h], by rw [hB.out, h]⟩
  have HA : Hid (∀ j (h : j < s.size), (numsOf s).getD j 0 = (s[j].toNat : Int)) := num_at s
  have NL := Lib.hid (numsOf_length s)
  clear hR hB
  by_cases he : s = { data := #[] }
  · obtain ⟨q1, q2⟩ := FB.out (by rw [he]; rfl)
    have hl : s.toList = [] := by rw [he, ByteArray.toList_eq]
    clear FG HA NL
    have Q := Lib.hid (And.intro q1 q2)
    have hi : s.toList.isEmpty = true := by rw [hl]; rfl
    clear q1 q2 he
    go_enter Tryz.func140, Tryz.ntmps140
    go_wp2
    go_ret2
    rw [Q.out.1, Q.out.2]
    exact ⟨rfl, Below.refl _ _⟩
  · have h0 : 0 < s.size := by
      rcases Nat.eq_zero_or_pos s.size with h | h
      · exact absurd (nums_inj (by rw [List.length_eq_zero_iff.1 ((NL.out).trans h)]; rfl)) he
      · exact h
    have hi := empty_no he
    have hx0 := HA.out 0 h0
    obtain ⟨x, hxe⟩ : ∃ x : Int, ((s[0].toNat : Nat) : Int) = x := ⟨_, rfl⟩
    rw [hxe] at hx0
    by_cases hz : x = 48 ∧ s ≠ { data := #[48] }
    · have hbad : decOk (numsOf s) = false := by
        rw [Bool.eq_false_iff]
        intro e
        rw [decOk_iff] at e
        have h1 := e.2.2 (by rw [hx0]; exact hz.1)
        apply hz.2
        apply nums_inj
        match hm : numsOf s, h1 with
        | [y], _ => rw [hm] at hx0; change y = x at hx0; rw [hx0, hz.1]; rfl
      have Q := Lib.hid (FB.out hbad)
      have m1 : (x == 48) = true := by rw [hz.1]; rfl
      have m2 : (s.toList == [48]) = false := by
        have := bytes_neq hz.2; rwa [show ({ data := #[48] } : ByteArray).toList = [48] by rw [ByteArray.toList_eq]] at this
      clear FG HA NL FB hx0 hz hbad he
      go_enter Tryz.func140, Tryz.ntmps140
      go_wp2
      go_ret2
      rw [Q.out.1, Q.out.2]
      exact ⟨rfl, Below.refl _ _⟩
    · have hz1 : Hid ((numsOf s).getD 0 0 = 48 → s.size = 1) := fun e => by
        have : s = { data := #[48] } := by
          by_cases c : s = { data := #[48] }
          · exact c
          · exact absurd ⟨by rw [← hx0]; exact e, c⟩ hz
        rw [this]; rfl
      have hk0 : (w.iter s 0).heap[w.heap.size]? = some (.stringIter s 0) := World.iter_heap w s 0
      have hb0 : Below w.heap.size w (w.iter s 0) := (Below.refl _ w).alloc (Nat.le_refl _) _
      have hS0 : s.size ≠ 0 := by omega
      have HS0 := Lib.hid hS0
      have tests : ((x == 48) = true ∧ (s.toList == [48]) = true) ∨ (x == 48) = false := by
        by_cases c : x = 48
        · refine .inl ⟨by rw [c]; rfl, ?_⟩
          have : s = { data := #[48] } := by
            by_cases c' : s = { data := #[48] }
            · exact c'
            · exact absurd ⟨c, c'⟩ hz
          rw [this, ByteArray.toList_eq]; rfl
        · exact .inr (by simpa using c)
      clear hx0 hz he hS0
      have HK := Lib.hid hk0; have HB := Lib.hid hb0
      clear hk0 hb0
      rcases tests with ⟨m1, m2⟩ | m1
      all_goals
        go_enter Tryz.func140, Tryz.ntmps140
        go_wp2
        go_loopw [4] (fun n wr => ∃ pos : Nat, pos ≤ s.size ∧ n = .int .i64 (min (decV ((numsOf s).take pos) : Int) 1099511627777) ∧ (∀ k, k < pos → 48 ≤ (numsOf s).getD k 0 ∧ (numsOf s).getD k 0 ≤ 57) ∧ wr.heap[w.heap.size]? = some (.stringIter s pos) ∧ Below w.heap.size w wr)
          (fun _ wr => s.size - wr.iterPos w.heap.size)
        case atStart => exact ⟨0, Nat.zero_le _, rfl, fun k hk => by omega, HK.out, HB.out⟩
        case round =>
          obtain ⟨pos, hps, rfl, hdg, hk, hnx⟩ := hrel
          have HD := Lib.hid hdg
          clear hdg
          have hmu : wr.iterPos w.heap.size = pos := by simp [World.iterPos, hk]
          by_cases hp : pos < s.size
          · have hx := HA.out pos hp
            obtain ⟨nn, hnn⟩ : ∃ n : Int, min (decV ((numsOf s).take pos) : Int) 1099511627777 = n := ⟨_, rfl⟩
            rw [hnn]
            have n0 : 0 ≤ nn := by omega
            have n1 : nn ≤ 1099511627777 := by omega
            by_cases ha : (s[pos]'hp).toNat < 128
            · have hnext : ∀ ty, (Instr.next (.pointer (some ⟨w.heap.size, 0, none⟩)) true ty).run Tryz.prog wr = _ := fun ty => Lib.run_next_ascii_at wr w.heap.size s pos ty hk hp ha
              have hk1 := Lib.iterAt_heap wr w.heap.size s pos (pos + 1) hk
              have hnx1 : Below w.heap.size w (wr.iterAt w.heap.size s (pos + 1)) := Lib.below_iterAt hnx (Nat.le_refl _) s (pos + 1)
              have hmu1 : (wr.iterAt w.heap.size s (pos + 1)).iterPos w.heap.size = pos + 1 := by simp [World.iterPos, hk1]
              generalize wr.iterAt w.heap.size s (pos + 1) = W1 at hnext hk1 hnx1 hmu1
              obtain ⟨y, hye⟩ : ∃ y : Int, ((s[pos].toNat : Nat) : Int) = y := ⟨_, rfl⟩
              rw [hye] at hx
              have y0 : 0 ≤ y := by omega
              have y1 : y < 128 := by omega
              have HX := Lib.hid hx; have HN := Lib.hid hnn; have HK1 := Lib.hid hk1; have HX1 := Lib.hid hnx1; have HM := Lib.hid hmu; have HM1 := Lib.hid hmu1
              clear hx hnn hk1 hnx1 hmu hmu1 hk hnx
              by_cases c1 : y < 48
              · have Q := Lib.hid (FB.out (dec_bad hp (by rw [HX.out]; omega)))
                go_wp2
                go_ret2
                rw [Q.out.1, Q.out.2]
                exact ⟨rfl, HX1.out⟩
              · by_cases c2 : 57 < y
                · have Q := Lib.hid (FB.out (dec_bad hp (by rw [HX.out]; omega)))
                  go_wp2
                  go_ret2
                  rw [Q.out.1, Q.out.2]
                  exact ⟨rfl, HX1.out⟩
                · go_wp2_with (first | (refine wpList_min2 ..))
                  go_roundw
                  case rel =>
                    refine ⟨pos + 1, hp, ?_, fun k hk => ?_, HK1.out, HX1.out⟩
                    · have e1 := decV_take_succ (numsOf s) pos (by rw [NL.out]; exact hp)
                      rw [HX.out] at e1
                      have e2 := HN.out
                      congr 1
                      omega
                    · by_cases e : k = pos
                      · rw [e, HX.out]; omega
                      · exact HD.out k (by omega)
                  case measure => rw [HM.out, HM1.out]; omega
            · have hh := decode_high s pos hp (by omega)
              have hnext : ∀ ty, (Instr.next (.pointer (some ⟨w.heap.size, 0, none⟩)) true ty).run Tryz.prog wr = _ := fun ty => Lib.run_next_any_at wr w.heap.size s pos ty hk hp
              have hnx1 : Below w.heap.size w (wr.iterAt w.heap.size s (pos + (Utf8.decode s pos).2)) := Lib.below_iterAt hnx (Nat.le_refl _) s _
              generalize wr.iterAt w.heap.size s (pos + (Utf8.decode s pos).2) = W1 at hnext hnx1
              obtain ⟨y, hye⟩ : ∃ y : Int, (((Utf8.decode s pos).1 : Nat) : Int) = y := ⟨_, rfl⟩
              rw [hye] at hnext
              have y1 : 57 < y := by omega
              have y2 : ¬ y < 48 := by omega
              have Q := Lib.hid (FB.out (dec_bad hp (by rw [hx]; omega)))
              have HX1 := Lib.hid hnx1
              clear hx hnn hnx1 hmu hk hnx hh hye
              go_wp2
              go_ret2
              rw [Q.out.1, Q.out.2]
              exact ⟨rfl, HX1.out⟩
          · have hnext : ∀ ty, (Instr.next (.pointer (some ⟨w.heap.size, 0, none⟩)) true ty).run Tryz.prog wr = _ := fun ty => Lib.run_next_end_at wr w.heap.size s pos ty hk hp
            obtain rfl : pos = s.size := by omega
            have Q := FG.out (dec_all HD.out HS0.out hz1.out)
            rw [List.take_of_length_le (by rw [NL.out]; exact Nat.le_refl _), ← Q.1]
            have HQ := Lib.hid Q.2
            have HX1 := Lib.hid hnx
            clear Q hmu hnx hk
            go_wp2
            go_ret2
            rw [HQ.out]
            exact ⟨rfl, HX1.out⟩
end Go.Proofs.YtmbimnnacjbdfaaGreatDoor.Pxr
/-
  Layer 9: the program's permitted, checkText, checkNumber, Check.
-/
namespace Go.Proofs.YtmbimnnacjbdfaaGreatDoor.Pxr
open Go.RowKit

theorem tLink : kLink.toList = [108, 105, 110, 107, 112, 97, 116, 104] := by rw [ByteArray.toList_eq]
theorem tPath : kPath.toList = [112, 97, 116, 104] := by rw [ByteArray.toList_eq]
theorem tSize : kSize.toList = [115, 105, 122, 101] := by rw [ByteArray.toList_eq]
theorem eqT {a b : ByteArray} (h : a = b) : (a.toList == b.toList) = true := by rw [h]; exact beq_self_eq_true _
theorem eqF {a b : ByteArray} (h : ¬ a = b) : (a.toList == b.toList) = false := bytes_neq h
/-- the tests on a key -/
theorem key_tests (k : ByteArray) (b0 b1 b2 : Bool) (h0 : decide (k = kLink) = b0) (h1 : decide (k = kPath) = b1) (h2 : decide (k = kSize) = b2) :
    (k.toList == [108, 105, 110, 107, 112, 97, 116, 104]) = b0 ∧ (k.toList == [112, 97, 116, 104]) = b1 ∧ (k.toList == [115, 105, 122, 101]) = b2 := by
  rw [← tLink, ← tPath, ← tSize, ← h0, ← h1, ← h2]
  refine ⟨?_, ?_, ?_⟩
  · by_cases h : k = kLink
    · rw [decide_eq_true h]; exact eqT h
    · rw [decide_eq_false h]; exact eqF h
  · by_cases h : k = kPath
    · rw [decide_eq_true h]; exact eqT h
    · rw [decide_eq_false h]; exact eqF h
  · by_cases h : k = kSize
    · rw [decide_eq_true h]; exact eqT h
    · rw [decide_eq_false h]; exact eqF h

theorem idx_keys (w : World) (xs : Array Value) (i : Nat) (hi : i < 3) (s : ByteArray) (hx : xs[i]? = some (.string s)) : (Instr.index 164 (.agg xs) (.int .i64 (i : Int))).run Tryz.prog w = .ok (.string s) w := by
  have he : (Tryz.prog.info? 9).map (·.size) = some 1 := by kernel_rfl
  cases hq : Tryz.prog.info? 9 with
  | none => simp [hq] at he
  | some j =>
    have hs : j.size = 1 := by simpa [hq] using he
    simp [Instr.index, asIntOf, run_underlying Tryz.underlying164, hi, sizeOf, typeInfo, hq, hs, part, hx]

/-- where the loop over the keys stands -/
def PermRel (b0 b1 b2 : Bool) (i : Value) : Prop := i = .int .i64 0 ∨ (i = .int .i64 1 ∧ b0 = false) ∨ (i = .int .i64 2 ∧ b0 = false ∧ b1 = false) ∨ (i = .int .i64 3 ∧ b0 = false ∧ b1 = false ∧ b2 = false)

set_option maxRecDepth 100000 in
set_option maxHeartbeats 1000000 in
theorem perm_any (k : ByteArray) (w : World) (V : Vars w) (B : Bool) (hB : B = (decide (k = kLink) || decide (k = kPath) || decide (k = kSize))) : Calls Tryz.prog 123 #[.string k] w fun e w' => e = .returned (.bool B) ∧ w = w' := by
  have c0 := V.k0; have c1 := V.k1; have c2 := V.k2
  obtain ⟨b0, h0⟩ : ∃ b, decide (k = kLink) = b := ⟨_, rfl⟩
  obtain ⟨b1, h1⟩ : ∃ b, decide (k = kPath) = b := ⟨_, rfl⟩
  obtain ⟨b2, h2⟩ : ∃ b, decide (k = kSize) = b := ⟨_, rfl⟩
  obtain ⟨t0, t1, t2⟩ := key_tests k b0 b1 b2 h0 h1 h2
  rw [h0, h1, h2] at hB
  have HB := Lib.hid hB
  have T0 := Lib.hid t0; have T1 := Lib.hid t1; have T2 := Lib.hid t2
  clear V h0 h1 h2 hB t0 t1 t2
  go_enter Tryz.func123, Tryz.ntmps123
  go_wp2_with fail
  clear c0 c1 c2
  go_loop [6] (fun i => PermRel b0 b1 b2 i) (fun i => 3 - (intOf i).toNat)
  case atStart => exact .inl rfl
  case round =>
    rcases hrel with rfl | ⟨rfl, x0⟩ | ⟨rfl, x0, x1⟩ | ⟨rfl, x0, x1, x2⟩
    · have t := T0.out
      have hix := idx_keys w #[.string kLink, .string kPath, .string kSize] 0 (by decide) _ rfl
      change (Instr.index 164 _ (.int .i64 0)).run Tryz.prog w = _ at hix
      cases b0 with
      | true =>
        go_wp2
        go_ret
        exact ⟨by rw [HB.out]; rfl, rfl⟩
      | false =>
        go_wp2
        go_round
        case rel => exact .inr (.inl ⟨rfl, rfl⟩)
        case measure => simp [intOf]
    · have t := T1.out
      have hix := idx_keys w #[.string kLink, .string kPath, .string kSize] 1 (by decide) _ rfl
      change (Instr.index 164 _ (.int .i64 1)).run Tryz.prog w = _ at hix
      have X0 := Lib.hid x0
      clear x0
      cases b1 with
      | true =>
        go_wp2
        go_ret
        exact ⟨by rw [HB.out, X0.out]; rfl, rfl⟩
      | false =>
        go_wp2
        go_round
        case rel => exact .inr (.inr (.inl ⟨rfl, X0.out, rfl⟩))
        case measure => simp [intOf]
    · have t := T2.out
      have hix := idx_keys w #[.string kLink, .string kPath, .string kSize] 2 (by decide) _ rfl
      change (Instr.index 164 _ (.int .i64 2)).run Tryz.prog w = _ at hix
      have X0 := Lib.hid x0; have X1 := Lib.hid x1
      clear x0 x1
      cases b2 with
      | true =>
        go_wp2
        go_ret
        exact ⟨by rw [HB.out, X0.out, X1.out]; rfl, rfl⟩
      | false =>
        go_wp2
        go_round
        case rel => exact .inr (.inr (.inr ⟨rfl, X0.out, X1.out, rfl⟩))
        case measure => simp [intOf]
    · have X0 := Lib.hid x0; have X1 := Lib.hid x1; have X2 := Lib.hid x2
      clear x0 x1 x2
      go_wp2
      go_ret
      exact ⟨by rw [HB.out, X0.out, X1.out, X2.out]; rfl, rfl⟩

set_option maxHeartbeats 1000000 in
theorem ctext_any (v : ByteArray) (w : World) (hv : v.size ≤ maxLen) : Calls Tryz.prog 125 #[.string v] w fun e w' => e = .returned (.int .i64 (chkT v)) ∧ w = w' := by
  unfold maxLen at hv
  obtain ⟨R, hR⟩ := named (chkT v)
  rw [← hR.out]
  by_cases h1 : 65536 < v.size
  · have e := Lib.hid (show R = 7 by rw [hR.out]; unfold chkT; rw [if_pos h1])
    have m1 : (65536 : Int) < v.size := by omega
    clear h1 hR
    go_enter Tryz.func125, Tryz.ntmps125
    go_wp2
    go_ret
    exact ⟨by rw [e.out]; rfl, rfl⟩
  · have m1 : ¬ (65536 : Int) < v.size := by omega
    obtain ⟨k, hk⟩ := named (Lib.indexByte v.data.toList 0)
    have hk0 := idx_str v
    rw [← hk.out] at hk0
    by_cases h2 : v = { data := #[] }
    · have e := Lib.hid (show R = 6 by rw [hR.out]; unfold chkT; rw [if_neg h1, if_pos (.inl (by rw [h2]; rfl))])
      have hi : v.toList.isEmpty = true := by rw [h2, ByteArray.toList_eq]; rfl
      have hi2 : v.toList = [] := by rw [h2, ByteArray.toList_eq]
      clear h1 hR h2 hk0 hi2
      go_enter Tryz.func125, Tryz.ntmps125
      go_wp2
      go_ret
      exact ⟨by rw [e.out]; rfl, rfl⟩
    · have hi := empty_no h2
      have hs0 : v.size ≠ 0 := fun e => h2 (nums_inj (by rw [List.length_eq_zero_iff.1 ((numsOf_length v).trans e)]; rfl))
      by_cases h3 : (0 : Int) ∈ numsOf v
      · have e := Lib.hid (show R = 6 by rw [hR.out]; unfold chkT; rw [if_neg h1, if_pos (.inr h3)])
        have m2 : 0 ≤ k := hk0.2 h3
        clear h1 hR h2 hk0 h3 hs0
        go_enter Tryz.func125, Tryz.ntmps125
        go_wp2_with fail
        refine (Tryz.strings_IndexByte v 0 w).mono ?_; rintro e w1 ⟨rfl, rfl⟩
        rw [show (0 : Int).toNat.toUInt8 = 0 from rfl, ← hk.out]
        go_wp2
        go_ret
        exact ⟨by rw [e.out]; rfl, rfl⟩
      · have e := Lib.hid (show R = 0 by rw [hR.out]; unfold chkT; rw [if_neg h1, if_neg (fun h => h.elim hs0 h3)])
        have m2 : ¬ 0 ≤ k := fun h => h3 (hk0.1 h)
        clear h1 hR h2 hk0 h3 hs0
        go_enter Tryz.func125, Tryz.ntmps125
        go_wp2_with fail
        refine (Tryz.strings_IndexByte v 0 w).mono ?_; rintro e w1 ⟨rfl, rfl⟩
        rw [show (0 : Int).toNat.toUInt8 = 0 from rfl, ← hk.out]
        go_wp2
        go_ret
        exact ⟨by rw [e.out]; rfl, rfl⟩

set_option maxHeartbeats 1000000 in
theorem cnum_any (v : ByteArray) (w : World) (hv : v.size ≤ maxLen) : Calls Tryz.prog 124 #[.string v] w fun e w' => e = .returned (.int .i64 (chkS v)) ∧ Below w.heap.size w w' := by
  obtain ⟨R, hR⟩ := named (chkS v)
  rw [← hR.out]
  have P := pnum_any v w hv
  obtain ⟨n, hn⟩ := named (pnV (numsOf v))
  obtain ⟨B, hB⟩ := named (decOk (numsOf v))
  rw [← hn.out, ← hB.out] at P
  have HP := Lib.hid P
  clear P
  by_cases h1 : decOk (numsOf v) = false
  · have e := Lib.hid (show R = 6 by rw [hR.out]; unfold chkS; rw [if_pos h1])
    have b := hB.out.trans h1
    subst b
    clear hB hR hn h1
    go_enter Tryz.func124, Tryz.ntmps124
    go_wp2_with fail
    refine HP.out.mono ?_; rintro e w1 ⟨rfl, b1⟩
    go_wp2
    go_ret
    exact ⟨by rw [e.out]; rfl, b1⟩
  · have h1' : decOk (numsOf v) = true := by simpa using h1
    have b := hB.out.trans h1'
    have en := hn.out
    unfold pnV at en
    rw [if_pos h1'] at en
    by_cases h2 : 1099511627776 < decV (numsOf v)
    · have e := Lib.hid (show R = 3 by rw [hR.out]; unfold chkS; rw [if_neg h1, if_pos h2])
      have m : (1099511627776 : Int) < n := by omega
      subst b
      clear hB hR hn h1 h1' en h2
      go_enter Tryz.func124, Tryz.ntmps124
      go_wp2_with fail
      refine HP.out.mono ?_; rintro e w1 ⟨rfl, b1⟩
      go_wp2
      go_ret
      exact ⟨by rw [e.out]; rfl, b1⟩
    · have e := Lib.hid (show R = 0 by rw [hR.out]; unfold chkS; rw [if_neg h1, if_neg h2])
      have m : ¬ (1099511627776 : Int) < n := by omega
      subst b
      clear hB hR hn h1 h1' en h2
      go_enter Tryz.func124, Tryz.ntmps124
      go_wp2_with fail
      refine HP.out.mono ?_; rintro e w1 ⟨rfl, b1⟩
      go_wp2
      go_ret
      exact ⟨by rw [e.out]; rfl, b1⟩

/-- a record as a value -/
abbrev rv (r : Rec) : Value := .agg #[.string r.1, .string r.2]

set_option maxHeartbeats 1000000 in
theorem check_any (k v : ByteArray) (w : World) (V : Vars w) (hv : v.size ≤ maxLen) : Calls Tryz.prog 105 #[.agg #[.string k, .string v]] w fun e w' => e = .returned (.int .i64 (chk (k, v))) ∧ Below w.heap.size w w' := by
  obtain ⟨R, hR⟩ := named (chk (k, v))
  rw [← hR.out]
  have HP := Lib.hid fun (B : Bool) hB (w' : World) (hb : Below w.heap.size w w') => perm_any k w' (V.go hb) B hB
  have HT := Lib.hid fun (w' : World) => ctext_any v w' hv
  have HS := Lib.hid fun (w' : World) => cnum_any v w' hv
  have b0 : Hid (Below w.heap.size w (w.alloc (.cells #[.string k, .string v] 84))) := (Below.refl _ w).alloc (Nat.le_refl _) _
  have hd := hR.out
  unfold chk at hd
  dsimp only at hd
  by_cases h1 : k = kLink ∨ k = kPath
  · rw [if_pos h1] at hd
    have h3 : k ≠ kSize := by rcases h1 with rfl | rfl <;> decide
    have t3 := (key_tests k _ _ _ rfl rfl rfl).2.2
    rw [decide_eq_false h3] at t3
    have hp : (true : Bool) = (decide (k = kLink) || decide (k = kPath) || decide (k = kSize)) := by
      rcases h1 with rfl | rfl <;> decide
    have HPP := Lib.hid fun w' hb => HP.out true hp w' hb
    have HD := Lib.hid hd
    clear hR hd h1 h3 hp HP
    go_enter Tryz.func105, Tryz.ntmps105
    go_wp2_with fail
    refine (HPP.out _ b0.out).mono ?_; rintro e w1 ⟨rfl, rfl⟩
    go_wp2_with fail
    refine (HT.out _).mono ?_; rintro e w1 ⟨rfl, rfl⟩
    go_wp2
    go_ret
    exact ⟨by rw [HD.out]; rfl, b0.out⟩
  · rw [if_neg h1] at hd
    by_cases h2 : k = kSize
    · rw [if_pos h2] at hd
      have t3 := (key_tests k _ _ _ rfl rfl rfl).2.2
      rw [decide_eq_true h2] at t3
      have hp : (true : Bool) = (decide (k = kLink) || decide (k = kPath) || decide (k = kSize)) := by
        rw [h2]; decide
      have HPP := Lib.hid fun w' hb => HP.out true hp w' hb
      have HD := Lib.hid hd
      clear hR hd h1 h2 hp HP
      go_enter Tryz.func105, Tryz.ntmps105
      go_wp2_with fail
      refine (HPP.out _ b0.out).mono ?_; rintro e w1 ⟨rfl, rfl⟩
      go_wp2_with fail
      refine (HS.out _).mono ?_; rintro e w1 ⟨rfl, b1⟩
      have B1 := Lib.hid b1
      clear b1
      go_wp2
      go_ret
      exact ⟨by rw [HD.out]; rfl, b0.out.trans (B1.out.mono (by simp))⟩
    · rw [if_neg h2] at hd
      have hp : (false : Bool) = (decide (k = kLink) || decide (k = kPath) || decide (k = kSize)) := by
        rw [decide_eq_false (fun h => h1 (.inl h)), decide_eq_false (fun h => h1 (.inr h)), decide_eq_false h2]; rfl
      have HPP := Lib.hid fun w' hb => HP.out false hp w' hb
      have HD := Lib.hid hd
      clear hR hd h1 h2 hp HP
      go_enter Tryz.func105, Tryz.ntmps105
      go_wp2_with fail
      refine (HPP.out _ b0.out).mono ?_; rintro e w1 ⟨rfl, rfl⟩
      go_wp2
      go_ret
      exact ⟨by rw [HD.out]; rfl, b0.out⟩
end Go.Proofs.YtmbimnnacjbdfaaGreatDoor.Pxr
/-
  Layer 9: the program's Size; a slice of records; checkNext.
-/
namespace Go.Proofs.YtmbimnnacjbdfaaGreatDoor.Pxr
open Go.RowKit

set_option maxRecDepth 100000 in
set_option maxHeartbeats 1000000 in
theorem size_any (k v : ByteArray) (w : World) (V : Vars w) (h : oth (k, v) ≤ 1000000) : Calls Tryz.prog 91 #[.agg #[.string k, .string v]] w fun e w' => e = .returned (.int .i64 (szR (k, v) : Nat)) ∧ Below w.heap.size w w' := by
  obtain ⟨R, hR⟩ := named ((szR (k, v) : Nat) : Int)
  rw [← hR.out]
  obtain ⟨O, hO⟩ := named (oth (k, v))
  rw [← hO.out] at h
  have hO' := hO.out
  unfold oth at hO'
  dsimp only at hO'
  have b1 : (k.size : Int) ≤ 1000000 := by omega
  have b2 : (v.size : Int) ≤ 1000000 := by omega
  have S := szD_spec h
  have HRR : Hid (R = ((szD O + O : Nat) : Int)) := by show _ = _; rw [hR.out]; unfold szR szN; rw [← hO.out]
  have HO : Hid (3 + (k.size : Int) + (v.size : Int) = (O : Int)) := by show _ = _; omega
  have b0 : Hid (Below w.heap.size w (w.alloc (.cells #[.string k, .string v] 84))) := (Below.refl _ w).alloc (Nat.le_refl _) _
  have HS := Lib.hid S; have HV := Lib.hid V; have HL := Lib.hid h
  have h8 : Hid (Lib.nDigits (8 + O) ≤ 8) := nDigits_le 7 _ (by
    have : (10 : Nat) ^ (7 + 1) = 100000000 := by decide
    omega)
  clear hR hO hO' h S V
  go_enter Tryz.func91, Tryz.ntmps91
  go_wp2
  go_loopw [4] (fun d wr => ∃ D f : Nat, d = .int .i64 D ∧ 1 ≤ D ∧ D + f = 8 ∧ szF f D O = szD O ∧ Below w.heap.size w wr) (fun d _ => 9 - (intOf d).toNat)
  case atStart => exact ⟨1, 7, rfl, Nat.le_refl _, rfl, rfl, b0.out⟩
  case round =>
    obtain ⟨D, f, rfl, hD1, hDf, hz, hb⟩ := hrel
    have HZ := Lib.hid hz; have HB := Lib.hid hb
    have d0 : (0 : Int) ≤ D := by omega
    have d1 : (D : Int) ≤ 8 := by omega
    have I := itoa_any (D + O) (by have := HL.out; omega) wr (HV.out.go hb)
    have ei : ((D + O : Nat) : Int) = (D : Int) + (3 + (k.size : Int) + (v.size : Int)) := by rw [HO.out]; omega
    rw [ei] at I
    obtain ⟨T, hT⟩ := named (strOfNums (decD (D + O)))
    rw [← hT.out] at I
    have HI := Lib.hid I
    have hts : T.size = Lib.nDigits (D + O) := by rw [hT.out, strD_size]
    have HT := Lib.hid hts
    clear hz hb I ei hT
    by_cases ht : D < T.size
    · have m1 : (D : Int) < T.size := by omega
      have d2 : (D : Int) + 1 ≤ 9 := by omega
      have hf : f ≠ 0 := fun e => by
        have := h8.out
        rw [HT.out] at ht
        rw [show D = 8 by omega] at ht
        omega
      obtain ⟨g, rfl⟩ : ∃ g, f = g + 1 := ⟨f - 1, by omega⟩
      have HG : Hid (szF g (D + 1) O = szD O) := by
        show _ = _
        rw [← HZ.out, szF_go (by rw [← HT.out]; omega)]
      clear ht hts hf
      go_wp2_with fail
      refine HI.out.mono ?_; rintro e w1 ⟨rfl, b3⟩
      have B3 := Lib.hid b3
      clear b3
      go_wp2
      go_roundw
      case rel => exact ⟨D + 1, g, by go_num, by omega, by omega, HG.out, HB.out.trans (B3.out.mono HB.out.size)⟩
      case measure => simp [intOf]; omega
    · have m1 : ¬ (D : Int) < T.size := by omega
      have HE : Hid (R = (D : Int) + (3 + (k.size : Int) + (v.size : Int))) := by
        show _ = _
        rw [HRR.out, ← HZ.out, szF_stop (by rw [← HT.out]; omega), HO.out]; omega
      clear ht hts
      go_wp2_with fail
      refine HI.out.mono ?_; rintro e w1 ⟨rfl, b3⟩
      have B3 := Lib.hid b3
      clear b3
      go_wp2
      go_ret
      exact ⟨by rw [HE.out]; rfl, HB.out.trans (B3.out.mono HB.out.size)⟩

/-- the records lie at block b from off on -/
def RecsAt (w : World) (b off : Nat) (rs : List Rec) : Prop :=
  ∀ i r, rs[i]? = some r → w.cell? ⟨b, off + i * 2, none⟩ = some (.string r.1) ∧ w.cell? ⟨b, off + i * 2 + 1, none⟩ = some (.string r.2)
/-- the records are what the slice at a holds (a slice of none may lie anywhere) -/
def RecsIn (w : World) (a : Option Addr) (rs : List Rec) : Prop := rs = [] ∨ ∃ b off, a = some ⟨b, off, none⟩ ∧ b < w.heap.size ∧ RecsAt w b off rs
theorem RecsAt.below {w w' : World} {B b off : Nat} {rs : List Rec} (h : RecsAt w b off rs) (hb : Below B w w') (hB : b < B) : RecsAt w' b off rs := fun i r hi =>
  ⟨(hb.cell (p := ⟨b, off + i * 2, none⟩) hB).trans (h i r hi).1, (hb.cell (p := ⟨b, off + i * 2 + 1, none⟩) hB).trans (h i r hi).2⟩
theorem RecsIn.below {w w' : World} {a : Option Addr} {rs : List Rec} (h : RecsIn w a rs) (hb : Below w.heap.size w w') : RecsIn w' a rs := by
  rcases h with h | ⟨b, off, h1, h2, h3⟩
  · exact .inl h
  · exact .inr ⟨b, off, h1, Nat.lt_of_lt_of_le h2 hb.size, h3.below hb h2⟩
theorem RecsIn.get {w : World} {a : Option Addr} {rs : List Rec} (h : RecsIn w a rs) (i : Nat) (r : Rec) (hi : rs[i]? = some r) :
    ∃ b off, a = some ⟨b, off, none⟩ ∧ b < w.heap.size ∧ w.cell? ⟨b, off + i * 2, none⟩ = some (.string r.1) ∧ w.cell? ⟨b, off + i * 2 + 1, none⟩ = some (.string r.2) := by
  rcases h with h | ⟨b, off, h1, h2, h3⟩
  · rw [h] at hi; simp at hi
  · exact ⟨b, off, h1, h2, h3 i r hi⟩
theorem RecsIn.take {w : World} {a : Option Addr} {rs : List Rec} (h : RecsIn w a rs) (k : Nat) : RecsIn w a (rs.take k) := by
  rcases h with h | ⟨b, off, h1, h2, h3⟩
  · rw [h]; exact .inl (List.take_nil)
  · refine .inr ⟨b, off, h1, h2, fun i r hi => h3 i r ?_⟩
    rw [List.getElem?_take] at hi
    split at hi
    · exact hi
    · cases hi

theorem prev_none {k : ByteArray} : prevLe [] k = false := rfl
theorem prev_at {rs : List Rec} {q : Rec} {n : Nat} (hn : rs.length = n + 1) (h : rs[n]? = some q) (k : ByteArray) : prevLe rs k = keyLe k q.1 := by
  unfold prevLe
  rw [List.getLast?_eq_getElem?, hn, Nat.add_sub_cancel, h]

set_option maxHeartbeats 1000000 in
theorem next_any (a : Option Addr) (n cap : Nat) (rs : List Rec) (k v : ByteArray) (w : World) (V : Vars w) (hv : v.size ≤ maxLen) (hn : rs.length = n) (hc : n ≤ cap) (hm : cap ≤ maxLen) (hR : RecsIn w a rs) :
    Calls Tryz.prog 89 #[.slice a n cap, .agg #[.string k, .string v]] w fun e w' => e = .returned (.int .i64 (chkN rs (k, v))) ∧ Below w.heap.size w w' := by
  unfold maxLen at hm
  obtain ⟨R, hRR⟩ := named (chkN rs (k, v))
  rw [← hRR.out]
  have b0 : Hid (Below w.heap.size w (w.alloc (.cells #[.string k, .string v] 84))) := (Below.refl _ w).alloc (Nat.le_refl _) _
  have hC := Lib.hid fun (w' : World) (hb : Below w.heap.size w w') => check_any k v w' (V.go hb) hv
  obtain ⟨c, hcE⟩ := named (chk (k, v))
  rw [← hcE.out] at hC
  by_cases h0 : c = 0
  · by_cases hn0 : n = 0
    · have e := Lib.hid (show R = 0 by rw [hRR.out]; unfold chkN; rw [if_neg (by rw [← hcE.out, h0]; simp), List.length_eq_zero_iff.1 (hn.trans hn0), prev_none]; rfl)
      have hd : decide ((0 : Int) < (n : Int)) = false := by rw [hn0]; decide
      have hd2 : decide (0 < n) = false := by rw [hn0]; decide
      subst h0
      clear hRR hcE hn hR V hn0 hm hc
      go_enter Tryz.func89, Tryz.ntmps89
      go_wp2_with fail
      refine (hC.out _ b0.out).mono ?_; rintro e w1 ⟨rfl, b1⟩
      have B1 := Lib.hid b1
      clear b1
      have c0 : w1.cell? ⟨w.heap.size, 0, none⟩ = some (.string k) := (B1.out.cell (p := ⟨w.heap.size, 0, none⟩) (by simp)).trans (by rw [World.cell?_alloc_at _ _ _ _ rfl]; rfl)
      go_wp2_with fail
      go_quiet (fail)
      go_wp2
      go_ret
      exact ⟨by rw [e.out]; rfl, (b0.out.trans (B1.out.mono (by simp))).trans (drewN_below _ _ _)⟩
    · obtain ⟨m, hnm⟩ : ∃ m, n = m + 1 := ⟨n - 1, by omega⟩
      obtain ⟨q, hq⟩ : ∃ q, rs[m]? = some q := ⟨rs[m], List.getElem?_eq_getElem (by omega)⟩
      obtain ⟨b, off, rfl, hlt, q0, _⟩ := hR.get m q hq
      have q0' : Hid (∀ w', Below w.heap.size w w' → w'.cell? ⟨b, off + m * 2, none⟩ = some (.string q.1)) := fun w' hb => (hb.cell (p := ⟨b, off + m * 2, none⟩) hlt).trans q0
      have hle := prev_at (hn.trans hnm) hq k
      have hd : decide ((0 : Int) < (n : Int)) = true := decide_eq_true (by omega)
      have hd2 : decide (0 < n) = true := decide_eq_true (by omega)
      have m1 : IntKind.i64.wrap ((n : Int) - 1) = (m : Int) := by rw [show (n : Int) - 1 = m by omega]; exact wrapP (by omega) (by omega)
      have m2 : (m : Int) < n := by omega
      cases hK : keyLe k q.1 with
      | true =>
        have e := Lib.hid (show R = 12 by rw [hRR.out]; unfold chkN; rw [if_neg (by rw [← hcE.out, h0]; simp), hle, hK]; rfl)
        have hK' : (Op.bytesLess k.toList q.1.toList || k.toList == q.1.toList) = true := hK
        subst h0
        clear hRR hcE hn hR V q0 hq hle hK hn0 hnm
        go_enter Tryz.func89, Tryz.ntmps89
        go_wp2_with fail
        refine (hC.out _ b0.out).mono ?_; rintro e w1 ⟨rfl, b1⟩
        have B1 := Lib.hid b1
        have c0 : w1.cell? ⟨w.heap.size, 0, none⟩ = some (.string k) := (B1.out.cell (p := ⟨w.heap.size, 0, none⟩) (by simp)).trans (by rw [World.cell?_alloc_at _ _ _ _ rfl]; rfl)
        have c1 := q0'.out w1 (b0.out.trans (b1.mono (by simp)))
        clear b1
        go_wp2_with fail
        go_quiet (fail)
        go_wp2
        go_ret
        exact ⟨by rw [e.out]; rfl, (b0.out.trans (B1.out.mono (by simp))).trans (drewN_below _ _ _)⟩
      | false =>
        have e := Lib.hid (show R = 0 by rw [hRR.out]; unfold chkN; rw [if_neg (by rw [← hcE.out, h0]; simp), hle, hK]; rfl)
        have hK' : (Op.bytesLess k.toList q.1.toList || k.toList == q.1.toList) = false := hK
        subst h0
        clear hRR hcE hn hR V q0 hq hle hK hn0 hnm
        go_enter Tryz.func89, Tryz.ntmps89
        go_wp2_with fail
        refine (hC.out _ b0.out).mono ?_; rintro e w1 ⟨rfl, b1⟩
        have B1 := Lib.hid b1
        have c0 : w1.cell? ⟨w.heap.size, 0, none⟩ = some (.string k) := (B1.out.cell (p := ⟨w.heap.size, 0, none⟩) (by simp)).trans (by rw [World.cell?_alloc_at _ _ _ _ rfl]; rfl)
        have c1 := q0'.out w1 (b0.out.trans (b1.mono (by simp)))
        clear b1
        go_wp2_with fail
        go_quiet (fail)
        go_wp2
        go_ret
        exact ⟨by rw [e.out]; rfl, (b0.out.trans (B1.out.mono (by simp))).trans (drewN_below _ _ _)⟩
  · have e := Lib.hid (show R = c by rw [hRR.out]; unfold chkN; rw [if_pos (by rw [← hcE.out]; exact h0), hcE.out])
    have m1 : (c != 0) = true := by simpa using h0
    clear hRR hcE hn hR V h0
    go_enter Tryz.func89, Tryz.ntmps89
    go_wp2_with fail
    refine (hC.out _ b0.out).mono ?_; rintro e w1 ⟨rfl, b1⟩
    have B1 := Lib.hid b1
    clear b1
    go_wp2
    go_ret
    exact ⟨by rw [e.out]; rfl, b0.out.trans (B1.out.mono (by simp))⟩
end Go.Proofs.YtmbimnnacjbdfaaGreatDoor.Pxr
/-
  Layer 9: a record as a variable.
-/
namespace Go.Proofs.YtmbimnnacjbdfaaGreatDoor.Pxr
open Go.RowKit

def rz : List Value := [.string { data := #[] }, .string { data := #[] }]
theorem recZ : (Tryz.prog.info? 84).map (·.zero) = some (some (.agg rz.toArray)) := by kernel_rfl
theorem recO : ObjT Tryz.prog 84 2 := ⟨⟨_, Tryz.underlying84⟩, by kernel_rfl⟩
theorem rz_one : ∀ v ∈ rz, v.oneCell' = true := by simp [rz, Value.oneCell']
theorem rec_one (k v : ByteArray) : ∀ x ∈ [Value.string k, Value.string v], x.oneCell' = true := by simp [Value.oneCell']
theorem get_some {rs : List Rec} {j : Nat} (h : j < rs.length) : ∃ r, rs[j]? = some r := ⟨rs[j], List.getElem?_eq_getElem h⟩
theorem recI : ∃ i0, Hid (Tryz.prog.info? 84 = some i0 ∧ i0.zero = some (.agg rz.toArray) ∧ i0.size = 2 ∧ i0.bytes = 32 ∧ (Value.agg rz.toArray).cells.size = 2) := by
  have h : (Tryz.prog.info? 84).map (fun i => (i.zero, i.size, i.bytes)) = some (some (.agg rz.toArray), 2, 32) := by kernel_rfl
  cases hq : Tryz.prog.info? 84 with
  | none => simp [hq] at h
  | some i => simp [hq] at h; exact ⟨i, rfl, h.1, h.2.1, h.2.2, rfl⟩
theorem recJ : (Tryz.prog.info? 84).map (fun i => (i.zero, i.size)) = some (some (.agg rz.toArray), 2) := by kernel_rfl
end Go.Proofs.YtmbimnnacjbdfaaGreatDoor.Pxr
/-
  Layer 9: slices of records of the call's own. Nothing of the program.
-/
namespace Go.Proofs.YtmbimnnacjbdfaaGreatDoor.Pxr
open Go.RowKit

/-- the cells of records -/
def recCells (rs : List Rec) : List Value := rs.flatMap fun r => [Value.string r.1, Value.string r.2]
theorem recCells_len : ∀ rs : List Rec, (recCells rs).length = rs.length * 2
  | [] => rfl
  | r :: rs => by
    have := recCells_len rs
    unfold recCells at this ⊢
    rw [List.flatMap_cons, List.length_append, this, List.length_cons]; simp; omega
theorem recCells_snoc (rs : List Rec) (r : Rec) : recCells (rs ++ [r]) = recCells rs ++ [Value.string r.1, Value.string r.2] := by unfold recCells; simp
theorem recCells_at : ∀ (rs : List Rec) (i : Nat) (r : Rec), rs[i]? = some r → (recCells rs)[i * 2]? = some (.string r.1) ∧ (recCells rs)[i * 2 + 1]? = some (.string r.2)
  | [], i, r, h => by simp at h
  | q :: rs, i, r, h => by
    have e : recCells (q :: rs) = Value.string q.1 :: Value.string q.2 :: recCells rs := by unfold recCells; rw [List.flatMap_cons]; rfl
    rw [e]
    cases i with
    | zero => simp at h; subst h; exact ⟨rfl, rfl⟩
    | succ i =>
      have := recCells_at rs i r (by simpa using h)
      rw [show (i + 1) * 2 = i * 2 + 1 + 1 by omega]
      simpa using this

theorem RecsIn.of_own {w : World} {base n : Nat} {e : TypeId} {v : Value} {rs : List Rec} (h : w.ownsRow base e 2 v n (recCells rs)) :
    ∃ a c, v = .slice a n c ∧ n = rs.length ∧ n ≤ c ∧ c ≤ maxLen ∧ RecsIn w a rs ∧ (∀ x, a = some x → base ≤ x.block ∧ x.block < w.heap.size) := by
  have hl := h.1
  rw [recCells_len] at hl
  have hn : n = rs.length := by omega
  rcases h.2 with ⟨hv, h0⟩ | ⟨g, cap, cur, hv, hb, hh, hc, hm, hs, ht⟩
  · subst h0
    exact ⟨none, 0, hv, hn, Nat.le_refl _, Nat.zero_le _, .inl (List.length_eq_zero_iff.1 hn.symm), fun x hx => by cases hx⟩
  · have hlt : g < w.heap.size := (Array.getElem?_eq_some_iff.1 hh).1
    refine ⟨some ⟨g, 0, none⟩, cap, hv, hn, hc, hm, .inr ⟨g, 0, rfl, hlt, fun i r hi => ?_⟩, fun x hx => by cases hx; exact ⟨hb, hlt⟩⟩
    obtain ⟨c0, c1⟩ := recCells_at rs i r hi
    have hir : i < rs.length := (List.getElem?_eq_some_iff.1 hi).1
    have get : ∀ j u, j < n * 2 → (recCells rs)[j]? = some u → w.cell? ⟨g, j, none⟩ = some u := fun j u hj hu => by
      rw [← ht, List.getElem?_take, if_pos hj] at hu
      rw [World.cell?, hh]
      simpa using hu
    rw [Nat.zero_add]
    exact ⟨get _ _ (by omega) c0, get _ _ (by omega) c1⟩

theorem own_block2 {w : World} {base n size : Nat} {e : TypeId} {v : Value} {xs : List Value} (h : w.ownsRow base e size v n xs) : ∀ k, v.ownBlock = some k → base ≤ k := by
  intro k hk
  rcases h.2 with ⟨h', _⟩ | ⟨g', cap', cur, hv, hb', _⟩
  · rw [h'] at hk; cases hk
  · rw [hv] at hk
    obtain rfl : g' = k := by simpa [Value.ownBlock] using hk
    exact hb'
/-- own rows stay where nothing below B has turned -/
theorem own_stay {w w' : World} {base B n size : Nat} {e : TypeId} {v : Value} {xs : List Value} (h : w.ownsRow base e size v n xs) (hb : Below B w w') (hB : w.heap.size ≤ B) : w'.ownsRow base e size v n xs := by
  obtain ⟨h1, h2⟩ := h
  refine ⟨h1, ?_⟩
  rcases h2 with h2 | ⟨g', cap', cur, hv, hb', hh, r⟩
  · exact Or.inl h2
  · have hlt : g' < w.heap.size := (Array.getElem?_eq_some_iff.1 hh).1
    exact Or.inr ⟨g', cap', cur, hv, hb', by rw [hb.block g' (by omega)]; exact hh, r⟩

section
variable {P : Program} {w : World} {ops : Array Oper} {rest : List Oper} {o : Oper} {a : Act} {Q : Exit → Act → World → Prop}

/-- a slice of one record -/
theorem wpList_lit_rec (hgd : o.guard = none) (t e : TypeId) (x : Operand) (ho : o.op = .buildSlice t 1 #[(0, x)]) (ht : P.underlying t = some (.slice e)) (z : Value) (hI : (P.info? e).map (fun i => (i.zero, i.size)) = some (some z, 2))
    (k v : ByteArray) (hx : a.eval x = .agg #[.string k, .string v])
    (K : ∀ w', w'.heap[w.heap.size]? = some (.cells #[.string k, .string v] e (0, 0)) → Below w.heap.size w w' → wpList P ops Q rest (a.put o.dst (.slice (some ⟨w.heap.size, 0, none⟩) 1 1)) w') : wpList P ops Q (o :: rest) a w := by
  refine wpList_plain hgd fun K' hK => ?_
  cases hq : P.info? e with
  | none => simp [hq] at hI
  | some i =>
    simp [hq] at hI
    have hrun : (Instr.buildSlice t 1 #[(0, .agg #[.string k, .string v])]).run P w = .ok (.slice (some ⟨w.heap.size, 0, none⟩) 1 1) (w.alloc (.cells #[.string k, .string v] e)) := by
      simp [Instr.buildSlice, run_underlying ht, sizeOf, typeInfo, zeroValue, hq, hI.1, hI.2, Instr.fill, newRow, Value.cells]
      rw [show Array.range 2 = #[0, 1] by decide]; simp
    unfold Oper.wp
    simp [execOp, ho, hx, hrun, Result.andThen]
    exact hK _ _ (K _ (heap_alloc_new w _) ((Below.refl _ _).alloc (Nat.le_refl _) _))

/-- 'append(l, r)' on records of the call's own, r in a slice of one -/
theorem wpList_append_rec (hgd : o.guard = none) (s x : Operand) (t : TypeId) (ho : o.op = .call { callee := .builtin .append, args := #[s, x], argTypes := #[t, t] })
    (base : Nat) (e : TypeId) (i0 : TypeInfo) (z : Value) (hT : P.underlying t = some (.slice e)) (hI : Hid (P.info? e = some i0 ∧ i0.zero = some z ∧ i0.size = 2 ∧ i0.bytes = 32 ∧ z.cells.size = 2))
    (v : Value) (n : Nat) (rs : List Rec) (hs : a.eval s = v) (hown : w.ownsRow base e 2 v n (recCells rs))
    (b : Nat) (r : Rec) (hx : a.eval x = .slice (some ⟨b, 0, none⟩) 1 1) (hb : w.heap[b]? = some (.cells #[.string r.1, .string r.2] e (0, 0))) (h47 : n ≤ 1000000) (hbase : base ≤ w.heap.size)
    (K : ∀ v' w', w'.ownsRow base e 2 v' (n + 1) (recCells (rs ++ [r])) → Below base w w' → (∀ k, k < w.heap.size → some k ≠ v.ownBlock → w'.heap[k]? = w.heap[k]?) → wpList P ops Q rest (a.put o.dst v') w') : wpList P ops Q (o :: rest) a w := by
  refine wpList_append_own _ hgd s x t ho base e i0 z 2 32 hT hI.out.1 hI.out.2.1 hI.out.2.2.1 hI.out.2.2.2.1 hI.out.2.2.2.2 (by decide) v n _ hs hown ⟨b, 0, none⟩ 1 1 [.string r.1, .string r.2] hx rfl ?_ ?_ (by unfold maxLen; omega) (by omega) hbase ?_
  · intro j u hj
    rw [add_plain', Nat.zero_add, World.cell?, hb]
    match j, hj with
    | 0, hj => simpa using hj
    | 1, hj => simpa using hj
    | j + 2, hj => simp at hj
  · intro u hu
    simp at hu
    rcases hu with rfl | rfl <;> rfl
  · intro v' w' h1 h2 _
    exact K v' w' (by rw [recCells_snoc]; exact h1) ((Below.refl _ _).grown h2 hbase (own_block2 hown)) (fun k hk hr => h2.block k hk hr)
end
end Go.Proofs.YtmbimnnacjbdfaaGreatDoor.Pxr
