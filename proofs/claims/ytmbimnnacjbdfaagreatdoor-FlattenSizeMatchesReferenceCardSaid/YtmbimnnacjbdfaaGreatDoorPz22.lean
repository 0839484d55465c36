/-
  Layer 9: the reference's Decimal.
-/
import Derived.Test.YtmbimnnacjbdfaaGreatDoorPz07
import Derived.Test.YtmbimnnacjbdfaaGreatDoorPxrTk
import Derived.Test.YtmbimnnacjbdfaaGreatDoorPz05
import Derived.BigQuiet
import Derived.Test.YtmbimnnacjbdfaaGreatDoorFitRpA
import Derived.Test.YtmbimnnacjbdfaaGreatDoorPz09
import Derived.Test.YtmbimnnacjbdfaaGreatDoorPz15
import Derived.Test.YtmbimnnacjbdfaaGreatDoorPz14
import Derived.Test.YtmbimnnacjbdfaaGreatDoorPz08
import Derived.Test.YtmbimnnacjbdfaaGreatDoorPz16
import Derived.Test.YtmbimnnacjbdfaaGreatDoorPz12
import Derived.Test.YtmbimnnacjbdfaaGreatDoorShelf
import Derived.Test.YtmbimnnacjbdfaaGreatDoorPz06
namespace Go.Proofs.YtmbimnnacjbdfaaGreatDoor.Pxr
open Go.RowKit

theorem strD_one (k : Nat) (h : k < 10) (t : ByteArray) : numsOf (strOfNums [48 + (k : Int)] ++ t) = decD k ++ numsOf t := by
  rw [nums_cat, numsOf_strOfNums (fun z hz => by simp at hz; omega), decD_small h]

set_option maxHeartbeats 2000000 in
set_option maxRecDepth 100000 in
theorem rdec_any (n : Nat) (hn : n ≤ 1000000000000000000) (w : World) : Calls Tryz.prog 50 #[.int .i64 (n : Int)] w fun e w' => e = .returned (.string (strOfNums (decD n))) ∧ Below w.heap.size w w' := by
  obtain ⟨R, hR⟩ := named (strOfNums (decD n))
  rw [← hR.out]
  have HL : Hid ((decD n).length ≤ 19) := by
    show _ ≤ _
    rw [decD_len]
    exact nDigits_le 18 n (Nat.lt_of_le_of_lt hn (by decide))
  have HI : Hid ((Tryz.prog.info? 5).map (fun i => (i.zero, i.size, i.bytes)) = some (some (.int .u8 0), 1, 1)) := by show _ = _; kernel_rfl
  obtain ⟨z0, hz0⟩ := named (n : Int)
  rw [← hz0.out]
  have HNN := Lib.hid hn
  clear hn
  go_enter Tryz.func50, Tryz.ntmps50
  go_wp2
  go_loopw [0, 3] (fun m s wr => ∃ (z : Int) (k : Nat) (t : ByteArray), m = .int .i64 z ∧ s = .string t ∧ Hid (z = k ∧ k ≤ n ∧ decD k ++ numsOf t = decD n) ∧ Below w.heap.size w wr) (fun m _ _ => (intOf m).toNat)
  case atStart => exact ⟨z0, n, { data := #[] }, rfl, rfl, ⟨hz0.out, Nat.le_refl _, by rw [show numsOf { data := #[] } = [] from rfl, List.append_nil]⟩, Below.refl _ _⟩
  case round =>
    obtain ⟨z, k, t, rfl, rfl, hk, hb⟩ := hrel
    have HB := Lib.hid hb
    have k0 : 0 ≤ z := by have := hk.out.1; omega
    have k1 : z ≤ 1000000000000000000 := by have := hk.out.1; have := hk.out.2.1; have := HNN.out; omega
    have ts : (t.size : Int) ≤ 19 := by
      have := congrArg List.length hk.out.2.2
      rw [List.length_append, numsOf_length] at this
      have := HL.out
      omega
    clear hb
    by_cases h : z < 10
    · have hz : z < 10 := h
      obtain ⟨d, hd⟩ := named (strOfNums [48 + z])
      have ds : (d.size : Int) ≤ 1 := by rw [hd.out, ← numsOf_length, numsOf_strOfNums (fun y hy => by simp at hy; omega)]; exact Int.le_refl 1
      go_wp2_with (first | (refine wpList_lit_one rfl 25 5 _ rfl Tryz.underlying25 HI.out (48 + z) rfl (by omega) ?_; intro w1 g1 b1; have G1 := Lib.hid g1; have B1 := Lib.hid b1; have hcv := run_str_in (P := Tryz.prog) Tryz.underlying25 Tryz.underlying5 Tryz.underlying9 g1.bytes 1 1 rfl; rw [← hd.out] at hcv; clear g1 b1))
      go_ret
      refine ⟨?_, HB.out.trans (B1.out.mono HB.out.size)⟩
      have e : R = d ++ t := by
        apply nums_inj
        rw [hd.out, hk.out.1, strD_one k (by have := hk.out.1; omega), hk.out.2.2, hR.out]
        exact numsOf_strOfNums (fun z hz => by
          have := decD_digs n
          rw [List.all_eq_true] at this
          have := (digB_iff z).1 (this z hz)
          omega)
      rw [e]; rfl
    · have h2 : 10 ≤ z := by omega
      have m0 : 0 ≤ z % 10 := by omega
      have m1 : z % 10 < 10 := by omega
      have H3 : Hid (∃ k' : Nat, z / 10 = k' ∧ k' ≤ n ∧ decD k' ++ numsOf (strOfNums [48 + z % 10] ++ t) = decD n) := by
        have e := hk.out
        refine ⟨k / 10, by omega, by omega, ?_⟩
        rw [nums_cat, numsOf_strOfNums (fun y hy => by simp at hy; omega), ← List.append_assoc, ← e.2.2, decD_big (n := k) (by omega)]
        congr 3
        omega
      obtain ⟨d, hd⟩ := named (strOfNums [48 + z % 10])
      have ds : (d.size : Int) ≤ 1 := by rw [hd.out, ← numsOf_length, numsOf_strOfNums (fun y hy => by simp at hy; omega)]; exact Int.le_refl 1
      rw [← hd.out] at H3
      clear h
      go_wp2_with (first | (refine wpList_lit_one rfl 25 5 _ rfl Tryz.underlying25 HI.out (48 + z % 10) rfl (by omega) ?_; intro w1 g1 b1; have G1 := Lib.hid g1; have B1 := Lib.hid b1; have hcv := run_str_in (P := Tryz.prog) Tryz.underlying25 Tryz.underlying5 Tryz.underlying9 g1.bytes 1 1 rfl; rw [← hd.out] at hcv; clear g1 b1))
      go_roundw
      case rel =>
        obtain ⟨k', e1, e2, e3⟩ := H3.out
        exact ⟨z / 10, k', _, rfl, rfl, ⟨e1, e2, e3⟩, HB.out.trans (B1.out.mono HB.out.size)⟩
      case measure => simp [intOf]; omega
end Go.Proofs.YtmbimnnacjbdfaaGreatDoor.Pxr
/-
  Layer 10: the reference's Plan.
-/
namespace Go.Proofs.YtmbimnnacjbdfaaGreatDoor.Fit
open Go.RowKit Pxr Pnm

set_option maxRecDepth 100000 in
set_option maxHeartbeats 4000000 in
theorem rpl_bad (k : Int) (p : ByteArray) (m : Int) (t : ByteArray) (s : Int) (w : World) (E : Int) (h0 : (E != 0) = true)
    (C1 : Hid (∀ w', Below w.heap.size w w' → Calls Tryz.prog 48 #[.agg (enV k p m t s).toArray] w' fun e w'' => e = .returned (.int .i64 E) ∧ Below w'.heap.size w' w'')) :
    Calls Tryz.prog 27 #[.agg (enV k p m t s).toArray] w (RetPl 0 emp emp emp 0 0 [] E w) := by
  have HO := Lib.hid hdTr
  have HZ := Lib.hid zHr
  go_enter Tryz.func27, Tryz.ntmps27
  go_wp2_with (first | (refine wpList_box_obj rfl 24 _ rfl (enV k p m t s) rfl ?_; intro w1 g1 b1; have H1 := Lib.hid g1; have B1 := Lib.hid b1; clear g1 b1) | (refine wpList_alloc_obj rfl 69 rfl Ust.hd0 HZ.out ?_; intro w2 g2 b2; have R2 := Lib.hid g2; have E2 := Lib.hid (H1.out.below b2 H1.out.lt); have B2 := Lib.hid (belT B1.out b2); have c0 := E2.out.get 0 rfl; have c1 := E2.out.get 1 rfl; have c2 := E2.out.get 2 rfl; have c3 := E2.out.get 3 rfl; have c4 := E2.out.get 4 rfl; clear g2 b2))
  refine (C1.out w2 B2.out).mono ?_; rintro e w3 ⟨rfl, b3⟩
  have R3 := Lib.hid (R2.out.below b3 R2.out.lt)
  have B3 := Lib.hid (belT B2.out b3)
  have N1 : Hid (w.heap.size < w1.heap.size) := H1.out.lt
  clear b3 c0 c1 c2 c3 c4
  go_wp2_with (first | (refine wpList_store_obj rfl 69 _ _ rfl w1.heap.size rfl Ust.hd0 Ust.hd0 rfl 69 R3.out HO.out.2 rfl (hd_one _ _ _ _ _ _) ?_; intro w4 g4 t4; have R4 := Lib.hid g4; have T4 := Lib.hid t4; clear g4 t4))
  exact bodyPost_ret (results_obj_two Tryz.results27 HO.out _ w1.heap.size rfl _ Ust.hd0 R4.out rfl) rfl (.nil (B3.out.trans (T4.out.below (Nat.le_of_lt N1.out))))

theorem rplan_any (e : Ent) (w : World) (hp : e.p.size ≤ maxLen) (ht : e.t.size ≤ maxLen) : Calls Tryz.prog 27 #[.agg (enV e.k e.p e.m e.t e.s).toArray] w (RetP e w) := by
  obtain ⟨k, p, m, t, s⟩ := e
  dsimp only at hp ht ⊢
  have C1 : Hid (∀ w', Below w.heap.size w w' → Calls Tryz.prog 48 #[.agg (enV k p m t s).toArray] w' fun e w'' => e = .returned (.int .i64 (ckE ⟨k, p, m, t, s⟩)) ∧ Below w'.heap.size w' w'') := fun w' hb => rcheck_any k p m t s w' hp ht
  by_cases h : ckE ⟨k, p, m, t, s⟩ = 0
  · have hok := ck_ok.1 h
    rw [h] at C1
    obtain ⟨e1, e2⟩ := pl_good_eq h
    have KG : Hid (tyZ k = tyZ k) := rfl
    have C2 : Hid (∀ w', Calls Tryz.prog 49 #[.string p] w' fun e w'' => e = .returned (.tuple #[.string (strOfNums (splP (numsOf p))), .string (strOfNums (splN (numsOf p))), .bool (splB (numsOf p))]) ∧ Below w'.heap.size w' w'') := fun w' => Pnm.rsplit_any p w' hp
    have C3 : Hid (∀ w', Below w.heap.size w w' → Calls Tryz.prog 50 #[.int .i64 s] w' fun e w'' => e = .returned (.string (strOfNums (decD s.toNat))) ∧ Below w'.heap.size w' w'') := fun w' hb => by
      obtain ⟨s0, s1, _⟩ := sz_cases hok.sz
      have := Pxr.rdec_any s.toNat (by dsimp only at s0 s1; omega) w'
      rwa [show ((s.toNat : Nat) : Int) = s by dsimp only at s0; omega] at this
    unfold RetP
    rw [e1, e2, h]
    unfold plH plL plT plP plS
    dsimp only
    exact rpl_all k p m t s w _ _ _ _ _ (splB (numsOf p)) _ _ hok.k0 hok.k4 KG C1 C2 C3 (fun h => ⟨(spl_no (by rw [h]; decide)).2, (spl_no (by rw [h]; decide)).1⟩) rfl rfl rfl
  · obtain ⟨e1, e2⟩ := pl_bad_eq h
    unfold RetP
    rw [e1, e2]
    exact rpl_bad k p m t s w _ (by simpa using h) C1
end Go.Proofs.YtmbimnnacjbdfaaGreatDoor.Fit
/-
  Layer 9: the reference's Number.
-/
namespace Go.Proofs.YtmbimnnacjbdfaaGreatDoor.Pxr
open Go.RowKit

/-- Number's answers -/
def rnV (most : Int) (zs : List Int) : Int := if decOk zs = false then 0 else if most < decV zs then 0 else decV zs
def rnE (most : Int) (zs : List Int) : Int := if decOk zs = false then 6 else if most < decV zs then 3 else 0

set_option maxHeartbeats 4000000 in
set_option maxRecDepth 100000 in
theorem rnum_any (s : ByteArray) (most : Int) (w : World) (hs : s.size ≤ maxLen) (h0 : 0 ≤ most) (h1 : most ≤ 1099511627776) : Calls Tryz.prog 94 #[.string s, .int .i64 most] w fun e w' =>
    e = .returned (.tuple #[.int .i64 (rnV most (numsOf s)), .int .i64 (rnE most (numsOf s))]) ∧ w = w' := by
  unfold maxLen at hs
  obtain ⟨R, hR⟩ := named (rnV most (numsOf s))
  obtain ⟨E, hE⟩ := named (rnE most (numsOf s))
  rw [← hR.out, ← hE.out]
  have FB : Hid (decOk (numsOf s) = false → R = 0 ∧ E = 6) := fun h => ⟨by rw [hR.out]; unfold rnV; rw [if_pos h], by rw [hE.out]; unfold rnE; rw [if_pos h]⟩
  have FR : Hid (decOk (numsOf s) = true → most < decV (numsOf s) → R = 0 ∧ E = 3) := fun h h' => ⟨by rw [hR.out]; unfold rnV; rw [h, if_neg (by decide), if_pos h'], by rw [hE.out]; unfold rnE; rw [h, if_neg (by decide), if_pos h']⟩
  have FG : Hid (decOk (numsOf s) = true → ¬ most < decV (numsOf s) → R = decV (numsOf s) ∧ E = 0) := fun h h' => ⟨by rw [hR.out]; unfold rnV; rw [h, if_neg (by decide), if_neg h'], by rw [hE.out]; unfold rnE; rw [h, if_neg (by decide), if_neg h']⟩
  have HA : Hid (∀ j (h : j < s.size), (numsOf s).getD j 0 = (s[j].toNat : Int)) := num_at s
  have NL := Lib.hid (numsOf_length s)
  clear hR hE
  by_cases he : s = { data := #[] }
  · have Q := Lib.hid (FB.out (by rw [he]; rfl))
    have hi : s.toList.isEmpty = true := by rw [he, ByteArray.toList_eq]; rfl
    clear FG FR FB HA NL he
    go_enter Tryz.func94, Tryz.ntmps94
    go_wp2
    go_ret2
    rw [Q.out.1, Q.out.2]
    exact ⟨rfl, rfl⟩
  · have hp : 0 < s.size := by
      rcases Nat.eq_zero_or_pos s.size with h | h
      · exact absurd (nums_inj (by rw [List.length_eq_zero_iff.1 ((NL.out).trans h)]; rfl)) he
      · exact h
    have hi := empty_no he
    have hS0 : Hid (s.size ≠ 0) := by show _ ≠ _; omega
    have HP := Lib.hid hp
    clear he
    go_enter Tryz.func94, Tryz.ntmps94
    go_wp2
    go_loop [6] (fun i => ∃ j : Nat, i = .int .i64 j ∧ j ≤ s.size ∧ ∀ k, k < j → 48 ≤ (numsOf s).getD k 0 ∧ (numsOf s).getD k 0 ≤ 57) (fun i => s.size - (intOf i).toNat)
    case atStart => exact ⟨0, rfl, Nat.zero_le _, fun k hk => by omega⟩
    case round =>
      obtain ⟨j, rfl, hj, hd⟩ := hrel
      have HD := Lib.hid hd
      clear hd
      by_cases hlt : j < s.size
      · have hx := HA.out j hlt
        obtain ⟨x, hxe⟩ : ∃ x : Int, ((s[j].toNat : Nat) : Int) = x := ⟨_, rfl⟩
        rw [hxe] at hx
        have HX := Lib.hid hx
        have m1 : (j : Int) < s.size := by omega
        clear hx
        by_cases c1 : x < 48
        · have Q := Lib.hid (FB.out (dec_bad hlt (by rw [HX.out]; omega)))
          go_wp2
          go_ret2
          rw [Q.out.1, Q.out.2]
          exact ⟨rfl, rfl⟩
        · by_cases c2 : 57 < x
          · have Q := Lib.hid (FB.out (dec_bad hlt (by rw [HX.out]; omega)))
            go_wp2
            go_ret2
            rw [Q.out.1, Q.out.2]
            exact ⟨rfl, rfl⟩
          · go_wp2
            go_round
            case rel => exact ⟨j + 1, by go_num, by omega, fun k hk => by
              by_cases e : k = j
              · rw [e, HX.out]; omega
              · exact HD.out k (by omega)⟩
            case measure => simp [intOf]; omega
      · have m1 : ¬ (j : Int) < s.size := by omega
        obtain rfl : j = s.size := by omega
        obtain ⟨x, hxe⟩ : ∃ x : Int, (((s[0]'hp).toNat : Nat) : Int) = x := ⟨_, rfl⟩
        have hx := (HA.out 0 hp).trans hxe
        have HX := Lib.hid hx
        clear hx hlt
        by_cases hz : x = 48 ∧ 1 < s.size
        · have m2 : (x == 48) = true := by rw [hz.1]; rfl
          have m3 : (1 : Int) < s.size := by omega
          have Q := Lib.hid (FB.out (by
            rw [Bool.eq_false_iff]
            intro e
            rw [decOk_iff, NL.out] at e
            have := e.2.2 (by rw [HX.out]; exact hz.1)
            omega))
          clear hz
          go_wp2
          go_ret2
          rw [Q.out.1, Q.out.2]
          exact ⟨rfl, rfl⟩
        · have hok : Hid (decOk (numsOf s) = true) := dec_all HD.out hS0.out (by rw [HX.out]; intro e; have := HP.out; omega)
          have tests : ((x == 48) = true ∧ ¬ (1 : Int) < s.size) ∨ (x == 48) = false := by
            by_cases c : x = 48
            · exact .inl ⟨by rw [c]; rfl, by omega⟩
            · exact .inr (by simpa using c)
          clear hz
          rcases tests with ⟨m2, m3⟩ | m2
          all_goals
            go_wp2
            go_loop [7, 8] (fun n i => ∃ (j : Nat) (z : Int), i = .int .i64 j ∧ n = .int .i64 z ∧ j ≤ s.size ∧ Hid (z = decV ((numsOf s).take j)) ∧ 0 ≤ z ∧ z ≤ most) (fun _ i => s.size - (intOf i).toNat)
            case atStart => exact ⟨0, 0, rfl, rfl, Nat.zero_le _, rfl, Int.le_refl _, h0⟩
            case round =>
              obtain ⟨j, z, rfl, rfl, hj, HZ, z0, z1⟩ := hrel
              by_cases hlt : j < s.size
              · have hx := HA.out j hlt
                obtain ⟨y, hye⟩ : ∃ y : Int, ((s[j].toNat : Nat) : Int) = y := ⟨_, rfl⟩
                rw [hye] at hx
                have hd := HD.out j hlt
                rw [hx] at hd
                obtain ⟨y0, y1⟩ := hd
                have HY := Lib.hid hx
                have j1 : (j : Int) < s.size := by omega
                have HN : Hid (10 * z + y - 48 = decV ((numsOf s).take (j + 1))) := by
                  show _ = _
                  rw [decV_take_succ _ _ (by rw [NL.out]; exact hlt), HY.out]
                  have := HZ.out
                  omega
                have z2 : z ≤ 1099511627776 := by omega
                clear hx
                by_cases hm : most < 10 * z + y - 48
                · have Q := Lib.hid (FR.out hok.out (by have := decV_take_le (numsOf s) (j + 1); have := HN.out; omega))
                  go_wp2
                  go_ret2
                  rw [Q.out.1, Q.out.2]
                  exact ⟨rfl, rfl⟩
                · go_wp2
                  go_round
                  case rel => exact ⟨j + 1, _, by go_num, rfl, by omega, HN.out, by omega, by omega⟩
                  case measure => simp [intOf]; omega
              · obtain rfl : j = s.size := by omega
                have j1 : ¬ (s.size : Int) < s.size := by omega
                have hz := HZ.out
                rw [List.take_of_length_le (by rw [NL.out]; exact Nat.le_refl _)] at hz
                have Q := Lib.hid (FG.out hok.out (by omega))
                have HZ2 := Lib.hid hz
                clear hz hlt
                go_wp2
                go_ret2
                rw [Q.out.1, Q.out.2, ← HZ2.out]
                exact ⟨rfl, rfl⟩
end Go.Proofs.YtmbimnnacjbdfaaGreatDoor.Pxr
/-
  Layer 9: the reference's Number and index.
-/
namespace Go.Proofs.YtmbimnnacjbdfaaGreatDoor.Pxr
open Go.RowKit

/-- the first place of c from f on -/
def ixZ (c : Int) (f : Nat) (zs : List Int) : Int := if c ∈ zs.drop f then f + (bef c (zs.drop f)).length else -1
theorem bef_len_of {c : Int} : ∀ {zs : List Int} {j : Nat}, j < zs.length → zs.getD j 0 = c → (∀ k, k < j → zs.getD k 0 ≠ c) → c ∈ zs ∧ (bef c zs).length = j
  | [], j, h, _, _ => by simp at h
  | x :: zs, 0, _, h, _ => by
    change x = c at h
    subst h
    exact ⟨List.mem_cons_self .., by unfold bef; simp⟩
  | x :: zs, j + 1, hj, h, hn => by
    have hx : x ≠ c := hn 0 (by omega)
    have hx' : (x != c) = true := by simpa using hx
    obtain ⟨h1, h2⟩ := bef_len_of (zs := zs) (j := j) (by simpa using hj) h (fun k hk => hn (k + 1) (by omega))
    refine ⟨List.mem_cons_of_mem _ h1, ?_⟩
    unfold bef at h2 ⊢
    rw [List.takeWhile_cons, hx', if_pos rfl, List.length_cons, h2]
theorem getD_drop (zs : List Int) (f k : Nat) : (zs.drop f).getD k 0 = zs.getD (f + k) 0 := by
  rw [List.getD_eq_getElem?_getD, List.getElem?_drop, ← List.getD_eq_getElem?_getD]
theorem ix_hit {c : Int} {f j : Nat} {zs : List Int} (h1 : f ≤ j) (h2 : j < zs.length) (h3 : zs.getD j 0 = c) (h4 : ∀ k, f ≤ k → k < j → zs.getD k 0 ≠ c) : ixZ c f zs = j := by
  obtain ⟨m, rfl⟩ : ∃ m, j = f + m := ⟨j - f, by omega⟩
  obtain ⟨a, b⟩ := bef_len_of (zs := zs.drop f) (j := m) (c := c) (by rw [List.length_drop]; omega) (by rw [getD_drop]; exact h3) (fun k hk => by rw [getD_drop]; exact h4 _ (by omega) (by omega))
  unfold ixZ
  rw [if_pos a, b]; omega
theorem ix_miss {c : Int} {f : Nat} {zs : List Int} (h4 : ∀ k, f ≤ k → k < zs.length → zs.getD k 0 ≠ c) : ixZ c f zs = -1 := by
  unfold ixZ
  rw [if_neg]
  intro h
  obtain ⟨k, hk, e⟩ := List.getElem_of_mem h
  rw [List.length_drop] at hk
  apply h4 (f + k) (by omega) (by omega)
  rw [← getD_drop, List.getD_eq_getElem?_getD, List.getElem?_eq_getElem (by rw [List.length_drop]; omega), e]; rfl

end Go.Proofs.YtmbimnnacjbdfaaGreatDoor.Pxr
/-
  Layer 9: the reference's Check, Size, one.
-/
namespace Go.Proofs.YtmbimnnacjbdfaaGreatDoor.Pxr
open Go.RowKit

theorem rnE_chkS (v : ByteArray) : rnE 1099511627776 (numsOf v) = chkS v := by
  unfold rnE chkS
  by_cases h : decOk (numsOf v) = false
  · rw [if_pos h, if_pos h]
  · rw [if_neg h, if_neg h]
    by_cases h2 : 1099511627776 < decV (numsOf v)
    · rw [if_pos h2, if_pos (by omega)]
    · rw [if_neg h2, if_neg (by omega)]

set_option maxHeartbeats 2000000 in
set_option maxRecDepth 100000 in
theorem rcheck_any (k v : ByteArray) (w : World) (hv : v.size ≤ maxLen) : Calls Tryz.prog 51 #[.agg #[.string k, .string v]] w fun e w' => e = .returned (.int .i64 (chk (k, v))) ∧ Below w.heap.size w w' := by
  have HV := Lib.hid hv
  unfold maxLen at hv
  obtain ⟨R, hR⟩ := named (chk (k, v))
  rw [← hR.out]
  have b0 : Hid (Below w.heap.size w (w.alloc (.cells #[.string k, .string v] 84))) := (Below.refl _ w).alloc (Nat.le_refl _) _
  have hd := hR.out
  unfold chk at hd
  dsimp only at hd
  by_cases h1 : k = kLink ∨ k = kPath
  · rw [if_pos h1] at hd
    have tests : (k.toList == [108, 105, 110, 107, 112, 97, 116, 104]) = true ∨ ((k.toList == [108, 105, 110, 107, 112, 97, 116, 104]) = false ∧ (k.toList == [112, 97, 116, 104]) = true) := by
      obtain ⟨t0, t1, _⟩ := key_tests k _ _ _ rfl rfl rfl
      rw [t0, t1]
      rcases h1 with rfl | rfl
      · exact .inl (by decide)
      · exact .inr (by decide)
    clear h1 hR
    have HA : Hid (∀ j (h : j < v.size), (numsOf v).getD j 0 = (v[j].toNat : Int)) := num_at v
    have NL := Lib.hid (numsOf_length v)
    by_cases h2 : 65536 < v.size
    · have m1 : (65536 : Int) < v.size := by omega
      have e := Lib.hid (hd.trans (by unfold chkT; rw [if_pos h2]))
      clear hd h2
      rcases tests with t0 | ⟨t0, t1⟩
      all_goals
        go_enter Tryz.func51, Tryz.ntmps51
        go_wp2
        go_ret
        exact ⟨by rw [e.out]; rfl, b0.out⟩
    · have m1 : ¬ (65536 : Int) < v.size := by omega
      have HD := Lib.hid hd
      have H2 := Lib.hid h2
      clear hd h2
      rcases tests with t0 | ⟨t0, t1⟩
      all_goals
        go_enter Tryz.func51, Tryz.ntmps51
        go_wp2
        go_loop [3] (fun i => ∃ j : Nat, i = .int .i64 j ∧ j ≤ v.size ∧ ∀ x, x < j → (numsOf v).getD x 0 ≠ 0) (fun i => v.size - (intOf i).toNat)
        case atStart => exact ⟨0, rfl, Nat.zero_le _, fun x hx => by omega⟩
        case round =>
          obtain ⟨j, rfl, hj, hn⟩ := hrel
          have HN := Lib.hid hn
          clear hn
          by_cases hlt : j < v.size
          · have hx := HA.out j hlt
            obtain ⟨x, hxe⟩ : ∃ x : Int, ((v[j].toNat : Nat) : Int) = x := ⟨_, rfl⟩
            rw [hxe] at hx
            have HX := Lib.hid hx
            have j1 : (j : Int) < v.size := by omega
            clear hx
            by_cases hz : x = 0
            · have m2 : (x == 0) = true := by rw [hz]; rfl
              have hmem : (0 : Int) ∈ numsOf v := by
                have := HX.out
                rw [hz, List.getD_eq_getElem?_getD, List.getElem?_eq_getElem (by rw [NL.out]; exact hlt)] at this
                exact this ▸ List.getElem_mem _
              have e := Lib.hid (HD.out.trans (by unfold chkT; rw [if_neg H2.out, if_pos (.inr hmem)]))
              clear hz hmem
              go_wp2
              go_ret
              exact ⟨by rw [e.out]; rfl, b0.out⟩
            · have m2 : (x == 0) = false := by simpa using hz
              have HZ := Lib.hid hz
              clear hz
              go_wp2
              go_round
              case rel => exact ⟨j + 1, by go_num, by omega, fun y hy => by
                by_cases e : y = j
                · rw [e, HX.out]; exact HZ.out
                · exact HN.out y (by omega)⟩
              case measure => simp [intOf]; omega
          · obtain rfl : j = v.size := by omega
            have j1 : ¬ (v.size : Int) < v.size := by omega
            have hno : (0 : Int) ∉ numsOf v := fun h => by
              obtain ⟨y, hy, e⟩ := List.getElem_of_mem h
              apply HN.out y (by rw [NL.out] at hy; exact hy)
              rw [List.getD_eq_getElem?_getD, List.getElem?_eq_getElem hy, e]; rfl
            clear hlt
            by_cases he : v = { data := #[] }
            · have hi : v.toList.isEmpty = true := by rw [he, ByteArray.toList_eq]; rfl
              have e := Lib.hid (HD.out.trans (by unfold chkT; rw [if_neg H2.out, if_pos (.inl (by rw [he]; rfl))]))
              clear he hno
              go_wp2
              go_ret
              exact ⟨by rw [e.out]; rfl, b0.out⟩
            · have hi := empty_no he
              have hs0 : v.size ≠ 0 := fun e => he (nums_inj (by rw [List.length_eq_zero_iff.1 ((numsOf_length v).trans e)]; rfl))
              have e := Lib.hid (HD.out.trans (by unfold chkT; rw [if_neg H2.out, if_neg (fun h => h.elim hs0 hno)]))
              clear he hno hs0
              go_wp2
              go_ret
              exact ⟨by rw [e.out]; rfl, b0.out⟩
  · rw [if_neg h1] at hd
    have t01 : (k.toList == [108, 105, 110, 107, 112, 97, 116, 104]) = false ∧ (k.toList == [112, 97, 116, 104]) = false := by
      obtain ⟨t0, t1, _⟩ := key_tests k _ _ _ rfl rfl rfl
      rw [t0, t1]
      exact ⟨decide_eq_false (fun h => h1 (.inl h)), decide_eq_false (fun h => h1 (.inr h))⟩
    obtain ⟨t0, t1⟩ := t01
    by_cases h2 : k = kSize
    · rw [if_pos h2] at hd
      have t2 := (key_tests k _ _ _ rfl rfl rfl).2.2
      rw [decide_eq_true h2] at t2
      have N := rnum_any v 1099511627776
      rw [rnE_chkS, ← hd] at N
      have HN := Lib.hid fun w' => N w' HV.out (by decide) (by decide)
      obtain ⟨q, hq⟩ := named (rnV 1099511627776 (numsOf v))
      rw [← hq.out] at HN
      clear hR hd h1 h2 N
      go_enter Tryz.func51, Tryz.ntmps51
      go_wp2_with fail
      refine (HN.out _).mono ?_; rintro e w1 ⟨rfl, rfl⟩
      go_wp2
      go_ret
      exact ⟨rfl, b0.out⟩
    · rw [if_neg h2] at hd
      have t2 := (key_tests k _ _ _ rfl rfl rfl).2.2
      rw [decide_eq_false h2] at t2
      have HD := Lib.hid hd
      clear hR hd h1 h2
      go_enter Tryz.func51, Tryz.ntmps51
      go_wp2
      go_ret
      exact ⟨by rw [HD.out]; rfl, b0.out⟩

set_option maxHeartbeats 2000000 in
set_option maxRecDepth 100000 in
theorem rsize_any (k v : ByteArray) (w : World) (h : oth (k, v) ≤ 1000000) : Calls Tryz.prog 95 #[.agg #[.string k, .string v]] w fun e w' => e = .returned (.int .i64 (szR (k, v) : Nat)) ∧ Below w.heap.size w w' := by
  obtain ⟨R, hR⟩ := named ((szR (k, v) : Nat) : Int)
  rw [← hR.out]
  obtain ⟨O, hO⟩ := named (oth (k, v))
  rw [← hO.out] at h
  have hO' := hO.out
  unfold oth at hO'
  dsimp only at hO'
  have b1 : (k.size : Int) ≤ 1000000 := by omega
  have b2 : (v.size : Int) ≤ 1000000 := by omega
  have HRR : Hid (R = ((szN O : Nat) : Int)) := by show _ = _; rw [hR.out]; unfold szR; rw [← hO.out]
  have HO : Hid ((k.size : Int) + (v.size : Int) + 3 = (O : Int)) := by show _ = _; omega
  have b0 : Hid (Below w.heap.size w (w.alloc (.cells #[.string k, .string v] 84))) := (Below.refl _ w).alloc (Nat.le_refl _) _
  have HL := Lib.hid h
  have HBD := Lib.hid (szN_bd h)
  clear hR hO hO' h
  go_enter Tryz.func95, Tryz.ntmps95
  go_wp2
  go_loopw [4] (fun d wr => ∃ (z : Int) (m : Nat), d = .int .i64 z ∧ Hid (z = m ∧ O + 1 ≤ m ∧ m ≤ szN O) ∧ 0 ≤ z ∧ z ≤ 1000100 ∧ Below w.heap.size w wr) (fun d _ => 1000101 - (intOf d).toNat)
  case atStart => exact ⟨_, O + 1, rfl, ⟨by have := HO.out; omega, Nat.le_refl _, HBD.out.1⟩, by omega, by have := HO.out; have := HL.out; omega, b0.out⟩
  case round =>
    obtain ⟨z, m, rfl, hm, z0, z1, hb⟩ := hrel
    have HB := Lib.hid hb
    have I := rdec_any m (by have := hm.out.1; omega) wr
    rw [← hm.out.1] at I
    obtain ⟨T, hT⟩ := named (strOfNums (decD m))
    rw [← hT.out] at I
    have HI := Lib.hid I
    have HTS : Hid (T.size = Lib.nDigits m) := by show _ = _; rw [hT.out, strD_size]
    have ts : (T.size : Int) ≤ 10 := by
      have := nDigits_le 7 m (by have : (10 : Nat) ^ (7 + 1) = 100000000 := by decide
                                 have := hm.out.1
                                 omega)
      have := HTS.out
      omega
    clear hb I hT
    by_cases ht : Lib.nDigits m + O = m
    · have q1 : ((T.size : Int) + ((k.size : Int) + (v.size : Int) + 3) != z) = false := by
        have := HTS.out; have := HO.out; have := hm.out.1
        simp; omega
      have HE : Hid (R = z) := by
        show _ = _
        rw [HRR.out, hm.out.1]
        have h1 := szN_least HL.out ht
        have h2 := hm.out.2.2
        omega
      clear ht
      go_wp2_with fail
      refine HI.out.mono ?_; rintro e w1 ⟨rfl, b3⟩
      have B3 := Lib.hid b3
      clear b3
      go_wp2
      go_ret
      exact ⟨by rw [HE.out]; rfl, HB.out.trans (B3.out.mono HB.out.size)⟩
    · have q1 : ((T.size : Int) + ((k.size : Int) + (v.size : Int) + 3) != z) = true := by
        have := HTS.out; have := HO.out; have := hm.out.1
        simp; omega
      have HM : Hid (m + 1 ≤ szN O) := by
        show _ ≤ _
        have h1 := szN_fix HL.out
        have h2 := hm.out.2.2
        rcases Nat.lt_or_ge m (szN O) with h | h
        · exact h
        · exact absurd (by rw [show szN O = m by omega] at h1; exact h1) ht
      have z2 : z + 1 ≤ 1000100 := by have := HM.out; have := HBD.out; have := HL.out; have := hm.out.1; omega
      clear ht
      go_wp2_with fail
      refine HI.out.mono ?_; rintro e w1 ⟨rfl, b3⟩
      have B3 := Lib.hid b3
      clear b3
      go_wp2
      go_roundw
      case rel => exact ⟨z + 1, m + 1, rfl, ⟨by have := hm.out.1; omega, by have := hm.out; omega, HM.out⟩, by omega, z2, HB.out.trans (B3.out.mono HB.out.size)⟩
      case measure => simp [intOf]; omega
end Go.Proofs.YtmbimnnacjbdfaaGreatDoor.Pxr
/-
  Layer 9: the reference's one.
-/
namespace Go.Proofs.YtmbimnnacjbdfaaGreatDoor.Pxr
open Go.RowKit

set_option maxHeartbeats 4000000 in
set_option maxRecDepth 100000 in
theorem rone_any (k v : ByteArray) (w : World) (h : oth (k, v) ≤ 100000) : Calls Tryz.prog 52 #[.agg #[.string k, .string v]] w fun e w' => e = .returned (.string (strOfNums (enR (k, v)))) ∧ Below w.heap.size w w' := by
  obtain ⟨T, hT⟩ := named (strOfNums (decD (szR (k, v))))
  have ES : Hid (T ++ { data := #[32] } ++ k ++ { data := #[61] } ++ v ++ { data := #[10] } = strOfNums (enR (k, v))) := by show _ = _; rw [hT.out]; exact enS_str (k, v)
  rw [← ES.out]
  have go : oth (k, v) ≤ 1000000 := by omega
  have hb := szN_bd go
  have hz : szR (k, v) ≤ 100008 := by unfold szR; omega
  have hts : T.size ≤ 100 := by
    rw [hT.out, strD_size]
    have := nDigits_le 6 (szR (k, v)) (by have : (10 : Nat) ^ (6 + 1) = 10000000 := by decide
                                          omega)
    omega
  have hk : k.size ≤ 100000 := by unfold oth at h; dsimp only at h; omega
  have hv : v.size ≤ 100000 := by unfold oth at h; dsimp only at h; omega
  have s1 : ¬ 9223372036854775807 < T.size + 1 := by omega
  have s2 : ¬ 9223372036854775807 < T.size + 1 + k.size := by omega
  have s3 : ¬ 9223372036854775807 < T.size + 1 + k.size + 1 := by omega
  have s4 : ¬ 9223372036854775807 < T.size + 1 + k.size + 1 + v.size := by omega
  have s5 : ¬ 9223372036854775807 < T.size + 1 + k.size + 1 + v.size + 1 := by omega
  have SA := Lib.hid fun w' => rsize_any k v w' go
  have DA := Lib.hid fun w' => rdec_any (szR (k, v)) (by omega) w'
  rw [← hT.out] at DA
  clear h go hb hz hts hk hv
  go_enter Tryz.func52, Tryz.ntmps52
  go_wp2_with (first | (refine wpList_box_obj rfl 84 _ rfl [.string k, .string v] rfl ?_; intro w1 g1 b1; have G1 := Lib.hid g1; have B1 := Lib.hid b1; clear g1 b1))
  have d0 : ∀ q : Of (fun w' => Below w1.heap.size w1 w'), q.w.cell? ⟨w.heap.size, 0, none⟩ = some (.string k) := fun q => (G1.out.below q.h G1.out.lt).get 0 rfl
  have d1 : ∀ q : Of (fun w' => Below w1.heap.size w1 w'), q.w.cell? ⟨w.heap.size, 1, none⟩ = some (.string v) := fun q => (G1.out.below q.h G1.out.lt).get 1 rfl
  refine wp_region_class (S := fun w' => Below w1.heap.size w1 w') (by kernel_rfl) (by kernel_rfl) (Below.refl _ _).drew ?_
  intro hne
  repeat (go_big_quiet_step (first | (go_at_call 95; exact Calls.in_class (SA.out _) fun w' hb q => q.trans (hb.mono q.size)) | (go_at_call 50; exact Calls.in_class (DA.out _) fun w' hb q => q.trans (hb.mono q.size))))
  refine wpQuiet_nil ?_
  rintro wq ⟨q, rfl⟩
  go_wp2
  go_ret
  exact ⟨rfl, B1.out.trans (Below.mono q.h B1.out.size)⟩
end Go.Proofs.YtmbimnnacjbdfaaGreatDoor.Pxr
/-
  Layer 9: the library's functions in our words: Itoa, Cut, CutSuffix.
-/
namespace Go.Proofs.YtmbimnnacjbdfaaGreatDoor.Pxr
open Go.RowKit

/-- what stands behind the first c (nothing, where there is none) -/
def aft (c : Int) (zs : List Int) : List Int := zs.drop ((bef c zs).length + 1)
theorem aft_none {c : Int} {zs : List Int} (h : c ∉ zs) : aft c zs = [] := by unfold aft; rw [bef_none h, List.drop_eq_nil_of_le (by omega)]

end Go.Proofs.YtmbimnnacjbdfaaGreatDoor.Pxr
/-
  Layer 9: the program's parseFirst.
-/
namespace Go.Proofs.YtmbimnnacjbdfaaGreatDoor.Pxr
open Go.RowKit

end Go.Proofs.YtmbimnnacjbdfaaGreatDoor.Pxr
/-
  Layer 9: the program's parseFirst, its ways together.
-/
namespace Go.Proofs.YtmbimnnacjbdfaaGreatDoor.Pxr
open Go.RowKit

/-- the record that comes back: nothing where there is an error -/
def tkX (zs : List Int) : Rec := if tkE zs = 0 then tkR zs else ({ data := #[] }, { data := #[] })

theorem bef_bd {c : Int} {zs : List Int} (h : ∀ z ∈ zs, 0 ≤ z ∧ z ≤ 255) : ∀ z ∈ bef c zs, 0 ≤ z ∧ z ≤ 255 := fun z hz => h z ((List.takeWhile_prefix _).subset hz)
theorem aft_bd {c : Int} {zs : List Int} (h : ∀ z ∈ zs, 0 ≤ z ∧ z ≤ 255) : ∀ z ∈ aft c zs, 0 ≤ z ∧ z ≤ 255 := fun z hz => h z (List.mem_of_mem_drop hz)
theorem take_bd {zs : List Int} (n : Nat) (h : ∀ z ∈ zs, 0 ≤ z ∧ z ≤ 255) : ∀ z ∈ zs.take n, 0 ≤ z ∧ z ≤ 255 := fun z hz => h z (List.mem_of_mem_take hz)
theorem bef_of_take {c : Int} {zs : List Int} {m : Nat} (h : c ∈ zs) (hm : (bef c zs).length < m) : bef c (zs.take m) = bef c zs ∧ c ∈ zs.take m := by
  obtain ⟨k, hk⟩ : ∃ k, m = (bef c zs).length + (k + 1) := ⟨m - (bef c zs).length - 1, by omega⟩
  have e : zs.take m = bef c zs ++ c :: (zs.drop ((bef c zs).length + 1)).take k := by
    conv => lhs; rw [bef_split h]
    rw [hk, List.take_length_add_append, List.take_succ_cons]
  constructor
  · rw [e, bef_app (bef_no c zs)]
  · rw [e]; simp
theorem no_of_take {c : Int} {zs : List Int} {m : Nat} (hm : m ≤ (bef c zs).length) : c ∉ zs.take m := fun h => by
  have e : zs.take m = (bef c zs).take m := by
    conv => rhs; rw [bef_take, List.take_take, Nat.min_eq_left hm]
  rw [e] at h
  exact bef_no c zs (List.mem_of_mem_take h)
theorem str_bd {zs : List Int} {m : Nat} (h : zs.length ≤ m) (hb : ∀ z ∈ zs, 0 ≤ z ∧ z ≤ 255) : (strOfNums zs).size ≤ m := by
  rw [← numsOf_length, numsOf_strOfNums hb]; exact h

end Go.Proofs.YtmbimnnacjbdfaaGreatDoor.Pxr
/-
  Layer 9: the program's Parse.
-/
namespace Go.Proofs.YtmbimnnacjbdfaaGreatDoor.Pxr
open Go.RowKit

/-- the call returned these records, this number, this error; nothing that was there in w has turned -/
def RetRecs (rs : List Rec) (N : Nat) (E : Int) (w : World) (e : Ending) (w' : World) : Prop :=
  ∃ a l c, e = .returned (.tuple #[.slice a l c, .int .i64 (N : Int), .int .i64 E]) ∧ l = rs.length ∧ l ≤ c ∧ c ≤ maxLen ∧ RecsIn w' a rs ∧ Below w.heap.size w w'
theorem RetRecs.nil {N : Nat} {E : Int} {w w' : World} (h : Below w.heap.size w w') : RetRecs [] N E w (.returned (.tuple #[.slice none 0 0, .int .i64 (N : Int), .int .i64 E])) w' :=
  ⟨none, 0, 0, rfl, rfl, Nat.le_refl _, Nat.zero_le _, .inl rfl, h⟩

/-- the same; the records lie in new memory -/
def RetRecsF (rs : List Rec) (N : Nat) (E : Int) (w : World) (e : Ending) (w' : World) : Prop :=
  ∃ a l c, e = .returned (.tuple #[.slice a l c, .int .i64 (N : Int), .int .i64 E]) ∧ l = rs.length ∧ l ≤ c ∧ c ≤ maxLen ∧ RecsIn w' a rs ∧ Below w.heap.size w w' ∧ ∀ x, a = some x → w.heap.size ≤ x.block
theorem RetRecsF.nil {N : Nat} {E : Int} {w w' : World} (h : Below w.heap.size w w') : RetRecsF [] N E w (.returned (.tuple #[.slice none 0 0, .int .i64 (N : Int), .int .i64 E])) w' :=
  ⟨none, 0, 0, rfl, rfl, Nat.le_refl _, Nat.zero_le _, .inl rfl, h, fun x hx => by cases hx⟩
theorem RetRecsF.ret {rs : List Rec} {N : Nat} {E : Int} {w w' : World} {e : Ending} (h : RetRecsF rs N E w e w') : RetRecs rs N E w e w' := by
  obtain ⟨a, l, c, h1, h2, h3, h4, h5, h6, _⟩ := h
  exact ⟨a, l, c, h1, h2, h3, h4, h5, h6⟩

theorem tkX_sz {zs : List Int} (hz : ∀ z ∈ zs, 0 ≤ z ∧ z ≤ 255) (hl : zs.length ≤ 300000) : (tkX zs).1.size ≤ 300000 ∧ (tkX zs).2.size ≤ 300000 := by
  unfold tkX
  split
  · have := kv_len zs
    obtain ⟨h1, h2⟩ := bd_of_take hz
    exact ⟨str_bd (by omega) h1, str_bd (by omega) h2⟩
  · exact ⟨Nat.zero_le _, Nat.zero_le _⟩

end Go.Proofs.YtmbimnnacjbdfaaGreatDoor.Pxr
