/-
  Layer 8: the program's Join, Split.
-/
import Derived.Test.YtmbimnnacjbdfaaGreatDoorPz14
import Derived.Test.YtmbimnnacjbdfaaGreatDoorFitPlA
import Derived.Test.YtmbimnnacjbdfaaGreatDoorPz07
import Derived.Test.YtmbimnnacjbdfaaGreatDoorPz02
import Derived.Lib.AppendStr
import Derived.Deep.RegionHeld3
namespace Go.Proofs.YtmbimnnacjbdfaaGreatDoor.Pnm
open Go.RowKit

theorem psuit (i n : Int) (w : World) (hi0 : 0 ≤ i) (hin : i < n) (hn : n ≤ 9223372036854775807) (B : Bool) (hB : B = (decide (1 ≤ i) && decide (i ≤ 155) && decide (1 ≤ n - i - 1) && decide (n - i - 1 ≤ 100))) : Calls Tryz.prog 67 #[.int .i64 i, .int .i64 n] w fun e w' => e = .returned (.bool B) ∧ w = w' := by
  have w1 : IntKind.i64.wrap (n - i) = n - i := wrapP (by omega) (by omega)
  have w2 : IntKind.i64.wrap (n - i - 1) = n - i - 1 := wrapP (by omega) (by omega)
  by_cases c1 : 1 ≤ i
  · by_cases c2 : i ≤ 155
    · by_cases c3 : 1 ≤ n - i - 1
      · have e := Lib.hid (show B = decide (n - i - 1 ≤ 100) by rw [hB, decide_eq_true c1, decide_eq_true c2, decide_eq_true c3]; rfl)
        clear hB
        go_enter Tryz.func67, Tryz.ntmps67
        go_wp2
        go_ret
        exact ⟨by rw [e.out]; rfl, rfl⟩
      · have e := Lib.hid (show B = false by rw [hB, decide_eq_true c1, decide_eq_true c2, decide_eq_false c3]; rfl)
        clear hB
        go_enter Tryz.func67, Tryz.ntmps67
        go_wp2
        go_ret
        exact ⟨by rw [e.out]; rfl, rfl⟩
    · have e := Lib.hid (show B = false by rw [hB, decide_eq_true c1, decide_eq_false c2]; rfl)
      clear hB
      go_enter Tryz.func67, Tryz.ntmps67
      go_wp2
      go_ret
      exact ⟨by rw [e.out]; rfl, rfl⟩
  · have e := Lib.hid (show B = false by rw [hB, decide_eq_false c1]; rfl)
    clear hB
    go_enter Tryz.func67, Tryz.ntmps67
    go_wp2
    go_ret
    exact ⟨by rw [e.out]; rfl, rfl⟩

set_option maxRecDepth 100000 in
set_option maxHeartbeats 4000000 in
theorem psplit (s : ByteArray) (w : World) (hs : s.size ≤ maxLen) : Calls Tryz.prog 41 #[.string s] w fun e w' => e = .returned (.tuple #[.string (strOfNums (splP (numsOf s))), .string (strOfNums (splN (numsOf s))), .bool (splB (numsOf s))]) ∧ Below w.heap.size w w' := by
  unfold maxLen at hs
  obtain ⟨P, hP⟩ := named (strOfNums (splP (numsOf s)))
  obtain ⟨N, hN⟩ := named (strOfNums (splN (numsOf s)))
  obtain ⟨B, hB⟩ := named (splB (numsOf s))
  rw [← hP.out, ← hN.out, ← hB.out]
  have NL := Lib.hid (numsOf_length s)
  by_cases h1 : s.size ≤ 100
  · have h1' : (s.size : Int) ≤ 100 := by omega
    have e1 : Hid (P = { data := #[] } ∧ N = s ∧ B = true) := by
      show _ ∧ _ ∧ _
      have hl : (numsOf s).length ≤ 100 := by rw [NL.out]; exact h1
      refine ⟨?_, ?_, ?_⟩
      · rw [hP.out]; unfold splP; rw [if_pos hl]; rfl
      · rw [hN.out]; unfold splN; rw [if_pos hl, strOfNums_numsOf]
      · rw [hB.out]; unfold splB; rw [if_pos hl]
    clear h1
    go_enter Tryz.func41, Tryz.ntmps41
    go_wp2
    go_ret3
    obtain ⟨q1, q2, q3⟩ := e1.out
    rw [q1, q2, q3]
    exact ⟨rfl, Below.refl _ _⟩
  · have h1' : ¬ (s.size : Int) ≤ 100 := by omega
    have hl : ¬ (numsOf s).length ≤ 100 := by rw [NL.out]; exact h1
    have FN : Hid ((∀ k, ¬ sufS (numsOf s) k) → P = { data := #[] } ∧ N = { data := #[] } ∧ B = false) := fun h => by
      have e := splI_no h
      refine ⟨?_, ?_, ?_⟩
      · rw [hP.out]; unfold splP; rw [if_neg hl, e]; rfl
      · rw [hN.out]; unfold splN; rw [if_neg hl, e]; rfl
      · rw [hB.out]; unfold splB; rw [if_neg hl, e]; rfl
    have FS : Hid (∀ j, sufS (numsOf s) j → (∀ k, k < j → ¬ sufS (numsOf s) k) → P = s.extract 0 j ∧ N = s.extract (j + 1) s.size ∧ B = true) := fun j h h' => by
      have e := splI_first h h'
      refine ⟨?_, ?_, ?_⟩
      · rw [hP.out]; unfold splP; rw [if_neg hl, e, ext_str]; rfl
      · rw [hN.out]; unfold splN; rw [if_neg hl, e, ext_str, List.take_of_length_le (by rw [List.length_drop, NL.out]; exact Nat.le_refl _)]
      · rw [hB.out]; unfold splB; rw [if_neg hl, e]; rfl
    have HA : Hid (∀ j (h : j < s.size), (numsOf s).getD j 0 = (s[j].toNat : Int)) := num_at s
    clear hP hN hB hl
    go_enter Tryz.func41, Tryz.ntmps41
    go_wp2_with fail
    go_loopw [12] (fun i wr => ∃ j : Nat, j ≤ s.size ∧ i = .int .i64 j ∧ (∀ k, k < j → ¬ sufS (numsOf s) k) ∧ wr = w) (fun i _ => s.size + 1 - (intOf i).toNat)
    case atStart => exact ⟨0, Nat.zero_le _, rfl, fun k hk h => by omega, rfl⟩
    case round =>
      obtain ⟨j, hj3, rfl, hn, rfl⟩ := hrel
      have HNO := Lib.hid hn
      clear hn
      by_cases l1 : j < s.size
      · have m1 : (j : Int) < s.size := by omega
        have hx := HA.out j l1
        obtain ⟨x, hxe⟩ : ∃ x : Int, ((s[j].toNat : Nat) : Int) = x := ⟨_, rfl⟩
        rw [hxe] at hx
        by_cases hsf : sufS (numsOf s) j
        · obtain ⟨q1, q2, q3⟩ := FS.out j hsf HNO.out
          obtain ⟨a1, a2, a3, a4, a5⟩ := hsf
          rw [NL.out] at a3 a4
          have m3 : (x == 47) = true := by rw [← hx, a5]; rfl
          have m6 : (j : Int) + 1 ≤ s.size := by omega
          have Q := Lib.hid (And.intro q1 (And.intro q2 q3))
          have S := Lib.hid (psuit j s.size wr (by omega) m1 (by omega) true (by rw [decide_eq_true (show (1 : Int) ≤ j by omega), decide_eq_true (show (j : Int) ≤ 155 by omega), decide_eq_true (show (1 : Int) ≤ (s.size : Int) - j - 1 by omega), decide_eq_true (show (s.size : Int) - j - 1 ≤ 100 by omega)]; rfl))
          clear hx q1 q2 q3 a1 a2 a3 a4 a5
          go_wp2_with fail
          refine S.out.mono ?_; rintro e w1 ⟨rfl, rfl⟩
          go_wp2_with fail
          go_quiet (fail)
          go_wp2
          go_ret3
          obtain ⟨q1, q2, q3⟩ := Q.out
          rw [q1, q2, q3]
          exact ⟨rfl, drewN_below _ _ _⟩
        · have HN1 : Hid (∀ k, k < j + 1 → ¬ sufS (numsOf s) k) := fun k hk => by
            by_cases e : k = j
            · rw [e]; exact hsf
            · exact HNO.out k (by omega)
          by_cases c1 : x = 47
          · have m3 : (x == 47) = true := by rw [c1]; rfl
            have S := Lib.hid (psuit j s.size wr (by omega) m1 (by omega) false (by
              symm
              rcases Bool.eq_false_or_eq_true (decide ((1 : Int) ≤ j) && decide ((j : Int) ≤ 155) && decide ((1 : Int) ≤ (s.size : Int) - j - 1) && decide ((s.size : Int) - j - 1 ≤ 100)) with h | h
              · exfalso
                simp only [Bool.and_eq_true, decide_eq_true_eq] at h
                exact hsf ⟨by omega, by omega, by rw [NL.out]; omega, by rw [NL.out]; omega, by rw [hx]; exact c1⟩
              · exact h))
            clear hx hsf c1
            go_wp2_with fail
            refine S.out.mono ?_; rintro e w1 ⟨rfl, rfl⟩
            go_wp2_with fail
            go_roundw
            case rel => exact ⟨j + 1, by omega, by go_num, HN1.out, trivial⟩
            case measure => simp [intOf]; omega
          · have m3 : (x == 47) = false := by simpa using c1
            clear hx hsf c1
            go_wp2_with fail
            go_roundw
            case rel => exact ⟨j + 1, by omega, by go_num, HN1.out, trivial⟩
            case measure => simp [intOf]; omega
      · obtain rfl : j = s.size := by omega
        have e1 := Lib.hid (FN.out fun k hk => if h : k < s.size then HNO.out k h hk else by have := hk.2.2.1; rw [NL.out] at this; omega)
        go_wp2
        go_ret3
        obtain ⟨q1, q2, q3⟩ := e1.out
        rw [q1, q2, q3]
        exact ⟨rfl, Below.refl _ _⟩
end Go.Proofs.YtmbimnnacjbdfaaGreatDoor.Pnm
/-
  Layer 10: Plan, the program's and the reference's.
-/
namespace Go.Proofs.YtmbimnnacjbdfaaGreatDoor.Fit
open Go.RowKit Pxr Pnm

/-- what Plan answers -/
def plHz (e : Ent) : Hd := if ckE e = 0 then plH e else ⟨0, emp, emp, emp, 0, 0⟩
def plLz (e : Ent) : List Rec := if ckE e = 0 then plL e else []
abbrev RetP (e : Ent) (w : World) : Ending → World → Prop := RetPl (plHz e).T (plHz e).nm (plHz e).pf (plHz e).lk (plHz e).md (plHz e).sz (plLz e) (ckE e) w
theorem spl_no {p : ByteArray} (h : ¬ splB (numsOf p) = true) : strOfNums (splP (numsOf p)) = emp ∧ strOfNums (splN (numsOf p)) = emp := by
  rcases spl_cases p with ⟨a, _⟩ | ⟨a, _⟩ | ⟨_, a, b, _⟩
  · exact absurd a h
  · exact absurd a h
  · rw [a, b]; exact ⟨rfl, rfl⟩
theorem pl_good_eq {e : Ent} (h : ckE e = 0) : plHz e = plH e ∧ plLz e = plL e := by unfold plHz plLz; rw [if_pos h, if_pos h]; exact ⟨rfl, rfl⟩
theorem pl_bad_eq {e : Ent} (h : ckE e ≠ 0) : plHz e = ⟨0, emp, emp, emp, 0, 0⟩ ∧ plLz e = [] := by unfold plHz plLz; rw [if_neg h, if_neg h]; exact ⟨rfl, rfl⟩

theorem fmtI_any (n : Nat) (hn : n ≤ 9223372036854775807) (w : World) (V : Vars w) : Calls Tryz.prog 42 #[.int .i64 (n : Int), .int .i64 10] w fun e w' => e = .returned (.string (strOfNums (decD n))) ∧ Below w.heap.size w w' := by
  refine (Tryz.strconv_FormatInt_10 (n : Int) (by omega) (by omega) w V.tab).mono ?_
  rintro e w' ⟨rfl, k, os, rfl⟩
  exact ⟨by rw [Lib.itoa_nonneg, str_decD], grow_below w k os (Nat.le_refl _)⟩

set_option maxRecDepth 100000 in
set_option maxHeartbeats 4000000 in
theorem ppl_bad (k : Int) (p : ByteArray) (m : Int) (t : ByteArray) (s : Int) (w : World) (E : Int) (h0 : (E != 0) = true)
    (C1 : Hid (∀ w', Below w.heap.size w w' → Calls Tryz.prog 40 #[.agg (enV k p m t s).toArray] w' fun e w'' => e = .returned (.int .i64 E) ∧ Below w'.heap.size w' w'')) :
    Calls Tryz.prog 24 #[.agg (enV k p m t s).toArray] w (RetPl 0 emp emp emp 0 0 [] E w) := by
  have HO := Lib.hid hdTp
  have HZ := Lib.hid zHp
  go_enter Tryz.func24, Tryz.ntmps24
  go_wp2_with (first | (refine wpList_box_obj rfl 24 _ rfl (enV k p m t s) rfl ?_; intro w1 g1 b1; have H1 := Lib.hid g1; have B1 := Lib.hid b1; clear g1 b1) | (refine wpList_alloc_obj rfl 63 rfl Ust.hd0 HZ.out ?_; intro w2 g2 b2; have R2 := Lib.hid g2; have E2 := Lib.hid (H1.out.below b2 H1.out.lt); have B2 := Lib.hid (belT B1.out b2); have c0 := E2.out.get 0 rfl; have c1 := E2.out.get 1 rfl; have c2 := E2.out.get 2 rfl; have c3 := E2.out.get 3 rfl; have c4 := E2.out.get 4 rfl; clear g2 b2))
  refine (C1.out w2 B2.out).mono ?_; rintro e w3 ⟨rfl, b3⟩
  have R3 := Lib.hid (R2.out.below b3 R2.out.lt)
  have B3 := Lib.hid (belT B2.out b3)
  have N1 : Hid (w.heap.size < w1.heap.size) := H1.out.lt
  clear b3 c0 c1 c2 c3 c4
  go_wp2_with (first | (refine wpList_store_obj rfl 63 _ _ rfl w1.heap.size rfl Ust.hd0 Ust.hd0 rfl 63 R3.out HO.out.2 rfl (hd_one _ _ _ _ _ _) ?_; intro w4 g4 t4; have R4 := Lib.hid g4; have T4 := Lib.hid t4; clear g4 t4))
  exact bodyPost_ret (results_obj_two Tryz.results24 HO.out _ w1.heap.size rfl _ Ust.hd0 R4.out rfl) rfl (.nil (B3.out.trans (T4.out.below (Nat.le_of_lt N1.out))))

theorem pplan_any (e : Ent) (w : World) (V : FVars w) (hp : e.p.size ≤ maxLen) (ht : e.t.size ≤ maxLen) : Calls Tryz.prog 24 #[.agg (enV e.k e.p e.m e.t e.s).toArray] w (RetP e w) := by
  obtain ⟨k, p, m, t, s⟩ := e
  dsimp only at hp ht ⊢
  have C1 : Hid (∀ w', Below w.heap.size w w' → Calls Tryz.prog 40 #[.agg (enV k p m t s).toArray] w' fun e w'' => e = .returned (.int .i64 (ckE ⟨k, p, m, t, s⟩)) ∧ Below w'.heap.size w' w'') := fun w' hb => pcheck_any k p m t s w' (V.go hb) hp ht
  by_cases h : ckE ⟨k, p, m, t, s⟩ = 0
  · have hok := ck_ok.1 h
    rw [h] at C1
    obtain ⟨e1, e2⟩ := pl_good_eq h
    have KG : Hid (∀ w', Below w.heap.size w w' → w'.cell? ⟨0, k.toNat, none⟩ = some (.int .u8 (tyZ k))) := fun w' hb => (V.go hb).ty hok.k0 hok.k4
    have C2 : Hid (∀ w', Calls Tryz.prog 41 #[.string p] w' fun e w'' => e = .returned (.tuple #[.string (strOfNums (splP (numsOf p))), .string (strOfNums (splN (numsOf p))), .bool (splB (numsOf p))]) ∧ Below w'.heap.size w' w'') := fun w' => Pnm.psplit p w' hp
    have C3 : Hid (∀ w', Below w.heap.size w w' → Calls Tryz.prog 42 #[.int .i64 s, .int .i64 10] w' fun e w'' => e = .returned (.string (strOfNums (decD s.toNat))) ∧ Below w'.heap.size w' w'') := fun w' hb => by
      obtain ⟨s0, s1, _⟩ := sz_cases hok.sz
      have := fmtI_any s.toNat (by dsimp only at s0 s1; omega) w' (V.go hb).v
      rwa [show ((s.toNat : Nat) : Int) = s by dsimp only at s0; omega] at this
    unfold RetP
    rw [e1, e2, h]
    unfold plH plL plT plP plS
    dsimp only
    exact ppl_all k p m t s w _ _ _ _ _ (splB (numsOf p)) _ _ hok.k0 hok.k4 KG C1 C2 C3 (fun h => ⟨(spl_no (by rw [h]; decide)).2, (spl_no (by rw [h]; decide)).1⟩) rfl rfl rfl
  · obtain ⟨e1, e2⟩ := pl_bad_eq h
    unfold RetP
    rw [e1, e2]
    exact ppl_bad k p m t s w _ (by simpa using h) C1
end Go.Proofs.YtmbimnnacjbdfaaGreatDoor.Fit
/-
  'append(b, s...)' of a string onto bytes of the call's own, in a region that draws its order and in a walk. Nothing of the program.
-/
namespace Go.Proofs.YtmbimnnacjbdfaaGreatDoor
open Go.RowKit Go.Lib

theorem strCells_nums (s : ByteArray) : strCells s = (numsOf s).map (.int .u8) := by
  unfold strCells; rw [numsOf_eq, List.map_map]; rfl
theorem own_blockN {w : World} {base n size : Nat} {e : TypeId} {v : Value} {xs : List Value} (h : w.ownsRow base e size v n xs) : ∀ k, v.ownBlock = some k → base ≤ k ∧ k < w.heap.size := by
  intro k hk
  rcases h.2 with ⟨h', _⟩ | ⟨g', cap', cur, hv, hb', hh, _⟩
  · rw [h'] at hk; cases hk
  · rw [hv] at hk
    obtain rfl : g' = k := by simpa [Value.ownBlock] using hk
    exact ⟨hb', (Array.getElem?_eq_some_iff.1 hh).1⟩

section
variable {P : Program} {w : World} {ops : Array Oper} {o : Oper} {a : Act} {Q : Exit → Act → World → Prop}
theorem step_append_str {K : Act → World → Prop} {E : Prop} (hgd : o.guard = none) (s x : Operand) (t u : TypeId)
    (ho : o.op = .call { callee := .builtin .append, args := #[s, x], argTypes := #[t, u] })
    (base : Nat) (e : TypeId) (i0 : TypeInfo) (hT : P.underlying t = some (.slice e)) (hU : P.underlying u = some .string) (hI : Hid (P.info? e = some i0 ∧ i0.zero = some (.int .u8 0) ∧ i0.size = 1 ∧ i0.bytes = 1))
    (v : Value) (n : Nat) (zs : List Int) (hs : a.eval s = v) (hown : w.ownsRow base e 1 v n (zs.map (.int .u8))) (str : ByteArray) (hx : a.eval x = .string str) (h47 : n + str.size ≤ 140737488355328) (hbase : base ≤ w.heap.size)
    (h : ∀ v' w', w'.ownsRow base e 1 v' (n + str.size) ((zs ++ numsOf str).map (.int .u8)) → Below base w w' → (∀ k, k < w.heap.size → some k ≠ v.ownBlock → w'.heap[k]? = w.heap[k]?) → K (a.put o.dst v') w') :
    if Region.wanted o (yielded ops a.tmps) = true then Oper.wp P o a w K Q else E := by
  have hw : Region.wanted o (yielded ops a.tmps) = true := by simp [Region.wanted, hgd]
  rw [if_pos hw]
  obtain ⟨v', w', hr, h1, h2, _⟩ := run_append_own_string (P := P) (w := w) base t u o.type e i0 hT hU hI.out.1 hI.out.2.1 hI.out.2.2.1 hI.out.2.2.2 v n _ hown str (by unfold maxLen; omega) h47 hbase
  unfold Oper.wp
  simp [execOp, ho, resolve, invoke, builtin, hs, hx, hr, Result.andThen]
  exact h v' w' (by rw [List.map_append, ← strCells_nums]; exact h1) ((Below.refl _ _).grown h2 hbase fun k hk => (own_blockN hown k hk).1) (fun k hk hr' => h2.block k hk hr')
end
end Go.Proofs.YtmbimnnacjbdfaaGreatDoor
