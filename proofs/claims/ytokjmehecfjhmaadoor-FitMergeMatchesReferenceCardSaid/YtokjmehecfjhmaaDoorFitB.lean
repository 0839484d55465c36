/-
  Layer 10: the program's checkTarget, checkSize, Check.
-/
import Derived.Test.YtokjmehecfjhmaaDoorFitA
import Derived.Test.YtokjmehecfjhmaaDoorPxrChk
import Derived.Test.YtokjmehecfjhmaaDoorPnmChk
import Derived.Test.YtokjmehecfjhmaaDoorPxrEqr
import Derived.Test.YtokjmehecfjhmaaDoorFitP1
import Derived.Test.YtokjmehecfjhmaaDoorFitP2
import Derived.Test.YtokjmehecfjhmaaDoorPnmSJ
import Derived.Test.YtokjmehecfjhmaaDoorPxrItoa
namespace Go.Proofs.YtokjmehecfjhmaaDoor.Fit
open Go.RowKit Pxr Pnm

theorem chk_link (t : ByteArray) : chk (kLink, t) = chkT t := by unfold chk; rw [if_pos (.inl rfl)]

set_option maxHeartbeats 1000000 in
theorem ptarget_any (k : Int) (t : ByteArray) (w : World) (V : FVars w) (ht : t.size ≤ maxLen) : Calls Tryd.prog 27 #[.int .i64 k, .string t] w fun e w' => e = .returned (.int .i64 (tgE k t)) ∧ Below w.heap.size w w' := by
  have H1 := Lib.hid (Pxr.check_any kLink t w V.v ht)
  have H2 := Lib.hid (Pnm.pcheck t w ht)
  rw [chk_link] at H1
  obtain ⟨R, hR⟩ := named (tgE k t)
  rw [← hR.out]
  clear V ht
  by_cases h2 : k = 2
  · subst h2
    have e : R = chkT t := by rw [hR.out]; unfold tgE; rw [if_pos rfl]
    rw [← e] at H1
    clear hR e H2
    go_enter Tryd.func27, Tryd.ntmps27
    go_wp2_with fail
    refine H1.out.mono ?_; rintro e w1 ⟨rfl, b⟩
    have B := Lib.hid b; clear b
    go_wp2
    go_ret
    exact ⟨rfl, B.out⟩
  · have n2 : (k == 2) = false := by simpa using h2
    by_cases h3 : k = 3
    · subst h3
      have e : R = chE (numsOf t) := by rw [hR.out]; unfold tgE; rw [if_neg (by decide), if_pos rfl]
      rw [← e] at H2
      clear hR e H1
      go_enter Tryd.func27, Tryd.ntmps27
      go_wp2_with fail
      refine H2.out.mono ?_; rintro e w1 ⟨rfl, b⟩
      have B := Lib.hid b; clear b
      go_wp2
      go_ret
      exact ⟨rfl, B.out⟩
    · have n3 : (k == 3) = false := by simpa using h3
      have e : R = if t = emp then 0 else 2 := by rw [hR.out]; unfold tgE; rw [if_neg h2, if_neg h3]
      clear hR H1 H2 h2 h3
      by_cases ht : t = emp
      · rw [if_pos ht] at e
        subst e; subst ht
        go_enter Tryd.func27, Tryd.ntmps27
        go_wp2
        go_ret
        exact ⟨rfl, Below.refl _ _⟩
      · rw [if_neg ht] at e
        have hi := empty_no ht
        clear ht
        subst e
        go_enter Tryd.func27, Tryd.ntmps27
        go_wp2
        go_ret
        exact ⟨rfl, Below.refl _ _⟩

set_option maxHeartbeats 1000000 in
theorem psize_any (k s : Int) (w : World) : Calls Tryd.prog 28 #[.int .i64 k, .int .i64 s] w fun e w' => e = .returned (.int .i64 (szE k s)) ∧ w = w' := by
  obtain ⟨R, hR⟩ := named (szE k s)
  rw [← hR.out]
  by_cases h1 : k = 1
  · subst h1
    have e : R = if s < 0 ∨ 1099511627776 < s then 3 else 0 := by rw [hR.out]; unfold szE; rw [if_pos rfl]
    clear hR
    by_cases c1 : s < 0
    · rw [if_pos (.inl c1)] at e; subst e
      go_enter Tryd.func28, Tryd.ntmps28
      go_wp2
      go_ret
      exact ⟨rfl, rfl⟩
    · by_cases c2 : 1099511627776 < s
      · rw [if_pos (.inr c2)] at e; subst e
        go_enter Tryd.func28, Tryd.ntmps28
        go_wp2
        go_ret
        exact ⟨rfl, rfl⟩
      · rw [if_neg (by omega)] at e; subst e
        go_enter Tryd.func28, Tryd.ntmps28
        go_wp2
        go_ret
        exact ⟨rfl, rfl⟩
  · have n1 : (k == 1) = false := by simpa using h1
    have n1' : (k != 1) = true := by simpa using h1
    have e : R = if s = 0 then 0 else 2 := by rw [hR.out]; unfold szE; rw [if_neg h1]
    clear hR h1
    by_cases c1 : s = 0
    · rw [if_pos c1] at e; subst e; subst c1
      go_enter Tryd.func28, Tryd.ntmps28
      go_wp2
      go_ret
      exact ⟨rfl, rfl⟩
    · rw [if_neg c1] at e; subst e
      have n2 : (s != 0) = true := by simpa using c1
      go_enter Tryd.func28, Tryd.ntmps28
      go_wp2
      go_ret
      exact ⟨rfl, rfl⟩

set_option maxRecDepth 100000 in
set_option maxHeartbeats 4000000 in
theorem pcheck_any (k : Int) (p : ByteArray) (m : Int) (t : ByteArray) (s : Int) (w : World) (V : FVars w) (hp : p.size ≤ maxLen) (ht : t.size ≤ maxLen) :
    Calls Tryd.prog 16 #[.agg (enV k p m t s).toArray] w fun e w' => e = .returned (.int .i64 (ckE ⟨k, p, m, t, s⟩)) ∧ Below w.heap.size w w' := by
  obtain ⟨R, hR⟩ := named (ckE ⟨k, p, m, t, s⟩)
  obtain ⟨E1, h1⟩ := named (chE (numsOf p))
  obtain ⟨E2, h2⟩ := named (tgE k t)
  obtain ⟨E3, h3⟩ := named (szE k s)
  have HR : Hid (R = if k < 0 ∨ 4 ≤ k then 8 else if E1 ≠ 0 then E1 else if m < 0 ∨ 4095 < m ∨ (k = 2 ∧ m ≠ 0) then 16 else if E2 ≠ 0 then E2 else E3) := by
    show _ = _; rw [hR.out, h1.out, h2.out, h3.out]; rfl
  have C1 : Hid (∀ w', Calls Tryd.prog 21 #[.string p] w' fun e w'' => e = .returned (.int .i64 E1) ∧ Below w'.heap.size w' w'') := fun w' => by rw [h1.out]; exact Pnm.pcheck p w' hp
  have C2 : Hid (∀ w', Below w.heap.size w w' → Calls Tryd.prog 27 #[.int .i64 k, .string t] w' fun e w'' => e = .returned (.int .i64 E2) ∧ Below w'.heap.size w' w'') := fun w' hb => by rw [h2.out]; exact ptarget_any k t w' (V.go hb) ht
  have C3 : Hid (∀ w', Calls Tryd.prog 28 #[.int .i64 k, .int .i64 s] w' fun e w'' => e = .returned (.int .i64 E3) ∧ w' = w'') := fun w' => by rw [h3.out]; exact psize_any k s w'
  rw [← hR.out]
  clear hR h1 h2 h3 V hp ht
  by_cases k0 : k < 0
  · have e := HR.out; rw [if_pos (.inl k0)] at e; subst e; clear HR C1 C2 C3
    go_enter Tryd.func16, Tryd.ntmps16
    go_wp2_with (first | (refine wpList_box_obj rfl 23 _ rfl (enV k p m t s) rfl ?_; intro w1 g1 b1; have B1 := Lib.hid b1; have c0 := g1.get 0 rfl; clear g1 b1))
    go_ret
    exact ⟨rfl, B1.out⟩
  by_cases k4 : 4 ≤ k
  · have e := HR.out; rw [if_pos (.inr k4)] at e; subst e; clear HR C1 C2 C3
    go_enter Tryd.func16, Tryd.ntmps16
    go_wp2_with (first | (refine wpList_box_obj rfl 23 _ rfl (enV k p m t s) rfl ?_; intro w1 g1 b1; have B1 := Lib.hid b1; have c0 := g1.get 0 rfl; clear g1 b1))
    go_ret
    exact ⟨rfl, B1.out⟩
  go_enter Tryd.func16, Tryd.ntmps16
  go_wp2_with (first | (refine wpList_box_obj rfl 23 _ rfl (enV k p m t s) rfl ?_; intro w1 g1 b1; have H1 := Lib.hid g1; have B1 := Lib.hid b1; have c0 := g1.get 0 rfl; have c1 := g1.get 1 rfl; clear g1 b1))
  refine (C1.out w1).mono ?_; rintro e w2 ⟨rfl, b2⟩
  have H2 := Lib.hid (H1.out.below b2 H1.out.lt); have B2 := Lib.hid (belT B1.out b2)
  clear b2 c0 c1
  by_cases z1 : E1 = 0
  · subst z1
    have HR' : Hid (R = if m < 0 ∨ 4095 < m ∨ (k = 2 ∧ m ≠ 0) then 16 else if E2 ≠ 0 then E2 else E3) := by
      have e := HR.out; rw [if_neg (by omega), if_neg (by simp)] at e; exact e
    clear HR
    have c0 := H2.out.get 0 rfl
    have c2 := H2.out.get 2 rfl
    by_cases m0 : m < 0
    · have e := HR'.out; rw [if_pos (.inl m0)] at e; subst e
      go_wp2_with fail
      go_ret
      exact ⟨rfl, B2.out⟩
    by_cases m1 : 4095 < m
    · have e := HR'.out; rw [if_pos (.inr (.inl m1))] at e; subst e
      go_wp2_with fail
      go_ret
      exact ⟨rfl, B2.out⟩
    by_cases k2 : k = 2 ∧ m ≠ 0
    · have e := HR'.out; rw [if_pos (.inr (.inr k2))] at e; subst e
      obtain ⟨rfl, hm⟩ := k2
      have n2 : (m != 0) = true := by simpa using hm
      go_wp2_with fail
      go_ret
      exact ⟨rfl, B2.out⟩
    have HR2 : Hid (R = if E2 ≠ 0 then E2 else E3) := by
      have e := HR'.out; rw [if_neg (by omega)] at e; exact e
    clear HR'
    have c3 := H2.out.get 3 rfl
    have hk : (k == 2) = false ∨ (k = 2 ∧ m = 0) := by
      by_cases h : k = 2
      · exact .inr ⟨h, by omega⟩
      · exact .inl (by simpa using h)
    clear C1 k0 k4 k2
    rcases hk with n2 | ⟨rfl, rfl⟩
    all_goals
      go_wp2_with fail
      refine (C2.out w2 B2.out).mono ?_; rintro e w3 ⟨rfl, b3⟩
      have H3 := Lib.hid (H2.out.below b3 H2.out.lt); have B3 := Lib.hid (belT B2.out b3)
      clear b3 c0 c2 c3
      by_cases z2 : E2 = 0
      · subst z2
        have e := HR2.out; rw [if_neg (by simp)] at e; subst e
        have c0 := H3.out.get 0 rfl
        have c4 := H3.out.get 4 rfl
        go_wp2_with fail
        refine (C3.out w3).mono ?_; rintro e w4 ⟨rfl, rfl⟩
        go_wp2
        go_ret
        exact ⟨rfl, B3.out⟩
      · have e := HR2.out; rw [if_pos z2] at e; subst e
        have n3 : (R != 0) = true := by simpa using z2
        clear HR2 z2
        go_wp2_with fail
        go_ret
        exact ⟨rfl, B3.out⟩
  · have e := HR.out; rw [if_neg (by omega), if_pos z1] at e; subst e
    have n1 : (R != 0) = true := by simpa using z1
    clear HR z1
    go_wp2_with fail
    go_ret
    exact ⟨rfl, B2.out⟩
end Go.Proofs.YtokjmehecfjhmaaDoor.Fit
/-
  Layer 10: entries and records compared; slices.Equal and the reference's Same on any two slices of records.
-/
namespace Go.Proofs.YtokjmehecfjhmaaDoor.Fit
open Go.RowKit Pxr Pnm

theorem run_eqRR (k v k' v' : ByteArray) (w : World) :
    (Op.equalIn 10000 38 (.agg #[.string k, .string v]) (.agg #[.string k', .string v'])).run Tryd.prog w = .ok (decide (k = k' ∧ v = v')) w := by
  have ht := Tryd.underlying38
  have hf : Tryd.prog.fieldsOf 38 = recFs := by unfold Program.fieldsOf; rw [ht]; rfl
  rw [run_equalIn_struct w 9999 38 _ _ (by rw [hf]; exact ht) (by kernel_rfl), hf]
  have u9 := Tryd.underlying9
  by_cases h1 : k = k'
  · subst h1
    by_cases h2 : v = v'
    · subst h2; simp [recFs, Op.eqFields, part, isAgg, u9, go_sem]
    · have := bytes_neq h2
      simp [recFs, Op.eqFields, part, isAgg, u9, h2, this, go_sem]
  · have := bytes_neq h1
    simp [recFs, Op.eqFields, part, isAgg, u9, h1, this, go_sem]

def entFs : Array Field := #[{ name := "Kind", type := 3, offset := 0, embedded := false, tag := "", pkgPath := "", byteOffset := 0 }, { name := "Path", type := 9, offset := 1, embedded := false, tag := "", pkgPath := "", byteOffset := 8 },
  { name := "Mode", type := 3, offset := 2, embedded := false, tag := "", pkgPath := "", byteOffset := 24 }, { name := "Target", type := 9, offset := 3, embedded := false, tag := "", pkgPath := "", byteOffset := 32 },
  { name := "Size", type := 2, offset := 4, embedded := false, tag := "", pkgPath := "", byteOffset := 48 }]
theorem run_eqE (k : Int) (p : ByteArray) (m : Int) (t : ByteArray) (s : Int) (k' : Int) (p' : ByteArray) (m' : Int) (t' : ByteArray) (s' : Int) (w : World) :
    (Op.equalIn 10000 23 (.agg (enV k p m t s).toArray) (.agg (enV k' p' m' t' s').toArray)).run Tryd.prog w = .ok (decide (k = k' ∧ p = p' ∧ m = m' ∧ t = t' ∧ s = s')) w := by
  have ht := Tryd.underlying23
  have hf : Tryd.prog.fieldsOf 23 = entFs := by unfold Program.fieldsOf; rw [ht]; rfl
  rw [run_equalIn_struct w 9999 23 _ _ (by rw [hf]; exact ht) (by kernel_rfl), hf]
  have u9 := Tryd.underlying9
  have u3 := Tryd.underlying3
  have u2 := Tryd.underlying2
  by_cases h1 : k = k'
  · subst h1
    by_cases h2 : p = p'
    · subst h2
      by_cases h3 : m = m'
      · subst h3
        by_cases h4 : t = t'
        · subst h4
          by_cases h5 : s = s'
          · subst h5; simp [entFs, Op.eqFields, part, isAgg, u9, u3, u2, go_sem]
          · simp [entFs, Op.eqFields, part, isAgg, u9, u3, u2, h5, go_sem]
        · have := bytes_neq h4
          simp [entFs, Op.eqFields, part, isAgg, u9, u3, u2, h4, this, go_sem]
      · simp [entFs, Op.eqFields, part, isAgg, u9, u3, u2, h3, go_sem]
    · have := bytes_neq h2
      simp [entFs, Op.eqFields, part, isAgg, u9, u3, u2, h2, this, go_sem]
  · simp [entFs, Op.eqFields, part, isAgg, u9, u3, u2, h1, go_sem]

theorem ne_at {rs qs : List Rec} {j : Nat} {r q : Rec} (h1 : rs[j]? = some r) (h2 : qs[j]? = some q) (hne : ¬ (r.1 = q.1 ∧ r.2 = q.2)) : decide (rs = qs) = false := by
  rw [decide_eq_false_iff_not]
  rintro rfl
  rw [h1] at h2
  cases h2
  exact hne ⟨rfl, rfl⟩
theorem eq_all {rs qs : List Rec} {n : Nat} (h1 : rs.length = n) (h2 : qs.length = n) (h : ∀ i, i < n → rs[i]? = qs[i]?) : decide (rs = qs) = true := by
  rw [decide_eq_true_eq]
  refine List.ext_getElem? fun i => ?_
  by_cases hi : i < n
  · exact h i hi
  · rw [List.getElem?_eq_none (by omega), List.getElem?_eq_none (by omega)]

set_option maxHeartbeats 2000000 in
set_option maxRecDepth 100000 in
/-- slices.Equal -/
theorem eqr_any (a : Option Addr) (n c : Nat) (b : Option Addr) (m d : Nat) (rs qs : List Rec) (w : World) (hn : rs.length = n) (hm : qs.length = m) (hA : RecsIn w a rs) (hB : RecsIn w b qs) (h9 : n ≤ 1000000000) :
    Calls Tryd.prog 15 #[.slice a n c, .slice b m d] w fun e w' => e = .returned (.bool (decide (rs = qs))) ∧ Below w.heap.size w w' := by
  by_cases hnm : n = m
  · subst hnm
    obtain ⟨R, hR⟩ := named (decide (rs = qs))
    rw [← hR.out]
    have HA := Lib.hid hA; have HB := Lib.hid hB; have HN := Lib.hid hn; have HM := Lib.hid hm
    have hq : ∀ k v k' v' w, (Op.equalIn 10000 38 (.agg #[.string k, .string v]) (.agg #[.string k', .string v'])).run Tryd.prog w = .ok (decide (k = k' ∧ v = v')) w := fun k v k' v' w => run_eqRR k v k' v' w
    have HQ := Lib.hid hq
    have hg : Tryd.prog.eqGuardType Tryd.prog.depth 38 = false := by kernel_rfl
    clear hA hB hn hm hq
    go_enter Tryd.func15, Tryd.ntmps15
    go_wp2
    go_loopw [13] (fun i wr => ∃ j : Nat, i = .int .i64 j ∧ j ≤ n ∧ (∀ q, q < j → rs[q]? = qs[q]?) ∧ Below w.heap.size w wr) (fun i _ => n - (intOf i).toNat)
    case atStart => exact ⟨0, rfl, Nat.zero_le _, fun q hq => by omega, Below.refl _ _⟩
    case round =>
      obtain ⟨j, rfl, hj, hd, hb⟩ := hrel
      have HL := Lib.hid hb
      have HD := Lib.hid hd
      clear hb hd
      by_cases hjn : j < n
      · obtain ⟨r, hr⟩ := get_some (show j < rs.length by rw [HN.out]; exact hjn)
        obtain ⟨q, hq⟩ := get_some (show j < qs.length by rw [HM.out]; exact hjn)
        obtain ⟨K, D⟩ := r
        obtain ⟨K', D'⟩ := q
        obtain ⟨b1, o1, rfl, _, c0', c1'⟩ := (HA.out.below HL.out).get j _ hr
        obtain ⟨b2, o2, rfl, _, d0', d1'⟩ := (HB.out.below HL.out).get j _ hq
        have c0 : wr.cell? ⟨b1, o1 + j * 2, none⟩ = some (.string K) := c0'
        have c1 : wr.cell? ⟨b1, o1 + j * 2 + 1, none⟩ = some (.string D) := c1'
        have d0 : wr.cell? ⟨b2, o2 + j * 2, none⟩ = some (.string K') := d0'
        have d1 : wr.cell? ⟨b2, o2 + j * 2 + 1, none⟩ = some (.string D') := d1'
        have j1 : (j : Int) < n := by omega
        have HR0 := Lib.hid hr
        have HQ0 := Lib.hid hq
        clear c0' c1' d0' d1' hr hq hjn
        by_cases he : K = K' ∧ D = D'
        · obtain ⟨rfl, rfl⟩ := he
          have hq1 : ∀ w, (Op.equalIn 10000 38 (.agg #[.string K, .string D]) (.agg #[.string K, .string D])).run Tryd.prog w = .ok true w := fun w => by rw [HQ.out]; simp
          go_wp2_with fail
          go_quiet (fail)
          go_wp2
          go_roundw
          case rel => exact ⟨j + 1, by go_num, by omega, fun q hq => by
            by_cases h' : q < j
            · exact HD.out q h'
            · obtain rfl : q = j := by omega
              rw [HR0.out, HQ0.out], HL.out.trans (drewN_below _ _ _)⟩
          case measure => simp [intOf]; omega
        · have hq1 : ∀ w, (Op.equalIn 10000 38 (.agg #[.string K, .string D]) (.agg #[.string K', .string D'])).run Tryd.prog w = .ok false w := fun w => by rw [HQ.out, decide_eq_false he]
          have e := hR.out; rw [ne_at HR0.out HQ0.out he] at e; subst e
          clear hR
          clear he
          go_wp2_with fail
          go_quiet (fail)
          go_wp2
          go_ret
          exact ⟨rfl, HL.out.trans (drewN_below _ _ _)⟩
      · obtain rfl : j = n := by omega
        have j1 : ¬ (j : Int) < j := by omega
        have e := hR.out; rw [eq_all HN.out HM.out HD.out] at e; subst e
        clear hR
        clear hjn
        go_wp2
        go_ret
        exact ⟨rfl, HL.out⟩
  · have e : decide (rs = qs) = false := by rw [decide_eq_false_iff_not]; rintro rfl; omega
    rw [e]
    have n1 : ((n : Int) == (m : Int)) = false := by simp; omega
    have n2 : ((n : Int) != (m : Int)) = true := by simp; omega
    clear hn hm hA hB e hnm
    go_enter Tryd.func15, Tryd.ntmps15
    go_wp2
    go_ret
    exact ⟨rfl, Below.refl _ _⟩

set_option maxHeartbeats 2000000 in
set_option maxRecDepth 100000 in
/-- the reference's Same -/
theorem same_any (a : Option Addr) (n c : Nat) (b : Option Addr) (m d : Nat) (rs qs : List Rec) (w : World) (hn : rs.length = n) (hm : qs.length = m) (hA : RecsIn w a rs) (hB : RecsIn w b qs) (h9 : n ≤ 1000000000) :
    Calls Tryd.prog 32 #[.slice a n c, .slice b m d] w fun e w' => e = .returned (.bool (decide (rs = qs))) ∧ Below w.heap.size w w' := by
  by_cases hnm : n = m
  · subst hnm
    obtain ⟨R, hR⟩ := named (decide (rs = qs))
    rw [← hR.out]
    have HA := Lib.hid hA; have HB := Lib.hid hB; have HN := Lib.hid hn; have HM := Lib.hid hm
    have hq : ∀ k v k' v' w, (Op.equalIn 10000 38 (.agg #[.string k, .string v]) (.agg #[.string k', .string v'])).run Tryd.prog w = .ok (decide (k = k' ∧ v = v')) w := fun k v k' v' w => run_eqRR k v k' v' w
    have HQ := Lib.hid hq
    have hg : Tryd.prog.eqGuardType Tryd.prog.depth 38 = false := by kernel_rfl
    clear hA hB hn hm hq
    go_enter Tryd.func32, Tryd.ntmps32
    go_wp2
    go_loopw [5] (fun i wr => ∃ j : Nat, i = .int .i64 j ∧ j ≤ n ∧ (∀ q, q < j → rs[q]? = qs[q]?) ∧ Below w.heap.size w wr) (fun i _ => n - (intOf i).toNat)
    case atStart => exact ⟨0, rfl, Nat.zero_le _, fun q hq => by omega, Below.refl _ _⟩
    case round =>
      obtain ⟨j, rfl, hj, hd, hb⟩ := hrel
      have HL := Lib.hid hb
      have HD := Lib.hid hd
      clear hb hd
      by_cases hjn : j < n
      · obtain ⟨r, hr⟩ := get_some (show j < rs.length by rw [HN.out]; exact hjn)
        obtain ⟨q, hq⟩ := get_some (show j < qs.length by rw [HM.out]; exact hjn)
        obtain ⟨K, D⟩ := r
        obtain ⟨K', D'⟩ := q
        obtain ⟨b1, o1, rfl, _, c0', c1'⟩ := (HA.out.below HL.out).get j _ hr
        obtain ⟨b2, o2, rfl, _, d0', d1'⟩ := (HB.out.below HL.out).get j _ hq
        have c0 : wr.cell? ⟨b1, o1 + j * 2, none⟩ = some (.string K) := c0'
        have c1 : wr.cell? ⟨b1, o1 + j * 2 + 1, none⟩ = some (.string D) := c1'
        have d0 : wr.cell? ⟨b2, o2 + j * 2, none⟩ = some (.string K') := d0'
        have d1 : wr.cell? ⟨b2, o2 + j * 2 + 1, none⟩ = some (.string D') := d1'
        have j1 : (j : Int) < n := by omega
        have HR0 := Lib.hid hr
        have HQ0 := Lib.hid hq
        clear c0' c1' d0' d1' hr hq hjn
        by_cases he : K = K' ∧ D = D'
        · obtain ⟨rfl, rfl⟩ := he
          have hq1 : ∀ w, (Op.equalIn 10000 38 (.agg #[.string K, .string D]) (.agg #[.string K, .string D])).run Tryd.prog w = .ok true w := fun w => by rw [HQ.out]; simp
          go_wp2_with fail
          go_quiet (fail)
          go_wp2
          go_roundw
          case rel => exact ⟨j + 1, by go_num, by omega, fun q hq => by
            by_cases h' : q < j
            · exact HD.out q h'
            · obtain rfl : q = j := by omega
              rw [HR0.out, HQ0.out], HL.out.trans (drewN_below _ _ _)⟩
          case measure => simp [intOf]; omega
        · have hq1 : ∀ w, (Op.equalIn 10000 38 (.agg #[.string K, .string D]) (.agg #[.string K', .string D'])).run Tryd.prog w = .ok false w := fun w => by rw [HQ.out, decide_eq_false he]
          have e := hR.out; rw [ne_at HR0.out HQ0.out he] at e; subst e
          clear hR
          clear he
          go_wp2_with fail
          go_quiet (fail)
          go_wp2
          go_ret
          exact ⟨rfl, HL.out.trans (drewN_below _ _ _)⟩
      · obtain rfl : j = n := by omega
        have j1 : ¬ (j : Int) < j := by omega
        have e := hR.out; rw [eq_all HN.out HM.out HD.out] at e; subst e
        clear hR
        clear hjn
        go_wp2
        go_ret
        exact ⟨rfl, HL.out⟩
  · have e : decide (rs = qs) = false := by rw [decide_eq_false_iff_not]; rintro rfl; omega
    rw [e]
    have n1 : ((n : Int) == (m : Int)) = false := by simp; omega
    have n2 : ((n : Int) != (m : Int)) = true := by simp; omega
    clear hn hm hA hB e hnm
    go_enter Tryd.func32, Tryd.ntmps32
    go_wp2
    go_ret
    exact ⟨rfl, Below.refl _ _⟩

end Go.Proofs.YtokjmehecfjhmaaDoor.Fit
/-
  Layer 10: Plan, the program's and the reference's.
-/
namespace Go.Proofs.YtokjmehecfjhmaaDoor.Fit
open Go.RowKit Pxr Pnm

/-- what Plan answers -/
def plHz (e : Ent) : Hd := if ckE e = 0 then plH e else ⟨0, emp, emp, emp, 0, 0⟩
def plLz (e : Ent) : List Rec := if ckE e = 0 then plL e else []
abbrev RetP (e : Ent) (w : World) : Ending → World → Prop := RetPl (plHz e).T (plHz e).nm (plHz e).pf (plHz e).lk (plHz e).md (plHz e).sz (plLz e) (ckE e) w
theorem spl_no {p : ByteArray} (h : ¬ splB (numsOf p) = true) : strOfNums (splP (numsOf p)) = emp ∧ strOfNums (splN (numsOf p)) = emp := by
  rcases spl_cases p with ⟨a, _⟩ | ⟨a, _⟩ | ⟨_, a, b, _⟩
  · exact absurd a h
  · exact absurd a h
  · rw [a, b]; exact ⟨rfl, rfl⟩
theorem pl_good_eq {e : Ent} (h : ckE e = 0) : plHz e = plH e ∧ plLz e = plL e := by unfold plHz plLz; rw [if_pos h, if_pos h]; exact ⟨rfl, rfl⟩
theorem pl_bad_eq {e : Ent} (h : ckE e ≠ 0) : plHz e = ⟨0, emp, emp, emp, 0, 0⟩ ∧ plLz e = [] := by unfold plHz plLz; rw [if_neg h, if_neg h]; exact ⟨rfl, rfl⟩

theorem fmtI_any (n : Nat) (hn : n ≤ 9223372036854775807) (w : World) (V : Vars w) : Calls Tryd.prog 23 #[.int .i64 (n : Int), .int .i64 10] w fun e w' => e = .returned (.string (strOfNums (decD n))) ∧ Below w.heap.size w w' := by
  refine (Tryd.strconv_FormatInt_10 (n : Int) (by omega) (by omega) w V.tab).mono ?_
  rintro e w' ⟨rfl, k, os, rfl⟩
  exact ⟨by rw [Lib.itoa_nonneg, str_decD], grow_below w k os (Nat.le_refl _)⟩

set_option maxRecDepth 100000 in
set_option maxHeartbeats 4000000 in
theorem ppl_bad (k : Int) (p : ByteArray) (m : Int) (t : ByteArray) (s : Int) (w : World) (E : Int) (h0 : (E != 0) = true)
    (C1 : Hid (∀ w', Below w.heap.size w w' → Calls Tryd.prog 16 #[.agg (enV k p m t s).toArray] w' fun e w'' => e = .returned (.int .i64 E) ∧ Below w'.heap.size w' w'')) :
    Calls Tryd.prog 12 #[.agg (enV k p m t s).toArray] w (RetPl 0 emp emp emp 0 0 [] E w) := by
  have HO := Lib.hid hdTp
  have HZ := Lib.hid zHp
  go_enter Tryd.func12, Tryd.ntmps12
  go_wp2_with (first | (refine wpList_box_obj rfl 23 _ rfl (enV k p m t s) rfl ?_; intro w1 g1 b1; have H1 := Lib.hid g1; have B1 := Lib.hid b1; clear g1 b1) | (refine wpList_alloc_obj rfl 27 rfl Ust.hd0 HZ.out ?_; intro w2 g2 b2; have R2 := Lib.hid g2; have E2 := Lib.hid (H1.out.below b2 H1.out.lt); have B2 := Lib.hid (belT B1.out b2); have c0 := E2.out.get 0 rfl; have c1 := E2.out.get 1 rfl; have c2 := E2.out.get 2 rfl; have c3 := E2.out.get 3 rfl; have c4 := E2.out.get 4 rfl; clear g2 b2))
  refine (C1.out w2 B2.out).mono ?_; rintro e w3 ⟨rfl, b3⟩
  have R3 := Lib.hid (R2.out.below b3 R2.out.lt)
  have B3 := Lib.hid (belT B2.out b3)
  have N1 : Hid (w.heap.size < w1.heap.size) := H1.out.lt
  clear b3 c0 c1 c2 c3 c4
  go_wp2_with (first | (refine wpList_store_obj rfl 27 _ _ rfl w1.heap.size rfl Ust.hd0 Ust.hd0 rfl 27 R3.out HO.out.2 rfl (hd_one _ _ _ _ _ _) ?_; intro w4 g4 t4; have R4 := Lib.hid g4; have T4 := Lib.hid t4; clear g4 t4))
  exact bodyPost_ret (results_obj_two Tryd.results12 HO.out _ w1.heap.size rfl _ Ust.hd0 R4.out rfl) rfl (.nil (B3.out.trans (T4.out.below (Nat.le_of_lt N1.out))))

theorem pplan_any (e : Ent) (w : World) (V : FVars w) (hp : e.p.size ≤ maxLen) (ht : e.t.size ≤ maxLen) : Calls Tryd.prog 12 #[.agg (enV e.k e.p e.m e.t e.s).toArray] w (RetP e w) := by
  obtain ⟨k, p, m, t, s⟩ := e
  dsimp only at hp ht ⊢
  have C1 : Hid (∀ w', Below w.heap.size w w' → Calls Tryd.prog 16 #[.agg (enV k p m t s).toArray] w' fun e w'' => e = .returned (.int .i64 (ckE ⟨k, p, m, t, s⟩)) ∧ Below w'.heap.size w' w'') := fun w' hb => pcheck_any k p m t s w' (V.go hb) hp ht
  by_cases h : ckE ⟨k, p, m, t, s⟩ = 0
  · have hok := ck_ok.1 h
    rw [h] at C1
    obtain ⟨e1, e2⟩ := pl_good_eq h
    have KG : Hid (∀ w', Below w.heap.size w w' → w'.cell? ⟨0, k.toNat, none⟩ = some (.int .u8 (tyZ k))) := fun w' hb => (V.go hb).ty hok.k0 hok.k4
    have C2 : Hid (∀ w', Calls Tryd.prog 22 #[.string p] w' fun e w'' => e = .returned (.tuple #[.string (strOfNums (splP (numsOf p))), .string (strOfNums (splN (numsOf p))), .bool (splB (numsOf p))]) ∧ Below w'.heap.size w' w'') := fun w' => Pnm.psplit p w' hp
    have C3 : Hid (∀ w', Below w.heap.size w w' → Calls Tryd.prog 23 #[.int .i64 s, .int .i64 10] w' fun e w'' => e = .returned (.string (strOfNums (decD s.toNat))) ∧ Below w'.heap.size w' w'') := fun w' hb => by
      obtain ⟨s0, s1, _⟩ := sz_cases hok.sz
      have := fmtI_any s.toNat (by dsimp only at s0 s1; omega) w' (V.go hb).v
      rwa [show ((s.toNat : Nat) : Int) = s by dsimp only at s0; omega] at this
    unfold RetP
    rw [e1, e2, h]
    unfold plH plL plT plP plS
    dsimp only
    have k0 := hok.k0; have k4 := hok.k4
    by_cases c1 : t.size ≤ 100
    · have c1' : (t.size : Int) ≤ 100 := by omega
      rw [if_pos c1, if_pos c1]
      by_cases c2 : splB (numsOf p) = true
      · rw [c2] at C2
        rw [if_pos c2]
        by_cases c3 : s ≤ 8589934591
        · rw [if_pos c3, if_pos c3]; exact ppl_fff k p m t s w _ _ _ k0 k4 KG C1 C2 c1' c3
        · rw [if_neg c3, if_neg c3]; exact ppl_ffr k p m t s w _ _ _ _ k0 k4 KG C1 C2 C3 c1' c3
      · rw [Bool.not_eq_true _ |>.mp c2] at C2
        rw [if_neg c2, (spl_no c2).1, (spl_no c2).2]
        by_cases c3 : s ≤ 8589934591
        · rw [if_pos c3, if_pos c3]; exact ppl_frf k p m t s w _ _ _ k0 k4 KG C1 C2 c1' c3
        · rw [if_neg c3, if_neg c3]; exact ppl_frr k p m t s w _ _ _ _ k0 k4 KG C1 C2 C3 c1' c3
    · have c1' : ¬ (t.size : Int) ≤ 100 := by omega
      rw [if_neg c1, if_neg c1]
      by_cases c2 : splB (numsOf p) = true
      · rw [c2] at C2
        rw [if_pos c2]
        by_cases c3 : s ≤ 8589934591
        · rw [if_pos c3, if_pos c3]; exact ppl_rff k p m t s w _ _ _ k0 k4 KG C1 C2 c1' c3
        · rw [if_neg c3, if_neg c3]; exact ppl_rfr k p m t s w _ _ _ _ k0 k4 KG C1 C2 C3 c1' c3
      · rw [Bool.not_eq_true _ |>.mp c2] at C2
        rw [if_neg c2, (spl_no c2).1, (spl_no c2).2]
        by_cases c3 : s ≤ 8589934591
        · rw [if_pos c3, if_pos c3]; exact ppl_rrf k p m t s w _ _ _ k0 k4 KG C1 C2 c1' c3
        · rw [if_neg c3, if_neg c3]; exact ppl_rrr k p m t s w _ _ _ _ k0 k4 KG C1 C2 C3 c1' c3
  · obtain ⟨e1, e2⟩ := pl_bad_eq h
    unfold RetP
    rw [e1, e2]
    exact ppl_bad k p m t s w _ (by simpa using h) C1
end Go.Proofs.YtokjmehecfjhmaaDoor.Fit
/-
  Layer 10: the statements' own alive, TooLarge.
-/
namespace Go.Proofs.YtokjmehecfjhmaaDoor.Fit
open Go.RowKit Pxr Pnm

abbrev sA : ByteArray := { data := #[97] }
abbrev sBig : ByteArray := { data := #[56, 53, 56, 57, 57, 51, 52, 53, 57, 50] }
theorem dec_big : strOfNums (decD 8589934592) = sBig := by
  have e : decV [56, 53, 56, 57, 57, 51, 52, 53, 57, 50] = 8589934592 := by decide
  rw [← e, decD_decV _ (by decide)]
  decide
theorem a_ck : ckE ⟨1, sA, 0, emp, 8589934592⟩ = 0 := by decide
theorem a_spl : splP (numsOf sA) = [] ∧ splN (numsOf sA) = [97] ∧ splB (numsOf sA) = true := spl_short (by decide)
theorem a_pl : plHz ⟨1, sA, 0, emp, 8589934592⟩ = ⟨48, sA, emp, emp, 0, 0⟩ ∧ plLz ⟨1, sA, 0, emp, 8589934592⟩ = [(kSize, sBig)] := by
  obtain ⟨e1, e2⟩ := pl_good_eq a_ck
  obtain ⟨a, b, c⟩ := a_spl
  rw [e1, e2]
  constructor
  · unfold plH
    dsimp only
    rw [a, b]
    rfl
  · unfold plL plT plP plS
    dsimp only
    rw [c, if_pos (by decide), if_pos rfl, if_neg (by decide)]
    show [(kSize, strOfNums (decD 8589934592))] = _
    rw [dec_big]

set_option maxHeartbeats 2000000 in
set_option maxRecDepth 100000 in
theorem alive_any (w : World) (V : FVars w) : Calls Tryd.prog 11 #[] w fun e w' => e = .returned (.bool true) ∧ Below w.heap.size w w' := by
  have P := pplan_any ⟨1, sA, 0, emp, 8589934592⟩ w V (by decide) (by decide)
  unfold RetP at P
  rw [a_pl.1, a_pl.2, a_ck] at P
  have HP := Lib.hid P
  have HO := Lib.hid hdTp
  have HZ := Lib.hid zHp
  have hq1 : ∀ w, (Op.equalIn 10000 38 (.agg #[.string kSize, .string sBig]) (.agg #[.string kSize, .string sBig])).run Tryd.prog w = .ok true w := fun w => by rw [run_eqRR]; simp
  have hg : Tryd.prog.eqGuardType Tryd.prog.depth 38 = false := by kernel_rfl
  clear P V
  go_enter Tryd.func11, Tryd.ntmps11
  go_wp2_with fail
  refine HP.out.mono ?_; rintro e w1 ⟨b, n, c, rfl, hn, hc, hm, hR, hb⟩
  obtain rfl : n = 1 := hn.symm
  obtain ⟨B, o, rfl, _, _, _⟩ := hR.get 0 _ rfl
  have I1 := Lib.hid hR; have B1 := Lib.hid hb
  clear hR hb hn hc hm
  go_wp2_with (first | (refine wpList_alloc_obj rfl 27 rfl Ust.hd0 HZ.out ?_; intro w2 g2 b2; have R2 := Lib.hid g2; have A2 := Lib.hid b2; clear g2 b2) | (refine wpList_store_obj rfl 27 _ _ rfl w1.heap.size rfl (Ust.hdV 48 sA emp emp 0 0) Ust.hd0 rfl 27 R2.out HO.out.2 rfl (hd_one _ _ _ _ _ _) ?_; intro w3 g3 t3; have c1 := g3.get 1 rfl; have c5 := g3.get 5 rfl; have A3 := Lib.hid (A2.out.trans (t3.below (Nat.le_refl _))); have B3 := Lib.hid (belT B1.out A3.out); obtain ⟨_, _, e0, _, x0, x1⟩ := (I1.out.below A3.out).get 0 _ rfl; cases e0; have d0 : w3.cell? ⟨B, o, none⟩ = some (.string kSize) := (by rw [Nat.zero_mul, Nat.add_zero] at x0; exact x0); have d1 : w3.cell? ⟨B, o + 1, none⟩ = some (.string sBig) := (by rw [Nat.zero_mul, Nat.add_zero] at x1; exact x1); clear g3 t3 x0 x1))
  go_ret
  exact ⟨rfl, B3.out⟩

set_option maxHeartbeats 1000000 in
theorem large_any (k : Int) (p : ByteArray) (m : Int) (t : ByteArray) (s : Int) (w : World) (hp : p.size ≤ maxLen) (ht : t.size ≤ maxLen) :
    Calls Tryd.prog 10 #[.agg (enV k p m t s).toArray] w fun e w' => ∃ B : Int, e = .returned (.int .i64 B) ∧ (B = 0 ∨ B = 1) ∧ Below w.heap.size w w' := by
  have h1 : (p.size : Int) ≤ 9223372036854775807 := by unfold maxLen at hp; omega
  have h2 : (t.size : Int) ≤ 9223372036854775807 := by unfold maxLen at ht; omega
  clear hp ht
  obtain ⟨z, hz⟩ := named (wrap64 ((p.size : Int) + t.size))
  by_cases c : 70000 < z
  · have c' : (70000 : Int) < wrap64 ((p.size : Int) + t.size) := by rw [← hz.out]; exact c
    go_enter Tryd.func10, Tryd.ntmps10
    go_wp2_with (first | (refine wpList_box_obj rfl 23 _ rfl (enV k p m t s) rfl ?_; intro w1 g1 b1; have B1 := Lib.hid b1; have c1 := g1.get 1 rfl; have c3 := g1.get 3 rfl; clear g1 b1))
    go_ret
    exact ⟨_, rfl, .inr rfl, B1.out⟩
  · have c' : ¬ (70000 : Int) < wrap64 ((p.size : Int) + t.size) := by rw [← hz.out]; exact c
    go_enter Tryd.func10, Tryd.ntmps10
    go_wp2_with (first | (refine wpList_box_obj rfl 23 _ rfl (enV k p m t s) rfl ?_; intro w1 g1 b1; have B1 := Lib.hid b1; have c1 := g1.get 1 rfl; have c3 := g1.get 3 rfl; clear g1 b1))
    go_ret
    exact ⟨_, rfl, .inl rfl, B1.out⟩
end Go.Proofs.YtokjmehecfjhmaaDoor.Fit
