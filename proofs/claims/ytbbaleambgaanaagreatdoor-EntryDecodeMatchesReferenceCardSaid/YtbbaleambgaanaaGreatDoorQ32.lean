/- PxrEqr FitEq FitMg -/
import Derived.Test.YtbbaleambgaanaaGreatDoorQ8
import Derived.Test.YtbbaleambgaanaaGreatDoorQ31
namespace Go.Proofs.YtbbaleambgaanaaGreatDoor.Pxr
open Go.RowKit
def recFs : Array Field := #[{ name := "Key", type := 9, offset := 0, embedded := false, tag := "", pkgPath := "", byteOffset := 0 }, { name := "Value", type := 9, offset := 1, embedded := false, tag := "", pkgPath := "", byteOffset := 16 }]
end Go.Proofs.YtbbaleambgaanaaGreatDoor.Pxr
namespace Go.Proofs.YtbbaleambgaanaaGreatDoor.Fit
open Go.RowKit Pxr Pnm
theorem run_eqRR (k v k' v' : ByteArray) (w : World) :
    (Op.equalIn 10000 107 (.agg #[.string k, .string v]) (.agg #[.string k', .string v'])).run Tryz.prog w = .ok (decide (k = k' ∧ v = v')) w := by
  have ht := Tryz.underlying107
  have hf : Tryz.prog.fieldsOf 107 = recFs := by unfold Program.fieldsOf; rw [ht]; rfl
  rw [run_equalIn_struct w 9999 107 _ _ (by rw [hf]; exact ht) (by kernel_rfl), hf]
  have u9 := Tryz.underlying9
  by_cases h1 : k = k'
  · subst h1
    by_cases h2 : v = v'
    · subst h2; simp [recFs, Op.eqFields, part, isAgg, u9, go_sem]
    · have := bytes_neq h2
      simp [recFs, Op.eqFields, part, isAgg, u9, h2, this, go_sem]
  · have := bytes_neq h1
    simp [recFs, Op.eqFields, part, isAgg, u9, h1, this, go_sem]
def entFs : Array Field := #[{ name := "Kind", type := 3, offset := 0, embedded := false, tag := "", pkgPath := "", byteOffset := 0 }, { name := "Path", type := 9, offset := 1, embedded := false, tag := "", pkgPath := "", byteOffset := 8 },
  { name := "Mode", type := 3, offset := 2, embedded := false, tag := "", pkgPath := "", byteOffset := 24 }, { name := "Target", type := 9, offset := 3, embedded := false, tag := "", pkgPath := "", byteOffset := 32 },
  { name := "Size", type := 2, offset := 4, embedded := false, tag := "", pkgPath := "", byteOffset := 48 }]
theorem run_eqE (k : Int) (p : ByteArray) (m : Int) (t : ByteArray) (s : Int) (k' : Int) (p' : ByteArray) (m' : Int) (t' : ByteArray) (s' : Int) (w : World) :
    (Op.equalIn 10000 23 (.agg (enV k p m t s).toArray) (.agg (enV k' p' m' t' s').toArray)).run Tryz.prog w = .ok (decide (k = k' ∧ p = p' ∧ m = m' ∧ t = t' ∧ s = s')) w := by
  have ht := Tryz.underlying23
  have hf : Tryz.prog.fieldsOf 23 = entFs := by unfold Program.fieldsOf; rw [ht]; rfl
  rw [run_equalIn_struct w 9999 23 _ _ (by rw [hf]; exact ht) (by kernel_rfl), hf]
  have u9 := Tryz.underlying9
  have u3 := Tryz.underlying3
  have u2 := Tryz.underlying2
  by_cases h1 : k = k'
  · subst h1
    by_cases h2 : p = p'
    · subst h2
      by_cases h3 : m = m'
      · subst h3
        by_cases h4 : t = t'
        · subst h4
          by_cases h5 : s = s'
          · subst h5; simp [entFs, Op.eqFields, part, isAgg, u9, u3, u2, go_sem]
          · simp [entFs, Op.eqFields, part, isAgg, u9, u3, u2, h5, go_sem]
        · have := bytes_neq h4
          simp [entFs, Op.eqFields, part, isAgg, u9, u3, u2, h4, this, go_sem]
      · simp [entFs, Op.eqFields, part, isAgg, u9, u3, u2, h3, go_sem]
    · have := bytes_neq h2
      simp [entFs, Op.eqFields, part, isAgg, u9, u3, u2, h2, this, go_sem]
  · simp [entFs, Op.eqFields, part, isAgg, u9, u3, u2, h1, go_sem]
theorem ne_at {rs qs : List Rec} {j : Nat} {r q : Rec} (h1 : rs[j]? = some r) (h2 : qs[j]? = some q) (hne : ¬ (r.1 = q.1 ∧ r.2 = q.2)) : decide (rs = qs) = false := by
  rw [decide_eq_false_iff_not]
  rintro rfl
  rw [h1] at h2
  cases h2
  exact hne ⟨rfl, rfl⟩
theorem eq_all {rs qs : List Rec} {n : Nat} (h1 : rs.length = n) (h2 : qs.length = n) (h : ∀ i, i < n → rs[i]? = qs[i]?) : decide (rs = qs) = true := by
  rw [decide_eq_true_eq]
  refine List.ext_getElem? fun i => ?_
  by_cases hi : i < n
  · exact h i hi
  · rw [List.getElem?_eq_none (by omega), List.getElem?_eq_none (by omega)]
set_option maxHeartbeats 2000000 in
set_option maxRecDepth 100000 in
theorem eqr_any (a : Option Addr) (n c : Nat) (b : Option Addr) (m d : Nat) (rs qs : List Rec) (w : World) (hn : rs.length = n) (hm : qs.length = m) (hA : RecsIn w a rs) (hB : RecsIn w b qs) (h9 : n ≤ 1000000000) :
    Calls Tryz.prog 78 #[.slice a n c, .slice b m d] w fun e w' => e = .returned (.bool (decide (rs = qs))) ∧ Below w.heap.size w w' := by
  by_cases hnm : n = m
  · subst hnm
    obtain ⟨R, hR⟩ := named (decide (rs = qs))
    rw [← hR.out]
    have HA := Lib.hid hA; have HB := Lib.hid hB; have HN := Lib.hid hn; have HM := Lib.hid hm
    have hq : ∀ k v k' v' w, (Op.equalIn 10000 107 (.agg #[.string k, .string v]) (.agg #[.string k', .string v'])).run Tryz.prog w = .ok (decide (k = k' ∧ v = v')) w := fun k v k' v' w => run_eqRR k v k' v' w
    have HQ := Lib.hid hq
    have hg : Tryz.prog.eqGuardType Tryz.prog.depth 107 = false := by kernel_rfl
    clear hA hB hn hm hq
    go_enter Tryz.func78, Tryz.ntmps78
    go_wp2
    go_loopw [13] (fun i wr => ∃ j : Nat, i = .int .i64 j ∧ j ≤ n ∧ (∀ q, q < j → rs[q]? = qs[q]?) ∧ Below w.heap.size w wr) (fun i _ => n - (intOf i).toNat)
    case atStart => exact ⟨0, rfl, Nat.zero_le _, fun q hq => by omega, Below.refl _ _⟩
    case round =>
      obtain ⟨j, rfl, hj, hd, hb⟩ := hrel
      have HL := Lib.hid hb
      have HD := Lib.hid hd
      clear hb hd
      by_cases hjn : j < n
      · obtain ⟨r, hr⟩ := get_some (show j < rs.length by rw [HN.out]; exact hjn)
        obtain ⟨q, hq⟩ := get_some (show j < qs.length by rw [HM.out]; exact hjn)
        obtain ⟨K, D⟩ := r
        obtain ⟨K', D'⟩ := q
        obtain ⟨b1, o1, rfl, _, c0', c1'⟩ := (HA.out.below HL.out).get j _ hr
        obtain ⟨b2, o2, rfl, _, d0', d1'⟩ := (HB.out.below HL.out).get j _ hq
        have c0 : wr.cell? ⟨b1, o1 + j * 2, none⟩ = some (.string K) := c0'
        have c1 : wr.cell? ⟨b1, o1 + j * 2 + 1, none⟩ = some (.string D) := c1'
        have d0 : wr.cell? ⟨b2, o2 + j * 2, none⟩ = some (.string K') := d0'
        have d1 : wr.cell? ⟨b2, o2 + j * 2 + 1, none⟩ = some (.string D') := d1'
        have j1 : (j : Int) < n := by omega
        have HR0 := Lib.hid hr
        have HQ0 := Lib.hid hq
        clear c0' c1' d0' d1' hr hq hjn
        by_cases he : K = K' ∧ D = D'
        · obtain ⟨rfl, rfl⟩ := he
          have hq1 : ∀ w, (Op.equalIn 10000 107 (.agg #[.string K, .string D]) (.agg #[.string K, .string D])).run Tryz.prog w = .ok true w := fun w => by rw [HQ.out]; simp
          go_wp2_with fail
          go_quiet (fail)
          go_wp2
          go_roundw
          case rel => exact ⟨j + 1, by go_num, by omega, fun q hq => by
            by_cases h' : q < j
            · exact HD.out q h'
            · obtain rfl : q = j := by omega
              rw [HR0.out, HQ0.out], HL.out.trans (drewN_below _ _ _)⟩
          case measure => simp [intOf]; omega
        · have hq1 : ∀ w, (Op.equalIn 10000 107 (.agg #[.string K, .string D]) (.agg #[.string K', .string D'])).run Tryz.prog w = .ok false w := fun w => by rw [HQ.out, decide_eq_false he]
          have e := hR.out; rw [ne_at HR0.out HQ0.out he] at e; subst e
          clear hR
          clear he
          go_wp2_with fail
          go_quiet (fail)
          go_wp2
          go_ret
          exact ⟨rfl, HL.out.trans (drewN_below _ _ _)⟩
      · obtain rfl : j = n := by omega
        have j1 : ¬ (j : Int) < j := by omega
        have e := hR.out; rw [eq_all HN.out HM.out HD.out] at e; subst e
        clear hR
        clear hjn
        go_wp2
        go_ret
        exact ⟨rfl, HL.out⟩
  · have e : decide (rs = qs) = false := by rw [decide_eq_false_iff_not]; rintro rfl; omega
    rw [e]
    have n1 : ((n : Int) == (m : Int)) = false := by simp; omega
    have n2 : ((n : Int) != (m : Int)) = true := by simp; omega
    clear hn hm hA hB e hnm
    go_enter Tryz.func78, Tryz.ntmps78
    go_wp2
    go_ret
    exact ⟨rfl, Below.refl _ _⟩
set_option maxHeartbeats 2000000 in
set_option maxRecDepth 100000 in
theorem same_any (a : Option Addr) (n c : Nat) (b : Option Addr) (m d : Nat) (rs qs : List Rec) (w : World) (hn : rs.length = n) (hm : qs.length = m) (hA : RecsIn w a rs) (hB : RecsIn w b qs) (h9 : n ≤ 1000000000) :
    Calls Tryz.prog 88 #[.slice a n c, .slice b m d] w fun e w' => e = .returned (.bool (decide (rs = qs))) ∧ Below w.heap.size w w' := by
  by_cases hnm : n = m
  · subst hnm
    obtain ⟨R, hR⟩ := named (decide (rs = qs))
    rw [← hR.out]
    have HA := Lib.hid hA; have HB := Lib.hid hB; have HN := Lib.hid hn; have HM := Lib.hid hm
    have hq : ∀ k v k' v' w, (Op.equalIn 10000 107 (.agg #[.string k, .string v]) (.agg #[.string k', .string v'])).run Tryz.prog w = .ok (decide (k = k' ∧ v = v')) w := fun k v k' v' w => run_eqRR k v k' v' w
    have HQ := Lib.hid hq
    have hg : Tryz.prog.eqGuardType Tryz.prog.depth 107 = false := by kernel_rfl
    clear hA hB hn hm hq
    go_enter Tryz.func88, Tryz.ntmps88
    go_wp2
    go_loopw [5] (fun i wr => ∃ j : Nat, i = .int .i64 j ∧ j ≤ n ∧ (∀ q, q < j → rs[q]? = qs[q]?) ∧ Below w.heap.size w wr) (fun i _ => n - (intOf i).toNat)
    case atStart => exact ⟨0, rfl, Nat.zero_le _, fun q hq => by omega, Below.refl _ _⟩
    case round =>
      obtain ⟨j, rfl, hj, hd, hb⟩ := hrel
      have HL := Lib.hid hb
      have HD := Lib.hid hd
      clear hb hd
      by_cases hjn : j < n
      · obtain ⟨r, hr⟩ := get_some (show j < rs.length by rw [HN.out]; exact hjn)
        obtain ⟨q, hq⟩ := get_some (show j < qs.length by rw [HM.out]; exact hjn)
        obtain ⟨K, D⟩ := r
        obtain ⟨K', D'⟩ := q
        obtain ⟨b1, o1, rfl, _, c0', c1'⟩ := (HA.out.below HL.out).get j _ hr
        obtain ⟨b2, o2, rfl, _, d0', d1'⟩ := (HB.out.below HL.out).get j _ hq
        have c0 : wr.cell? ⟨b1, o1 + j * 2, none⟩ = some (.string K) := c0'
        have c1 : wr.cell? ⟨b1, o1 + j * 2 + 1, none⟩ = some (.string D) := c1'
        have d0 : wr.cell? ⟨b2, o2 + j * 2, none⟩ = some (.string K') := d0'
        have d1 : wr.cell? ⟨b2, o2 + j * 2 + 1, none⟩ = some (.string D') := d1'
        have j1 : (j : Int) < n := by omega
        have HR0 := Lib.hid hr
        have HQ0 := Lib.hid hq
        clear c0' c1' d0' d1' hr hq hjn
        by_cases he : K = K' ∧ D = D'
        · obtain ⟨rfl, rfl⟩ := he
          have hq1 : ∀ w, (Op.equalIn 10000 107 (.agg #[.string K, .string D]) (.agg #[.string K, .string D])).run Tryz.prog w = .ok true w := fun w => by rw [HQ.out]; simp
          go_wp2_with fail
          go_quiet (fail)
          go_wp2
          go_roundw
          case rel => exact ⟨j + 1, by go_num, by omega, fun q hq => by
            by_cases h' : q < j
            · exact HD.out q h'
            · obtain rfl : q = j := by omega
              rw [HR0.out, HQ0.out], HL.out.trans (drewN_below _ _ _)⟩
          case measure => simp [intOf]; omega
        · have hq1 : ∀ w, (Op.equalIn 10000 107 (.agg #[.string K, .string D]) (.agg #[.string K', .string D'])).run Tryz.prog w = .ok false w := fun w => by rw [HQ.out, decide_eq_false he]
          have e := hR.out; rw [ne_at HR0.out HQ0.out he] at e; subst e
          clear hR
          clear he
          go_wp2_with fail
          go_quiet (fail)
          go_wp2
          go_ret
          exact ⟨rfl, HL.out.trans (drewN_below _ _ _)⟩
      · obtain rfl : j = n := by omega
        have j1 : ¬ (j : Int) < j := by omega
        have e := hR.out; rw [eq_all HN.out HM.out HD.out] at e; subst e
        clear hR
        clear hjn
        go_wp2
        go_ret
        exact ⟨rfl, HL.out⟩
  · have e : decide (rs = qs) = false := by rw [decide_eq_false_iff_not]; rintro rfl; omega
    rw [e]
    have n1 : ((n : Int) == (m : Int)) = false := by simp; omega
    have n2 : ((n : Int) != (m : Int)) = true := by simp; omega
    clear hn hm hA hB e hnm
    go_enter Tryz.func88, Tryz.ntmps88
    go_wp2
    go_ret
    exact ⟨rfl, Below.refl _ _⟩
end Go.Proofs.YtbbaleambgaanaaGreatDoor.Fit
namespace Go.Proofs.YtbbaleambgaanaaGreatDoor.Fit
open Go.RowKit Pxr Pnm
def mgRes (H : Hd) (rs : List Rec) (x : Ent) (E : Int) : Prop := (mgOk H rs ∧ x = cmpE H rs ∧ E = 0) ∨ (¬ mgOk H rs ∧ x = ⟨0, emp, 0, emp, 0⟩ ∧ E = if rs = [] then 6 else 17)
def RetM (H : Hd) (rs : List Rec) (w : World) (e : Ending) (w' : World) : Prop := ∃ (x : Ent) (E : Int), e = .returned (.tuple #[.agg (enV x.k x.p x.m x.t x.s).toArray, .int .i64 E]) ∧ mgRes H rs x E ∧ Below w.heap.size w w'
theorem fold_sizes : ∀ (rs : List Rec) (x : Ent) (B : Nat), (∀ r ∈ rs, r.2.size ≤ B) → x.p.size ≤ B → x.t.size ≤ B → (rs.foldl setR x).p.size ≤ B ∧ (rs.foldl setR x).t.size ≤ B
  | [], _, _, _, h1, h2 => ⟨h1, h2⟩
  | r :: rs, x, B, h, h1, h2 => by
    have hr := h r List.mem_cons_self
    refine fold_sizes rs (setR x r) B (fun q hq => h q (List.mem_cons_of_mem _ hq)) ?_ ?_
    · unfold setR; split
      · exact h1
      · split
        · exact hr
        · split <;> exact h1
    · unfold setR; split
      · exact hr
      · split
        · exact h2
        · split <;> exact h2
theorem join_len (a b : List Int) : (joinZ a b).length ≤ a.length + b.length + 1 := by
  unfold joinZ; split
  · omega
  · rw [List.length_append, List.length_cons]; omega
theorem str_len (zs : List Int) : (strOfNums zs).size = zs.length := by
  rw [Lib.size_eq, strOfNums_data, List.length_map]
theorem cmp_sizes {H : Hd} {rs : List Rec} (h1 : H.nm.size ≤ 1000000) (h2 : H.pf.size ≤ 1000000) (h3 : H.lk.size ≤ 281474976710656) (hv : ∀ r ∈ rs, r.2.size ≤ 281474976710656) : (cmpE H rs).p.size ≤ maxLen ∧ (cmpE H rs).t.size ≤ maxLen := by
  have hj : (cmp0 H).p.size ≤ 281474976710656 := by
    show (strOfNums (joinZ (numsOf H.pf) (numsOf H.nm))).size ≤ _
    rw [str_len]
    have := join_len (numsOf H.pf) (numsOf H.nm)
    rw [numsOf_length, numsOf_length] at this
    omega
  obtain ⟨a, b⟩ := fold_sizes rs (cmp0 H) 281474976710656 hv hj h3
  unfold maxLen
  exact ⟨Nat.le_trans a (by decide), Nat.le_trans b (by decide)⟩
theorem mg_iff {H : Hd} {rs : List Rec} {x : Ent} (hx : x = cmpE H rs) : mgOk H rs ↔ ckE x = 0 ∧ ((plHz x).T = H.T ∧ (plHz x).nm = H.nm ∧ (plHz x).pf = H.pf ∧ (plHz x).lk = H.lk ∧ (plHz x).md = H.md ∧ (plHz x).sz = H.sz) ∧ plLz x = rs := by
  subst hx
  unfold mgOk
  constructor
  · rintro ⟨a, b, c⟩
    obtain ⟨e1, e2⟩ := pl_good_eq a
    rw [e1, e2]
    exact ⟨a, by rw [b]; exact ⟨rfl, rfl, rfl, rfl, rfl, rfl⟩, c⟩
  · rintro ⟨a, b, c⟩
    obtain ⟨e1, e2⟩ := pl_good_eq a
    rw [e1] at b
    rw [e2] at c
    refine ⟨a, ?_, c⟩
    generalize plH (cmpE H rs) = G at b
    cases G; cases H
    dsimp only at b
    obtain ⟨rfl, rfl, rfl, rfl, rfl, rfl⟩ := b
    rfl
set_option maxHeartbeats 16000000 in
set_option maxRecDepth 100000 in
theorem merge_any (T : Int) (nm pf lk : ByteArray) (md sz : Int) (a : Option Addr) (n c : Nat) (rs : List Rec) (w : World) (V : MVars w) (hnm : nm.size ≤ 1000000) (hpf : pf.size ≤ 1000000) (hlk : lk.size ≤ 281474976710656)
    (hv : ∀ r ∈ rs, r.2.size ≤ 281474976710656) (hn : rs.length = n) (hR : RecsIn w a rs) (hN : n ≤ 1000000) :
    Calls Tryz.prog 38 #[.agg (Ust.hdV T nm pf lk md sz).toArray, .slice a n c] w (RetM ⟨T, nm, pf, lk, md, sz⟩ rs w) := by
  have HO := Lib.hid hdTp; have EO := Lib.hid enT
  have HZ := Lib.hid zHp; have EZ := Lib.hid zEn
  have CM := Lib.hid fun w' (hb : Below w.heap.size w w') => comp_any T nm pf lk md sz a n c rs w' (V.go hb) hnm hpf hv hn (hR.below hb) hN
  have SZ := Lib.hid (cmp_sizes (H := ⟨T, nm, pf, lk, md, sz⟩) hnm hpf hlk hv)
  have HV := Lib.hid V; have HN := Lib.hid hn; have HR := Lib.hid hR; have HNN := Lib.hid hN
  have gH : Tryz.prog.eqGuardType Tryz.prog.depth 56 = false := by kernel_rfl
  clear V hnm hpf hlk hv hn hR hN
  go_enter Tryz.func38, Tryz.ntmps38
  go_wp2_with (first | (refine wpList_box_obj rfl 56 _ rfl (Ust.hdV T nm pf lk md sz) rfl ?_; intro w1 g1 b1; have H1 := Lib.hid g1; have B1 := Lib.hid b1; clear g1 b1) | (refine wpList_alloc_obj rfl 23 rfl (enV 0 emp 0 emp 0) EZ.out ?_; intro w2 g2 b2; have Q2 := Lib.hid g2; have H2 := Lib.hid (H1.out.below b2 H1.out.lt); have B2 := Lib.hid (belT B1.out b2); have c0 := H2.out.get 0 rfl; have c1 := H2.out.get 1 rfl; have c2 := H2.out.get 2 rfl; have c3 := H2.out.get 3 rfl; have c4 := H2.out.get 4 rfl; have c5 := H2.out.get 5 rfl; clear g2 b2))
  refine (CM.out w2 B2.out).mono ?_; rintro e w3 ⟨x, rfl, hx, b3⟩
  have HX := Lib.hid hx
  have PS : Hid (x.p.size ≤ maxLen ∧ x.t.size ≤ maxLen) := by have := SZ.out; rwa [← hx] at this
  have MG := Lib.hid (mg_iff (H := ⟨T, nm, pf, lk, md, sz⟩) hx)
  dsimp only at MG
  have H3 := Lib.hid (H2.out.below b3 H2.out.lt)
  have Q3 := Lib.hid (Q2.out.below b3 Q2.out.lt)
  have B3 := Lib.hid (belT B2.out b3)
  have LW : Hid (w.heap.size ≤ w1.heap.size) := B1.out.size
  obtain ⟨xk, xp, xm, xt, xs⟩ := x
  clear b3 hx c0 c1 c2 c3 c4 c5 CM SZ
  have PL := Lib.hid fun w' (hb : Below w.heap.size w w') => pplan_any ⟨xk, xp, xm, xt, xs⟩ w' (HV.out.go hb).f PS.out.1 PS.out.2
  have HL := Lib.hid (show (plLz ⟨xk, xp, xm, xt, xs⟩).length ≤ 3 by unfold plLz; split; exact pl_len _; decide)
  unfold RetP at PL
  obtain ⟨T', hT'⟩ := named (plHz ⟨xk, xp, xm, xt, xs⟩).T
  obtain ⟨nm', hnm'⟩ := named (plHz ⟨xk, xp, xm, xt, xs⟩).nm
  obtain ⟨pf', hpf'⟩ := named (plHz ⟨xk, xp, xm, xt, xs⟩).pf
  obtain ⟨lk', hlk'⟩ := named (plHz ⟨xk, xp, xm, xt, xs⟩).lk
  obtain ⟨md', hmd'⟩ := named (plHz ⟨xk, xp, xm, xt, xs⟩).md
  obtain ⟨sz', hsz'⟩ := named (plHz ⟨xk, xp, xm, xt, xs⟩).sz
  obtain ⟨L', hL'⟩ := named (plLz ⟨xk, xp, xm, xt, xs⟩)
  obtain ⟨E', hE'⟩ := named (ckE ⟨xk, xp, xm, xt, xs⟩)
  rw [← hT'.out, ← hnm'.out, ← hpf'.out, ← hlk'.out, ← hmd'.out, ← hsz'.out, ← hL'.out, ← hE'.out] at PL
  rw [← hT'.out, ← hnm'.out, ← hpf'.out, ← hlk'.out, ← hmd'.out, ← hsz'.out, ← hL'.out, ← hE'.out] at MG
  rw [← hL'.out] at HL
  clear hT' hnm' hpf' hlk' hmd' hsz' hL' hE'
  go_wp2_with (first | (refine wpList_alloc_obj rfl 23 rfl (enV 0 emp 0 emp 0) EZ.out ?_; intro w4 g4 b4; have R4 := Lib.hid g4; have A4 := Lib.hid b4; clear g4 b4) | (refine wpList_store_obj rfl 23 _ _ rfl w3.heap.size rfl (enV xk xp xm xt xs) (enV 0 emp 0 emp 0) rfl 23 R4.out EO.out.2 rfl (en_one _ _ _ _ _) ?_; intro w5 g5 t5; have X5 := Lib.hid g5; have A5 := Lib.hid (A4.out.trans (t5.below (Nat.le_refl _))); have H5 := Lib.hid (H3.out.below A5.out H3.out.lt); have Q5 := Lib.hid (Q3.out.below A5.out Q3.out.lt); have B5 := Lib.hid (belT B3.out A5.out); have e0 := X5.out.get 0 rfl; have e1 := X5.out.get 1 rfl; have e2 := X5.out.get 2 rfl; have e3 := X5.out.get 3 rfl; have e4 := X5.out.get 4 rfl; clear g5 t5))
  refine (PL.out w5 B5.out).mono ?_; rintro e w6 ⟨b, n', c', rfl, hn', hc', hm', hR', b6⟩
  have H6 := Lib.hid (H5.out.below b6 H5.out.lt)
  have Q6 := Lib.hid (Q5.out.below b6 Q5.out.lt)
  have X6 := Lib.hid (X5.out.below b6 X5.out.lt)
  have B6 := Lib.hid (belT B5.out b6)
  have I6 := Lib.hid hR'; have HN' := Lib.hid hn'
  clear b6 hR' hn' hc' hm' e0 e1 e2 e3 e4 PL
  have QH := Lib.hid fun (w' : World) => Ust.run_eqH 56 Tryz.underlying56 (by kernel_rfl) T' nm' pf' lk' md' sz' T nm pf lk md sz w'
  by_cases hE : E' = 0
  · subst hE
    by_cases hH : T' = T ∧ nm' = nm ∧ pf' = pf ∧ lk' = lk ∧ md' = md ∧ sz' = sz
    · have qH := QH.out; simp only [decide_eq_true hH] at qH
      have HHd := Lib.hid hH; clear hH
      have EQ := Lib.hid fun (w' : World) (hr : RecsIn w' b L') (hb : Below w.heap.size w w') => eqr_any b n' c' a n c L' rs w' HN'.out HN.out hr (HR.out.below hb) (by have := HL.out; have := HN'.out; omega)
      go_wp2_with (first | (refine wpList_alloc_obj rfl 56 rfl Ust.hd0 HZ.out ?_; intro w7 g7 b7; have R7 := Lib.hid g7; have A7 := Lib.hid b7; clear g7 b7) | (refine wpList_store_obj rfl 56 _ _ rfl w6.heap.size rfl (Ust.hdV T' nm' pf' lk' md' sz') Ust.hd0 rfl 56 R7.out HO.out.2 rfl (hd_one _ _ _ _ _ _) ?_; intro w8 g8 t8; have A8 := Lib.hid (A7.out.trans (t8.below (Nat.le_refl _))); have Y8 := Lib.hid g8; have H8 := Lib.hid (H6.out.below A8.out H6.out.lt); have Q8 := Lib.hid (Q6.out.below A8.out Q6.out.lt); have X8 := Lib.hid (X6.out.below A8.out X6.out.lt); have I8 := Lib.hid (I6.out.below A8.out); have B8 := Lib.hid (belT B6.out A8.out); have d0 := Y8.out.get 0 rfl; have d1 := Y8.out.get 1 rfl; have d2 := Y8.out.get 2 rfl; have d3 := Y8.out.get 3 rfl; have d4 := Y8.out.get 4 rfl; have d5 := Y8.out.get 5 rfl; have c0 := H8.out.get 0 rfl; have c1 := H8.out.get 1 rfl; have c2 := H8.out.get 2 rfl; have c3 := H8.out.get 3 rfl; have c4 := H8.out.get 4 rfl; have c5 := H8.out.get 5 rfl; have e0 := X8.out.get 0 rfl; have e1 := X8.out.get 1 rfl; have e2 := X8.out.get 2 rfl; have e3 := X8.out.get 3 rfl; have e4 := X8.out.get 4 rfl; clear g8 t8))
      refine (EQ.out w8 I8.out B8.out).mono ?_; rintro e w9 ⟨rfl, b9⟩
      have Q9 := Lib.hid (Q8.out.below b9 Q8.out.lt)
      have X9 := Lib.hid (X8.out.below b9 X8.out.lt)
      have B9 := Lib.hid (belT B8.out b9)
      clear b9 c0 c1 c2 c3 c4 c5 d0 d1 d2 d3 d4 d5 e0 e1 e2 e3 e4 qH EQ
      by_cases hL : L' = rs
      · rw [decide_eq_true hL]
        have OKM : Hid (mgOk ⟨T, nm, pf, lk, md, sz⟩ rs) := MG.out.2 ⟨by first | rfl | trivial, HHd.out, hL⟩
        clear hL
        have e0 := X9.out.get 0 rfl; have e1 := X9.out.get 1 rfl; have e2 := X9.out.get 2 rfl; have e3 := X9.out.get 3 rfl; have e4 := X9.out.get 4 rfl
        go_wp2_with (first | (refine wpList_store_obj rfl 23 _ _ rfl w1.heap.size rfl (enV xk xp xm xt xs) (enV 0 emp 0 emp 0) rfl 23 Q9.out EO.out.2 rfl (en_one _ _ _ _ _) ?_; intro y1 gy ty; have QY := Lib.hid gy; have TY := Lib.hid ty; clear gy ty))
        exact bodyPost_ret (results_obj_tmp Tryz.results38 EO.out _ w1.heap.size rfl _ (enV xk xp xm xt xs) QY.out rfl) rfl ⟨⟨xk, xp, xm, xt, xs⟩, 0, rfl, .inl ⟨OKM.out, HX.out, rfl⟩, B9.out.trans (TY.out.below LW.out)⟩
      · rw [decide_eq_false hL]
        have HB : Hid (¬ mgOk ⟨T, nm, pf, lk, md, sz⟩ rs) := fun h => hL (MG.out.1 h).2.2
        have HB0 := HB
        clear HB hL
        by_cases h0 : 0 < n
        · have n1 : (0 : Int) < n := by omega
          go_wp2_with (first | (refine wpList_store_obj rfl 23 _ _ rfl w1.heap.size rfl (enV 0 emp 0 emp 0) (enV 0 emp 0 emp 0) rfl 23 Q9.out EO.out.2 rfl (en_one _ _ _ _ _) ?_; intro y1 gy ty; have QY := Lib.hid gy; have TY := Lib.hid ty; clear gy ty))
          exact bodyPost_ret (results_obj_tmp Tryz.results38 EO.out _ w1.heap.size rfl _ (enV 0 emp 0 emp 0) QY.out rfl) rfl ⟨⟨0, emp, 0, emp, 0⟩, 17, rfl, .inr ⟨HB0.out, rfl, by rw [if_neg]; rintro rfl; have := HN.out; simp at this; omega⟩, B9.out.trans (TY.out.below LW.out)⟩
        · have n1 : ¬ (0 : Int) < n := by omega
          go_wp2_with (first | (refine wpList_store_obj rfl 23 _ _ rfl w1.heap.size rfl (enV 0 emp 0 emp 0) (enV 0 emp 0 emp 0) rfl 23 Q9.out EO.out.2 rfl (en_one _ _ _ _ _) ?_; intro y1 gy ty; have QY := Lib.hid gy; have TY := Lib.hid ty; clear gy ty))
          exact bodyPost_ret (results_obj_tmp Tryz.results38 EO.out _ w1.heap.size rfl _ (enV 0 emp 0 emp 0) QY.out rfl) rfl ⟨⟨0, emp, 0, emp, 0⟩, 6, rfl, .inr ⟨HB0.out, rfl, by rw [if_pos]; exact List.length_eq_zero_iff.1 (by have := HN.out; omega)⟩, B9.out.trans (TY.out.below LW.out)⟩
    · have qH := QH.out; simp only [decide_eq_false hH] at qH
      have HB : Hid (¬ mgOk ⟨T, nm, pf, lk, md, sz⟩ rs) := fun h => hH (MG.out.1 h).2.1
      have HB0 := HB
      clear HB hH
      by_cases h0 : 0 < n
      · have n1 : (0 : Int) < n := by omega
        go_wp2_with (first | (refine wpList_alloc_obj rfl 56 rfl Ust.hd0 HZ.out ?_; intro w7 g7 b7; have R7 := Lib.hid g7; have A7 := Lib.hid b7; clear g7 b7) | (refine wpList_store_obj rfl 56 _ _ rfl w6.heap.size rfl (Ust.hdV T' nm' pf' lk' md' sz') Ust.hd0 rfl 56 R7.out HO.out.2 rfl (hd_one _ _ _ _ _ _) ?_; intro w8 g8 t8; have A8 := Lib.hid (A7.out.trans (t8.below (Nat.le_refl _))); have Y8 := Lib.hid g8; have H8 := Lib.hid (H6.out.below A8.out H6.out.lt); have Q8 := Lib.hid (Q6.out.below A8.out Q6.out.lt); have X8 := Lib.hid (X6.out.below A8.out X6.out.lt); have I8 := Lib.hid (I6.out.below A8.out); have B8 := Lib.hid (belT B6.out A8.out); have d0 := Y8.out.get 0 rfl; have d1 := Y8.out.get 1 rfl; have d2 := Y8.out.get 2 rfl; have d3 := Y8.out.get 3 rfl; have d4 := Y8.out.get 4 rfl; have d5 := Y8.out.get 5 rfl; have c0 := H8.out.get 0 rfl; have c1 := H8.out.get 1 rfl; have c2 := H8.out.get 2 rfl; have c3 := H8.out.get 3 rfl; have c4 := H8.out.get 4 rfl; have c5 := H8.out.get 5 rfl; have e0 := X8.out.get 0 rfl; have e1 := X8.out.get 1 rfl; have e2 := X8.out.get 2 rfl; have e3 := X8.out.get 3 rfl; have e4 := X8.out.get 4 rfl; clear g8 t8) | (refine wpList_store_obj rfl 23 _ _ rfl w1.heap.size rfl (enV 0 emp 0 emp 0) (enV 0 emp 0 emp 0) rfl 23 Q8.out EO.out.2 rfl (en_one _ _ _ _ _) ?_; intro y1 gy ty; have QY := Lib.hid gy; have TY := Lib.hid ty; clear gy ty))
        exact bodyPost_ret (results_obj_tmp Tryz.results38 EO.out _ w1.heap.size rfl _ (enV 0 emp 0 emp 0) QY.out rfl) rfl ⟨⟨0, emp, 0, emp, 0⟩, 17, rfl, .inr ⟨HB0.out, rfl, by rw [if_neg]; rintro rfl; have := HN.out; simp at this; omega⟩, B8.out.trans (TY.out.below LW.out)⟩
      · have n1 : ¬ (0 : Int) < n := by omega
        go_wp2_with (first | (refine wpList_alloc_obj rfl 56 rfl Ust.hd0 HZ.out ?_; intro w7 g7 b7; have R7 := Lib.hid g7; have A7 := Lib.hid b7; clear g7 b7) | (refine wpList_store_obj rfl 56 _ _ rfl w6.heap.size rfl (Ust.hdV T' nm' pf' lk' md' sz') Ust.hd0 rfl 56 R7.out HO.out.2 rfl (hd_one _ _ _ _ _ _) ?_; intro w8 g8 t8; have A8 := Lib.hid (A7.out.trans (t8.below (Nat.le_refl _))); have Y8 := Lib.hid g8; have H8 := Lib.hid (H6.out.below A8.out H6.out.lt); have Q8 := Lib.hid (Q6.out.below A8.out Q6.out.lt); have X8 := Lib.hid (X6.out.below A8.out X6.out.lt); have I8 := Lib.hid (I6.out.below A8.out); have B8 := Lib.hid (belT B6.out A8.out); have d0 := Y8.out.get 0 rfl; have d1 := Y8.out.get 1 rfl; have d2 := Y8.out.get 2 rfl; have d3 := Y8.out.get 3 rfl; have d4 := Y8.out.get 4 rfl; have d5 := Y8.out.get 5 rfl; have c0 := H8.out.get 0 rfl; have c1 := H8.out.get 1 rfl; have c2 := H8.out.get 2 rfl; have c3 := H8.out.get 3 rfl; have c4 := H8.out.get 4 rfl; have c5 := H8.out.get 5 rfl; have e0 := X8.out.get 0 rfl; have e1 := X8.out.get 1 rfl; have e2 := X8.out.get 2 rfl; have e3 := X8.out.get 3 rfl; have e4 := X8.out.get 4 rfl; clear g8 t8) | (refine wpList_store_obj rfl 23 _ _ rfl w1.heap.size rfl (enV 0 emp 0 emp 0) (enV 0 emp 0 emp 0) rfl 23 Q8.out EO.out.2 rfl (en_one _ _ _ _ _) ?_; intro y1 gy ty; have QY := Lib.hid gy; have TY := Lib.hid ty; clear gy ty))
        exact bodyPost_ret (results_obj_tmp Tryz.results38 EO.out _ w1.heap.size rfl _ (enV 0 emp 0 emp 0) QY.out rfl) rfl ⟨⟨0, emp, 0, emp, 0⟩, 6, rfl, .inr ⟨HB0.out, rfl, by rw [if_pos]; exact List.length_eq_zero_iff.1 (by have := HN.out; omega)⟩, B8.out.trans (TY.out.below LW.out)⟩
  · have n0 : (E' == 0) = false := by simpa using hE
    have HB : Hid (¬ mgOk ⟨T, nm, pf, lk, md, sz⟩ rs) := fun h => hE (MG.out.1 h).1
    have HB0 := HB
    clear HB hE
    by_cases h0 : 0 < n
    · have n1 : (0 : Int) < n := by omega
      go_wp2_with (first | (refine wpList_alloc_obj rfl 56 rfl Ust.hd0 HZ.out ?_; intro w7 g7 b7; have R7 := Lib.hid g7; have A7 := Lib.hid b7; clear g7 b7) | (refine wpList_store_obj rfl 56 _ _ rfl w6.heap.size rfl (Ust.hdV T' nm' pf' lk' md' sz') Ust.hd0 rfl 56 R7.out HO.out.2 rfl (hd_one _ _ _ _ _ _) ?_; intro w8 g8 t8; have A8 := Lib.hid (A7.out.trans (t8.below (Nat.le_refl _))); have Y8 := Lib.hid g8; have H8 := Lib.hid (H6.out.below A8.out H6.out.lt); have Q8 := Lib.hid (Q6.out.below A8.out Q6.out.lt); have X8 := Lib.hid (X6.out.below A8.out X6.out.lt); have I8 := Lib.hid (I6.out.below A8.out); have B8 := Lib.hid (belT B6.out A8.out); have d0 := Y8.out.get 0 rfl; have d1 := Y8.out.get 1 rfl; have d2 := Y8.out.get 2 rfl; have d3 := Y8.out.get 3 rfl; have d4 := Y8.out.get 4 rfl; have d5 := Y8.out.get 5 rfl; have c0 := H8.out.get 0 rfl; have c1 := H8.out.get 1 rfl; have c2 := H8.out.get 2 rfl; have c3 := H8.out.get 3 rfl; have c4 := H8.out.get 4 rfl; have c5 := H8.out.get 5 rfl; have e0 := X8.out.get 0 rfl; have e1 := X8.out.get 1 rfl; have e2 := X8.out.get 2 rfl; have e3 := X8.out.get 3 rfl; have e4 := X8.out.get 4 rfl; clear g8 t8) | (refine wpList_store_obj rfl 23 _ _ rfl w1.heap.size rfl (enV 0 emp 0 emp 0) (enV 0 emp 0 emp 0) rfl 23 Q8.out EO.out.2 rfl (en_one _ _ _ _ _) ?_; intro y1 gy ty; have QY := Lib.hid gy; have TY := Lib.hid ty; clear gy ty))
      exact bodyPost_ret (results_obj_tmp Tryz.results38 EO.out _ w1.heap.size rfl _ (enV 0 emp 0 emp 0) QY.out rfl) rfl ⟨⟨0, emp, 0, emp, 0⟩, 17, rfl, .inr ⟨HB0.out, rfl, by rw [if_neg]; rintro rfl; have := HN.out; simp at this; omega⟩, B8.out.trans (TY.out.below LW.out)⟩
    · have n1 : ¬ (0 : Int) < n := by omega
      go_wp2_with (first | (refine wpList_alloc_obj rfl 56 rfl Ust.hd0 HZ.out ?_; intro w7 g7 b7; have R7 := Lib.hid g7; have A7 := Lib.hid b7; clear g7 b7) | (refine wpList_store_obj rfl 56 _ _ rfl w6.heap.size rfl (Ust.hdV T' nm' pf' lk' md' sz') Ust.hd0 rfl 56 R7.out HO.out.2 rfl (hd_one _ _ _ _ _ _) ?_; intro w8 g8 t8; have A8 := Lib.hid (A7.out.trans (t8.below (Nat.le_refl _))); have Y8 := Lib.hid g8; have H8 := Lib.hid (H6.out.below A8.out H6.out.lt); have Q8 := Lib.hid (Q6.out.below A8.out Q6.out.lt); have X8 := Lib.hid (X6.out.below A8.out X6.out.lt); have I8 := Lib.hid (I6.out.below A8.out); have B8 := Lib.hid (belT B6.out A8.out); have d0 := Y8.out.get 0 rfl; have d1 := Y8.out.get 1 rfl; have d2 := Y8.out.get 2 rfl; have d3 := Y8.out.get 3 rfl; have d4 := Y8.out.get 4 rfl; have d5 := Y8.out.get 5 rfl; have c0 := H8.out.get 0 rfl; have c1 := H8.out.get 1 rfl; have c2 := H8.out.get 2 rfl; have c3 := H8.out.get 3 rfl; have c4 := H8.out.get 4 rfl; have c5 := H8.out.get 5 rfl; have e0 := X8.out.get 0 rfl; have e1 := X8.out.get 1 rfl; have e2 := X8.out.get 2 rfl; have e3 := X8.out.get 3 rfl; have e4 := X8.out.get 4 rfl; clear g8 t8) | (refine wpList_store_obj rfl 23 _ _ rfl w1.heap.size rfl (enV 0 emp 0 emp 0) (enV 0 emp 0 emp 0) rfl 23 Q8.out EO.out.2 rfl (en_one _ _ _ _ _) ?_; intro y1 gy ty; have QY := Lib.hid gy; have TY := Lib.hid ty; clear gy ty))
      exact bodyPost_ret (results_obj_tmp Tryz.results38 EO.out _ w1.heap.size rfl _ (enV 0 emp 0 emp 0) QY.out rfl) rfl ⟨⟨0, emp, 0, emp, 0⟩, 6, rfl, .inr ⟨HB0.out, rfl, by rw [if_pos]; exact List.length_eq_zero_iff.1 (by have := HN.out; omega)⟩, B8.out.trans (TY.out.below LW.out)⟩
end Go.Proofs.YtbbaleambgaanaaGreatDoor.Fit
