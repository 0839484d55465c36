/-
  Layer 13: the program's sameNode, slices.EqualFunc over nodes, Equal.
-/
import Derived.Test.YtmbimnnacjbdfaaDoorPk13
import Derived.Test.YtmbimnnacjbdfaaDoorTreCan
namespace Go.Proofs.YtmbimnnacjbdfaaDoor.Tre
open Go.RowKit Go.Proofs.YtmbimnnacjbdfaaDoor.Fit Pnm

set_option maxRecDepth 100000 in
set_option maxHeartbeats 8000000 in
theorem sameNode_any (x y : NdS) (w : World) (hx : NdF w x) (hy : NdF w y) :
    Calls Tryd.prog 31 #[.agg (ndV x).toArray, .agg (ndV y).toArray] w (RetIff (x.n = y.n) w) := by
  have HX := Lib.hid hx.d.bytes; have HY := Lib.hid hy.d.bytes
  have NE : Hid (x.n ≠ y.n → ¬ x.n = y.n) := fun h => h
  have HE0 := Lib.hid fun (w' : World) (h : Below w.heap.size w w') => eq_any x.a x.n.d.length x.cap x.n.d y.a y.n.d.length y.cap y.n.d w' (HX.out.below h) rfl (HY.out.below h) rfl
  obtain ⟨⟨k, p, m, t, d, c⟩, x, xc⟩ := x
  obtain ⟨⟨k', p', m', t', d', c'⟩, x', xc'⟩ := y
  obtain ⟨L, hL⟩ := named d.length
  obtain ⟨L', hL'⟩ := named d'.length
  obtain ⟨T, hT⟩ := named (decide (d = d'))
  show Calls _ _ #[.agg (ndL k p m t x d.length xc c).toArray, .agg (ndL k' p' m' t' x' d'.length xc' c').toArray] _ (RetIff ((⟨k, p, m, t, d, c⟩ : Nd) = ⟨k', p', m', t', d', c'⟩) w)
  obtain ⟨PR, hPR⟩ : ∃ PR : Prop, PR = ((⟨k, p, m, t, d, c⟩ : Nd) = ⟨k', p', m', t', d', c'⟩) := ⟨_, rfl⟩
  have PY : Hid (PR ↔ (⟨k, p, m, t, d, c⟩ : Nd) = ⟨k', p', m', t', d', c'⟩) := by show _ ↔ _; rw [hPR]
  rw [← hPR]
  have HE : Hid (∀ w', Below w.heap.size w w' → Calls Tryd.prog 47 #[.slice x L xc, .slice x' L' xc'] w' fun e w'' => e = .returned (.bool T) ∧ w' = w'') := by rw [hL.out, hL'.out, hT.out]; exact HE0
  rw [← hL.out, ← hL'.out]
  clear hx hy HX HY hL hL' HE0 hPR
  by_cases hk : k = k'
  · subst hk
    have nk : (k == k) = true := by simp
    by_cases hp : p = p'
    · subst hp
      have np : (p.toList == p.toList) = true := beq_self_eq_true _
      by_cases hm : m = m'
      · subst hm
        have nm : (m == m) = true := by simp
        by_cases ht : t = t'
        · subst ht
          have nt : (t.toList == t.toList) = true := beq_self_eq_true _
          by_cases hd : d = d'
          · obtain rfl : T = true := by rw [hT.out]; simpa using hd
            have HD := Lib.hid hd
            clear hd hT
            by_cases hc : c = c'
            · subst hc
              have nc : (c == c) = true := by simp
              go_enter Tryd.func31, Tryd.ntmps31
              go_wp2_with (first | (refine wpList_box_obj rfl 32 _ rfl (ndL k p m t x L xc c) rfl ?_; intro w1 g1 b1; have G1 := Lib.hid g1; have B1 := Lib.hid b1; clear g1 b1) | (refine wpList_box_obj rfl 32 _ rfl (ndL k p m t x' L' xc' c) rfl ?_; intro w2 g2 b2; have c0 := (G1.out.below b2 G1.out.lt).get 0 rfl; have c1 := (G1.out.below b2 G1.out.lt).get 1 rfl; have c2 := (G1.out.below b2 G1.out.lt).get 2 rfl; have c3 := (G1.out.below b2 G1.out.lt).get 3 rfl; have c4 := (G1.out.below b2 G1.out.lt).get 4 rfl; have c5 := (G1.out.below b2 G1.out.lt).get 5 rfl; have d0 := g2.get 0 rfl; have d1 := g2.get 1 rfl; have d2 := g2.get 2 rfl; have d3 := g2.get 3 rfl; have d4 := g2.get 4 rfl; have d5 := g2.get 5 rfl; have B2 := Lib.hid (belT B1.out b2); clear g2 b2; go_wp2_with fail))
              refine (HE.out w2 B2.out).mono ?_; rintro e w3 ⟨rfl, rfl⟩
              go_wp2_with fail
              go_ret
              exact .yes (PY.out.mpr (by rw [HD.out])) B2.out
            · have e := NE.out fun h => hc (congrArg Nd.c h)
              have HN := Lib.hid e
              have nc : (c == c') = false := by simpa using hc
              clear e hc NE
              go_enter Tryd.func31, Tryd.ntmps31
              go_wp2_with (first | (refine wpList_box_obj rfl 32 _ rfl (ndL k p m t x L xc c) rfl ?_; intro w1 g1 b1; have G1 := Lib.hid g1; have B1 := Lib.hid b1; clear g1 b1) | (refine wpList_box_obj rfl 32 _ rfl (ndL k p m t x' L' xc' c') rfl ?_; intro w2 g2 b2; have c0 := (G1.out.below b2 G1.out.lt).get 0 rfl; have c1 := (G1.out.below b2 G1.out.lt).get 1 rfl; have c2 := (G1.out.below b2 G1.out.lt).get 2 rfl; have c3 := (G1.out.below b2 G1.out.lt).get 3 rfl; have c4 := (G1.out.below b2 G1.out.lt).get 4 rfl; have c5 := (G1.out.below b2 G1.out.lt).get 5 rfl; have d0 := g2.get 0 rfl; have d1 := g2.get 1 rfl; have d2 := g2.get 2 rfl; have d3 := g2.get 3 rfl; have d4 := g2.get 4 rfl; have d5 := g2.get 5 rfl; have B2 := Lib.hid (belT B1.out b2); clear g2 b2; go_wp2_with fail))
              refine (HE.out w2 B2.out).mono ?_; rintro e w3 ⟨rfl, rfl⟩
              go_wp2_with fail
              go_ret
              exact .no (fun h => HN.out (PY.out.mp h)) B2.out
          · obtain rfl : T = false := by rw [hT.out]; simpa using hd
            have e := NE.out fun h => hd (congrArg Nd.d h)
            have HN := Lib.hid e
            clear e hd hT NE
            go_enter Tryd.func31, Tryd.ntmps31
            go_wp2_with (first | (refine wpList_box_obj rfl 32 _ rfl (ndL k p m t x L xc c) rfl ?_; intro w1 g1 b1; have G1 := Lib.hid g1; have B1 := Lib.hid b1; clear g1 b1) | (refine wpList_box_obj rfl 32 _ rfl (ndL k p m t x' L' xc' c') rfl ?_; intro w2 g2 b2; have c0 := (G1.out.below b2 G1.out.lt).get 0 rfl; have c1 := (G1.out.below b2 G1.out.lt).get 1 rfl; have c2 := (G1.out.below b2 G1.out.lt).get 2 rfl; have c3 := (G1.out.below b2 G1.out.lt).get 3 rfl; have c4 := (G1.out.below b2 G1.out.lt).get 4 rfl; have c5 := (G1.out.below b2 G1.out.lt).get 5 rfl; have d0 := g2.get 0 rfl; have d1 := g2.get 1 rfl; have d2 := g2.get 2 rfl; have d3 := g2.get 3 rfl; have d4 := g2.get 4 rfl; have d5 := g2.get 5 rfl; have B2 := Lib.hid (belT B1.out b2); clear g2 b2; go_wp2_with fail))
            refine (HE.out w2 B2.out).mono ?_; rintro e w3 ⟨rfl, rfl⟩
            go_wp2_with fail
            go_ret
            exact .no (fun h => HN.out (PY.out.mp h)) B2.out
        · have e := NE.out fun h => ht (congrArg Nd.t h)
          have HN := Lib.hid e
          have nt := toList_ne ht
          clear e ht NE HE hT
          go_enter Tryd.func31, Tryd.ntmps31
          go_wp2_with (first | (refine wpList_box_obj rfl 32 _ rfl (ndL k p m t x L xc c) rfl ?_; intro w1 g1 b1; have G1 := Lib.hid g1; have B1 := Lib.hid b1; clear g1 b1) | (refine wpList_box_obj rfl 32 _ rfl (ndL k p m t' x' L' xc' c') rfl ?_; intro w2 g2 b2; have c0 := (G1.out.below b2 G1.out.lt).get 0 rfl; have c1 := (G1.out.below b2 G1.out.lt).get 1 rfl; have c2 := (G1.out.below b2 G1.out.lt).get 2 rfl; have c3 := (G1.out.below b2 G1.out.lt).get 3 rfl; have c4 := (G1.out.below b2 G1.out.lt).get 4 rfl; have c5 := (G1.out.below b2 G1.out.lt).get 5 rfl; have d0 := g2.get 0 rfl; have d1 := g2.get 1 rfl; have d2 := g2.get 2 rfl; have d3 := g2.get 3 rfl; have d4 := g2.get 4 rfl; have d5 := g2.get 5 rfl; have B2 := Lib.hid (belT B1.out b2); clear g2 b2; go_wp2_with fail))
          go_ret
          exact .no (fun h => HN.out (PY.out.mp h)) B2.out
      · have e := NE.out fun h => hm (congrArg Nd.m h)
        have HN := Lib.hid e
        have nm : (m == m') = false := by simpa using hm
        clear e hm NE HE hT
        go_enter Tryd.func31, Tryd.ntmps31
        go_wp2_with (first | (refine wpList_box_obj rfl 32 _ rfl (ndL k p m t x L xc c) rfl ?_; intro w1 g1 b1; have G1 := Lib.hid g1; have B1 := Lib.hid b1; clear g1 b1) | (refine wpList_box_obj rfl 32 _ rfl (ndL k p m' t' x' L' xc' c') rfl ?_; intro w2 g2 b2; have c0 := (G1.out.below b2 G1.out.lt).get 0 rfl; have c1 := (G1.out.below b2 G1.out.lt).get 1 rfl; have c2 := (G1.out.below b2 G1.out.lt).get 2 rfl; have c3 := (G1.out.below b2 G1.out.lt).get 3 rfl; have c4 := (G1.out.below b2 G1.out.lt).get 4 rfl; have c5 := (G1.out.below b2 G1.out.lt).get 5 rfl; have d0 := g2.get 0 rfl; have d1 := g2.get 1 rfl; have d2 := g2.get 2 rfl; have d3 := g2.get 3 rfl; have d4 := g2.get 4 rfl; have d5 := g2.get 5 rfl; have B2 := Lib.hid (belT B1.out b2); clear g2 b2; go_wp2_with fail))
        go_ret
        exact .no (fun h => HN.out (PY.out.mp h)) B2.out
    · have e := NE.out fun h => hp (congrArg Nd.p h)
      have HN := Lib.hid e
      have np := toList_ne hp
      clear e hp NE HE hT
      go_enter Tryd.func31, Tryd.ntmps31
      go_wp2_with (first | (refine wpList_box_obj rfl 32 _ rfl (ndL k p m t x L xc c) rfl ?_; intro w1 g1 b1; have G1 := Lib.hid g1; have B1 := Lib.hid b1; clear g1 b1) | (refine wpList_box_obj rfl 32 _ rfl (ndL k p' m' t' x' L' xc' c') rfl ?_; intro w2 g2 b2; have c0 := (G1.out.below b2 G1.out.lt).get 0 rfl; have c1 := (G1.out.below b2 G1.out.lt).get 1 rfl; have c2 := (G1.out.below b2 G1.out.lt).get 2 rfl; have c3 := (G1.out.below b2 G1.out.lt).get 3 rfl; have c4 := (G1.out.below b2 G1.out.lt).get 4 rfl; have c5 := (G1.out.below b2 G1.out.lt).get 5 rfl; have d0 := g2.get 0 rfl; have d1 := g2.get 1 rfl; have d2 := g2.get 2 rfl; have d3 := g2.get 3 rfl; have d4 := g2.get 4 rfl; have d5 := g2.get 5 rfl; have B2 := Lib.hid (belT B1.out b2); clear g2 b2; go_wp2_with fail))
      go_ret
      exact .no (fun h => HN.out (PY.out.mp h)) B2.out
  · have e := NE.out fun h => hk (congrArg Nd.k h)
    have HN := Lib.hid e
    have nk : (k == k') = false := by simpa using hk
    clear e hk NE HE hT
    go_enter Tryd.func31, Tryd.ntmps31
    go_wp2_with (first | (refine wpList_box_obj rfl 32 _ rfl (ndL k p m t x L xc c) rfl ?_; intro w1 g1 b1; have G1 := Lib.hid g1; have B1 := Lib.hid b1; clear g1 b1) | (refine wpList_box_obj rfl 32 _ rfl (ndL k' p' m' t' x' L' xc' c') rfl ?_; intro w2 g2 b2; have c0 := (G1.out.below b2 G1.out.lt).get 0 rfl; have c1 := (G1.out.below b2 G1.out.lt).get 1 rfl; have c2 := (G1.out.below b2 G1.out.lt).get 2 rfl; have c3 := (G1.out.below b2 G1.out.lt).get 3 rfl; have c4 := (G1.out.below b2 G1.out.lt).get 4 rfl; have c5 := (G1.out.below b2 G1.out.lt).get 5 rfl; have d0 := g2.get 0 rfl; have d1 := g2.get 1 rfl; have d2 := g2.get 2 rfl; have d3 := g2.get 3 rfl; have d4 := g2.get 4 rfl; have d5 := g2.get 5 rfl; have B2 := Lib.hid (belT B1.out b2); clear g2 b2; go_wp2_with fail))
    go_ret
    exact .no (fun h => HN.out (PY.out.mp h)) B2.out

set_option maxRecDepth 100000 in
set_option maxHeartbeats 8000000 in
theorem eqf_any (a : Option Addr) (n cap : Nat) (ys : List NdS) (a' : Option Addr) (n' cap' : Nat) (zs : List NdS) (w : World) (ha : ArgNds w a n cap ys) (hb : ArgNds w a' n' cap' zs) :
    Calls Tryd.prog 30 #[.slice a n cap, .slice a' n' cap', .func (.func 31) #[] #[]] w (RetIff (nds ys = nds zs) w) := by
  have HA := Lib.hid ha
  have HB := Lib.hid hb
  have NZ := Lib.hid zNd
  have NO := Lib.hid ndT
  have hn : n ≤ maxLen := Nat.le_trans ha.c ha.m
  have LA : Hid ((nds ys).length = n) := by show _ = _; rw [nds_len]; exact ha.n
  have LB : Hid ((nds zs).length = n') := by show _ = _; rw [nds_len]; exact hb.n
  unfold maxLen at hn
  clear ha hb
  by_cases hnn : n = n'
  · subst hnn
    have ni : ((n : Int) != (n : Int)) = false := by simp
    go_enter Tryd.func30, Tryd.ntmps30
    go_wp2_with fail
    go_loopw [17] (fun i wr => ∃ j : Nat, i = .int .i64 j ∧ j ≤ n ∧ (∀ k, k < j → nd (nds ys) k = nd (nds zs) k) ∧ Below w.heap.size w wr) (fun i _ => n - (intOf i).toNat)
    case atStart => exact ⟨0, rfl, Nat.zero_le _, fun k hk => absurd hk (Nat.not_lt_zero k), Below.refl _ _⟩
    case round =>
      obtain ⟨j, rfl, hj, hp, hW⟩ := hrel
      have HP := Lib.hid hp; have HW := Lib.hid hW
      clear hp hW
      by_cases hjn : j < n
      · obtain ⟨b, off, y, rfl, hb, hy, hf, hat⟩ := HA.out.get j hjn
        obtain ⟨b', off', z, rfl, hb', hz, hf', hat'⟩ := HB.out.get j hjn
        obtain ⟨c0, c1, c2, c3, c4, c5⟩ := (hat.below HW.out hb).c hy
        have ZC := Lib.hid fun (q : World) (hq : Below w.heap.size w q) => (hat'.below hq hb').c hz
        have EY : Hid (nd (nds ys) j = y.n ∧ nd (nds zs) j = z.n) := ⟨nd_y hy, nd_y hz⟩
        have SN : Hid (∀ q : World, Below w.heap.size w q → Calls Tryd.prog 31 #[.agg (ndV y).toArray, .agg (ndV z).toArray] q (RetIff (y.n = z.n) q)) := fun q hq => sameNode_any y z q (hf.below hq) (hf'.below hq)
        clear hat hat' hf hf' hy hz hb hb'
        obtain ⟨⟨k, p, m, t, d, c⟩, x, xc⟩ := y
        obtain ⟨⟨k', p', m', t', d', c'⟩, x', xc'⟩ := z
        obtain ⟨L, hL⟩ := named d.length
        obtain ⟨L', hL'⟩ := named d'.length
        have c4' : wr.cell? ⟨b, off + j * 6 + 4, none⟩ = some (.slice x L xc) := by rw [hL.out]; exact c4
        have ZC' : Hid (∀ q : World, Below w.heap.size w q → q.cell? ⟨b', off' + j * 6, none⟩ = some (.int .i64 k') ∧ q.cell? ⟨b', off' + j * 6 + 1, none⟩ = some (.string p') ∧ q.cell? ⟨b', off' + j * 6 + 2, none⟩ = some (.int .i64 m') ∧ q.cell? ⟨b', off' + j * 6 + 3, none⟩ = some (.string t') ∧ q.cell? ⟨b', off' + j * 6 + 4, none⟩ = some (.slice x' L' xc') ∧ q.cell? ⟨b', off' + j * 6 + 5, none⟩ = some (.int .i64 c')) := by rw [hL'.out]; exact ZC.out
        obtain ⟨PR, hPR⟩ : ∃ PR : Prop, PR = ((⟨k, p, m, t, d, c⟩ : Nd) = ⟨k', p', m', t', d', c'⟩) := ⟨_, rfl⟩
        have SN' : Hid (∀ q : World, Below w.heap.size w q → Calls Tryd.prog 31 #[.agg (ndL k p m t x L xc c).toArray, .agg (ndL k' p' m' t' x' L' xc' c').toArray] q (RetIff PR q)) := by rw [hL.out, hL'.out, hPR]; exact SN.out
        have PE : Hid (PR ↔ nd (nds ys) j = nd (nds zs) j) := by show _ ↔ _; rw [EY.out.1, EY.out.2, hPR]
        clear c4 hL hL' ZC SN hPR EY
        have j1 : (j : Int) < n := by omega
        go_wp2_with (first | (have q3 := G3.out; clear q3; refine wpList_alloc_obj rfl 32 rfl (ndL 0 emp 0 emp none 0 0 0) NZ.out ?_; intro w4 g4 b4; have G4 := Lib.hid g4; have K4 := Lib.hid (G3.out.below b4 G3.out.lt); have L4 := Lib.hid G3.out.lt; have B4 := Lib.hid (belT B3.out b4); clear g4 b4 z0 z1 z2 z3 z4 z5) | (refine wpList_alloc_obj rfl 32 rfl (ndL 0 emp 0 emp none 0 0 0) NZ.out ?_; intro w2 g2 b2; have G2 := Lib.hid g2; have B2 := Lib.hid (belT HW.out b2); clear g2 b2 c0 c1 c2 c3 c4' c5) | (have q4 := G4.out; clear q4; refine wpList_store_obj rfl 32 _ _ rfl w3.heap.size rfl (ndL k' p' m' t' x' L' xc' c') (ndL 0 emp 0 emp none 0 0 0) rfl 32 G4.out NO.out.2 rfl (nd_one _ _ _ _ _ _ _ _) ?_; intro w5 g5 t5; have K5 := Lib.hid (K4.out.turned t5 (Nat.ne_of_lt L4.out)); have B5 := Lib.hid (B4.out.trans (t5.below B3.out.size)); have c0 := K5.out.get 0 rfl; have c1 := K5.out.get 1 rfl; have c2 := K5.out.get 2 rfl; have c3 := K5.out.get 3 rfl; have c4 := K5.out.get 4 rfl; have c5 := K5.out.get 5 rfl; have z0 := g5.get 0 rfl; have z1 := g5.get 1 rfl; have z2 := g5.get 2 rfl; have z3 := g5.get 3 rfl; have z4 := g5.get 4 rfl; have z5 := g5.get 5 rfl; clear g5 t5; go_wp2_with fail) | (refine wpList_store_obj rfl 32 _ _ rfl wr.heap.size rfl (ndL k p m t x L xc c) (ndL 0 emp 0 emp none 0 0 0) rfl 32 G2.out NO.out.2 rfl (nd_one _ _ _ _ _ _ _ _) ?_; intro w3 g3 t3; have G3 := Lib.hid g3; have B3 := Lib.hid (B2.out.trans (t3.below HW.out.size)); obtain ⟨z0, z1, z2, z3, z4, z5⟩ := ZC'.out w3 B3.out; clear g3 t3))
        refine (SN'.out w5 B5.out).mono ?_; rintro e w6 ⟨Bv, rfl, hiff, b6⟩
        have B6 := Lib.hid (belT B5.out b6)
        have IF := Lib.hid hiff
        clear b6 hiff c0 c1 c2 c3 c4 c5 z0 z1 z2 z3 z4 z5
        cases Bv with
        | true =>
          go_wp2_with fail
          go_round
          case rel => exact ⟨j + 1, by go_num, by omega, fun k'' hk => by
            by_cases h : k'' < j
            · exact HP.out k'' h
            · obtain rfl : k'' = j := by omega
              exact PE.out.mp (IF.out.mp (by first | exact rfl | trivial)), B6.out⟩
          case measure => simp [intOf]; omega
        | false =>
          have HN : Hid (¬ nds ys = nds zs) := fun h => by have := IF.out.mpr (PE.out.mpr (by rw [h])); cases this
          go_wp2_with fail
          go_ret
          exact .no HN.out B6.out
      · obtain rfl : j = n := by omega
        go_wp2
        go_ret
        exact .yes (nd_ext (by rw [LA.out, LB.out]) fun k hk => HP.out k (by rw [← LA.out]; exact hk)) HW.out
  · have ni : ((n : Int) != (n' : Int)) = true := by simp; omega
    go_enter Tryd.func30, Tryd.ntmps30
    go_wp2_with fail
    go_ret
    exact .no (fun h => hnn (by rw [← LA.out, ← LB.out, h])) (Below.refl _ _)

set_option maxRecDepth 100000 in
set_option maxHeartbeats 4000000 in
theorem equal_any (a : Option Addr) (n cap : Nat) (ys : List NdS) (a' : Option Addr) (n' cap' : Nat) (zs : List NdS) (w : World) (ha : ArgNds w a n cap ys) (hb : ArgNds w a' n' cap' zs) (h40 : n ≤ 40) (h40' : n' ≤ 40) :
    Calls Tryd.prog 13 #[.slice a n cap, .slice a' n' cap'] w (RetIff (canon (nds ys) = canon (nds zs)) w) := by
  have C1 := Lib.hid (canon_any a n cap ys w ha h40)
  have C2 : Hid (∀ q, Below w.heap.size w q → Calls Tryd.prog 10 #[.slice a' n' cap'] q (CanP q n' zs)) := fun q hq => canon_any a' n' cap' zs q (hb.below hq) h40'
  clear ha hb
  go_enter Tryd.func13, Tryd.ntmps13
  go_wp2_with fail
  refine C1.out.mono ?_; rintro e w1 ⟨r, rc, us, rfl, hu, eu, _, _, b1⟩
  have HU := Lib.hid hu; have EU := Lib.hid eu; have B1 := Lib.hid b1
  clear hu eu b1 C1
  go_wp2_with fail
  refine (C2.out w1 B1.out).mono ?_; rintro e w2 ⟨r', rc', vs, rfl, hv, ev, _, _, b2⟩
  have HV := Lib.hid hv; have EV := Lib.hid ev; have B2 := Lib.hid (belT B1.out b2); have HU2 := Lib.hid (HU.out.below b2)
  clear hv ev b2 C2
  go_wp2_with fail
  refine (eqf_any r n rc us r' n' rc' vs w2 HU2.out HV.out).mono ?_; rintro e w3 ⟨Bv, rfl, hiff, b3⟩
  have B3 := Lib.hid (belT B2.out b3)
  have IF := Lib.hid hiff
  clear hiff b3
  go_wp2_with fail
  go_ret
  exact ⟨Bv, rfl, by rw [← EU.out, ← EV.out]; exact IF.out, B3.out⟩
end Go.Proofs.YtmbimnnacjbdfaaDoor.Tre
