/-
  Layer 13: the program's checkNode, the reference's one.
-/
import Derived.Test.YtmbimnnacjbdfaaGreatDoorPz19
import Derived.Test.YtmbimnnacjbdfaaGreatDoorPz14
import Derived.Test.YtmbimnnacjbdfaaGreatDoorPz09
import Derived.Test.YtmbimnnacjbdfaaGreatDoorPz25
import Derived.Test.YtmbimnnacjbdfaaGreatDoorPz18
import Derived.Test.YtmbimnnacjbdfaaGreatDoorPz17
namespace Go.Proofs.YtmbimnnacjbdfaaGreatDoor.Tre
open Go.RowKit Go.Proofs.YtmbimnnacjbdfaaGreatDoor.Fit

/-- what is left to test behind the entry's own check -/
theorem one_of {k : Int} {p : ByteArray} {m : Int} {t : ByteArray} {d : List Int} {c E R : Int} (hR : R = oneE ⟨k, p, m, t, d, c⟩) (h1 : 0 ≤ k) (h2 : k ≤ 2) (hE : E = ckE ⟨k, p, m, t, if k = 1 then (d.length : Int) else 0⟩) :
    R = if E ≠ 0 then E else if k ≠ 1 ∧ 0 < d.length then 2 else if c < 0 ∨ (k ≠ 1 ∧ c ≠ 0) then 15 else 0 := by
  rw [hR, hE]
  unfold oneE entN
  dsimp only
  rw [if_neg (by omega)]
  congr 2
  have e : d ≠ [] ↔ 0 < d.length := List.length_pos_iff.symm
  rw [e]

set_option maxRecDepth 100000 in
set_option maxHeartbeats 4000000 in
theorem pone_any (k : Int) (p : ByteArray) (m : Int) (t : ByteArray) (a : Option Addr) (d : List Int) (cap : Nat) (c : Int) (w : World) (V : FVars w) (hp : p.size ≤ maxLen) (ht : t.size ≤ maxLen) :
    Calls Tryz.prog 30 #[.agg (ndL k p m t a d.length cap c).toArray] w fun e w' => e = .returned (.int .i64 (oneE ⟨k, p, m, t, d, c⟩)) ∧ Below w.heap.size w w' := by
  have EZ := Lib.hid zEn
  have EO := Lib.hid enT
  have S8 := Lib.hid sI64
  obtain ⟨R, hR⟩ := named (oneE ⟨k, p, m, t, d, c⟩)
  obtain ⟨E, hE⟩ := named (ckE ⟨k, p, m, t, if k = 1 then (d.length : Int) else 0⟩)
  have HC : Hid (∀ (s : Int) w', s = (if k = 1 then (d.length : Int) else 0) → Below w.heap.size w w' → Calls Tryz.prog 40 #[.agg (enV k p m t s).toArray] w' fun e w'' => e = .returned (.int .i64 E) ∧ Below w'.heap.size w' w'') := fun s w' hs hb => by
    rw [hE.out, ← hs]; exact pcheck_any k p m t s w' (V.go hb) hp ht
  have HR : Hid (0 ≤ k → k ≤ 2 → R = if E ≠ 0 then E else if k ≠ 1 ∧ 0 < d.length then 2 else if c < 0 ∨ (k ≠ 1 ∧ c ≠ 0) then 15 else 0) := fun h1 h2 => one_of hR.out h1 h2 hE.out
  have HB : Hid (¬ (0 ≤ k ∧ k ≤ 2) → R = 8) := fun h => by rw [hR.out]; unfold oneE; dsimp only; rw [if_pos (by omega)]
  obtain ⟨N, hN⟩ := named d.length
  rw [← hR.out]
  rw [← hN.out] at HC HR ⊢
  clear hR hE hN V hp ht
  by_cases hk : 0 ≤ k ∧ k ≤ 2
  · have HR' := Lib.hid (HR.out hk.1 hk.2)
    clear HR HB
    by_cases k1 : k = 1
    · subst k1
      have HC' := Lib.hid fun (w' : World) => HC.out N w' (by rw [if_pos rfl])
      have HQ : Hid (R = if E ≠ 0 then E else if c < 0 then 15 else 0) := by
        show _ = _
        rw [HR'.out, if_neg (c := (1 : Int) ≠ 1 ∧ _) (by omega)]
        by_cases z : c < 0
        · rw [if_pos (c := c < 0 ∨ _) (.inl z), if_pos z]
        · rw [if_neg (c := c < 0 ∨ _) (by omega), if_neg z]
      clear HC HR' hk
      go_enter Tryz.func30, Tryz.ntmps30
      go_wp2_with (first | (refine wpList_box_obj rfl 50 _ rfl (ndL 1 p m t a N cap c) rfl ?_; intro w1 g1 b1; have G1 := Lib.hid g1; have B1 := Lib.hid b1; have c0 := g1.get 0 rfl; have c1 := g1.get 1 rfl; have c2 := g1.get 2 rfl; have c3 := g1.get 3 rfl; clear g1 b1) | (refine wpList_alloc_obj rfl 24 rfl (enV 0 emp 0 emp 0) EZ.out ?_; intro w2 g2 b2; have G2 := Lib.hid g2; have N1 := Lib.hid G1.out.lt; have K1 := Lib.hid (G1.out.below b2 G1.out.lt); have B2 := Lib.hid (belT B1.out b2); clear g2 b2 c0 c1 c2 c3) | (refine wpList_store_obj rfl 24 _ _ rfl w1.heap.size rfl (enV 1 p m t 0) (enV 0 emp 0 emp 0) rfl 24 G2.out EO.out.2 rfl (en_one _ _ _ _ _) ?_; intro w3 g3 t3; have G3 := Lib.hid g3; have K3 := Lib.hid (K1.out.turned t3 (Nat.ne_of_lt N1.out)); have B3 := Lib.hid (B2.out.trans (t3.below B1.out.size)); have c0 := K3.out.get 0 rfl; have c4 := K3.out.get 4 rfl; clear g3 t3) | (refine wpList_store_cell rfl 2 _ _ rfl w1.heap.size 4 rfl (.int .i64 N) rfl rfl S8.out 24 _ G3.out (by simp) ?_; intro w4 g4 t4; have G4 := Lib.hid (show ObjAt w4 w1.heap.size 24 (enV 1 p m t N) from g4); have K4 := Lib.hid (K3.out.turnB t4 (Nat.ne_of_lt N1.out)); have B4 := Lib.hid (B3.out.trans (t4.below B1.out.size)); have d0 := g4.get 0 rfl; have d1 := g4.get 1 rfl; have d2 := g4.get 2 rfl; have d3 := g4.get 3 rfl; have d4 := g4.get 4 rfl; clear g4 t4 c0 c4))
      refine (HC'.out w4 B4.out).mono ?_; rintro e w5 ⟨rfl, b5⟩
      have K5 := Lib.hid (K4.out.below b5 K4.out.lt)
      have B5 := Lib.hid (belT B4.out b5)
      have c0 := K5.out.get 0 rfl
      have c5 := K5.out.get 5 rfl
      clear b5 d0 d1 d2 d3 d4 HC'
      by_cases z : E = 0
      · subst z
        by_cases zc : c < 0
        · have e := HQ.out; rw [if_neg (by simp), if_pos zc] at e; subst e
          clear HQ
          go_wp2_with fail
          go_ret
          exact ⟨rfl, B5.out⟩
        · have e := HQ.out; rw [if_neg (by simp), if_neg zc] at e; subst e
          clear HQ
          go_wp2_with fail
          go_ret
          exact ⟨rfl, B5.out⟩
      · have e := HQ.out; rw [if_pos z] at e; subst e
        have nz : (R != 0) = true := by simpa using z
        clear HQ z
        go_wp2_with fail
        go_ret
        exact ⟨rfl, B5.out⟩
    · have HC' := Lib.hid fun (w' : World) => HC.out 0 w' (by rw [if_neg k1])
      have n1 : (k == 1) = false := by simpa using k1
      have n2 : (k != 1) = true := by simpa using k1
      have HQ : Hid (R = if E ≠ 0 then E else if 0 < N then 2 else if c = 0 then 0 else 15) := by
        show _ = _
        rw [HR'.out]
        by_cases z : 0 < N
        · rw [if_pos (c := k ≠ 1 ∧ _) ⟨k1, z⟩, if_pos z]
        · rw [if_neg (c := k ≠ 1 ∧ _) (fun h => z h.2), if_neg z]
          by_cases z : c = 0
          · rw [if_neg (c := c < 0 ∨ _) (by omega), if_pos z]
          · rw [if_pos (c := c < 0 ∨ _) (.inr ⟨k1, z⟩), if_neg z]
      have kk : k = 0 ∨ k = 2 := by omega
      clear HC HR' hk k1
      rcases kk with rfl | rfl
      all_goals
        go_enter Tryz.func30, Tryz.ntmps30
        go_wp2_with (first | (refine wpList_box_obj rfl 50 _ rfl (ndL _ p m t a N cap c) rfl ?_; intro w1 g1 b1; have G1 := Lib.hid g1; have B1 := Lib.hid b1; have c0 := g1.get 0 rfl; have c1 := g1.get 1 rfl; have c2 := g1.get 2 rfl; have c3 := g1.get 3 rfl; clear g1 b1) | (refine wpList_alloc_obj rfl 24 rfl (enV 0 emp 0 emp 0) EZ.out ?_; intro w2 g2 b2; have G2 := Lib.hid g2; have N1 := Lib.hid G1.out.lt; have K1 := Lib.hid (G1.out.below b2 G1.out.lt); have B2 := Lib.hid (belT B1.out b2); clear g2 b2 c0 c1 c2 c3) | (refine wpList_store_obj rfl 24 _ _ rfl w1.heap.size rfl (enV _ p m t 0) (enV 0 emp 0 emp 0) rfl 24 G2.out EO.out.2 rfl (en_one _ _ _ _ _) ?_; intro w3 g3 t3; have G3 := Lib.hid g3; have K3 := Lib.hid (K1.out.turned t3 (Nat.ne_of_lt N1.out)); have B3 := Lib.hid (B2.out.trans (t3.below B1.out.size)); have c0 := K3.out.get 0 rfl; have c4 := K3.out.get 4 rfl; have d0 := g3.get 0 rfl; have d1 := g3.get 1 rfl; have d2 := g3.get 2 rfl; have d3 := g3.get 3 rfl; have d4 := g3.get 4 rfl; clear g3 t3))
        refine (HC'.out w3 B3.out).mono ?_; rintro e w5 ⟨rfl, b5⟩
        have K5 := Lib.hid (K3.out.below b5 K3.out.lt)
        have B5 := Lib.hid (belT B3.out b5)
        have c0 := K5.out.get 0 rfl
        have c4 := K5.out.get 4 rfl
        have c5 := K5.out.get 5 rfl
        clear b5 d0 d1 d2 d3 d4 HC'
        by_cases z : E = 0
        · subst z
          by_cases zn : 0 < N
          · have e := HQ.out; rw [if_neg (by simp), if_pos zn] at e; subst e
            have zi : (0 : Int) < N := by omega
            clear HQ zn
            go_wp2_with fail
            go_ret
            exact ⟨rfl, B5.out⟩
          · have zi : ¬ (0 : Int) < N := by omega
            by_cases zc : c = 0
            · have e := HQ.out; rw [if_neg (by simp), if_neg zn, if_pos zc] at e; subst e; subst zc
              clear HQ zn
              go_wp2_with fail
              go_ret
              exact ⟨rfl, B5.out⟩
            · have e := HQ.out; rw [if_neg (by simp), if_neg zn, if_neg zc] at e; subst e
              have nz : (c != 0) = true := by simpa using zc
              clear HQ zn
              by_cases zl : c < 0
              · clear nz zc
                go_wp2_with fail
                go_ret
                exact ⟨rfl, B5.out⟩
              · clear zc
                go_wp2_with fail
                go_ret
                exact ⟨rfl, B5.out⟩
        · have e := HQ.out; rw [if_pos z] at e; subst e
          have nz : (R != 0) = true := by simpa using z
          clear HQ z
          go_wp2_with fail
          go_ret
          exact ⟨rfl, B5.out⟩
  · have e := HB.out hk; subst e
    have k0 : (k == 0) = false := by have : k ≠ 0 := by omega
                                     simpa using this
    have k2 : (k == 2) = false := by have : k ≠ 2 := by omega
                                     simpa using this
    have k1 : (k == 1) = false := by have : k ≠ 1 := by omega
                                     simpa using this
    clear HR HB HC hk
    go_enter Tryz.func30, Tryz.ntmps30
    go_wp2_with (first | (refine wpList_box_obj rfl 50 _ rfl (ndL k p m t a N cap c) rfl ?_; intro w1 g1 b1; have G1 := Lib.hid g1; have B1 := Lib.hid b1; have c0 := g1.get 0 rfl; have c1 := g1.get 1 rfl; have c2 := g1.get 2 rfl; have c3 := g1.get 3 rfl; clear g1 b1) | (refine wpList_alloc_obj rfl 24 rfl (enV 0 emp 0 emp 0) EZ.out ?_; intro w2 g2 b2; have G2 := Lib.hid g2; have N1 := Lib.hid G1.out.lt; have K1 := Lib.hid (G1.out.below b2 G1.out.lt); have B2 := Lib.hid (belT B1.out b2); clear g2 b2 c0 c1 c2 c3) | (refine wpList_store_obj rfl 24 _ _ rfl w1.heap.size rfl (enV k p m t 0) (enV 0 emp 0 emp 0) rfl 24 G2.out EO.out.2 rfl (en_one _ _ _ _ _) ?_; intro w3 g3 t3; have B3 := Lib.hid (B2.out.trans (t3.below B1.out.size)); have c0 := (K1.out.turned t3 (Nat.ne_of_lt N1.out)).get 0 rfl; clear g3 t3))
    go_ret
    exact ⟨rfl, B3.out⟩
end Go.Proofs.YtmbimnnacjbdfaaGreatDoor.Tre
/-
  Layer 13: the program's Check.
-/
namespace Go.Proofs.YtmbimnnacjbdfaaGreatDoor.Tre
open Go.RowKit Go.MapKept Go.Proofs.YtmbimnnacjbdfaaGreatDoor.Fit Pnm

set_option maxRecDepth 100000 in
set_option maxHeartbeats 4000000 in
theorem pchk_any (a : Option Addr) (n cap : Nat) (ys : List NdS) (w : World) (V : FVars w) (ha : ArgNds w a n cap ys) :
    Calls Tryz.prog 18 #[.slice a n cap] w fun e w' => e = .returned (.tuple #[.int .i64 (chk (nds ys)).1, .int .i64 (chk (nds ys)).2]) ∧ Below w.heap.size w w' := by
  have HA := Lib.hid ha
  have HV := Lib.hid V
  have NZ := Lib.hid zNd
  have NO := Lib.hid ndT
  have hn : n ≤ maxLen := Nat.le_trans ha.c ha.m
  have HN : Hid (ys.length = n) := ha.n
  have HL : Hid ((nds ys).length = n) := by show _ = _; rw [nds_len]; exact ha.n
  obtain ⟨X1, hX1⟩ := named (chk (nds ys)).1
  obtain ⟨X2, hX2⟩ := named (chk (nds ys)).2
  have FIN : Hid (∀ R : Int, ∀ i : Nat, i < n → (∀ k, k < i → oneE (nd (nds ys) k) = 0) → R = oneE (nd (nds ys) i) → R ≠ 0 → X1 = i ∧ X2 = R) := fun R i hi hp hR h0 => by
    have := chk_one (l := nds ys) (i := i) (by rw [HL.out]; exact hi) hp (by rw [← hR]; exact h0)
    rw [hX1.out, hX2.out, this, hR]; exact ⟨rfl, rfl⟩
  have HT : Hid ((∀ k, k < n → oneE (nd (nds ys) k) = 0) → ∀ w', Below w.heap.size w w' → Calls Tryz.prog 31 #[.slice a n cap] w' fun e w'' => e = .returned (.tuple #[.int .i64 X1, .int .i64 X2]) ∧ Below w'.heap.size w' w'') := fun h w' hb => by
    rw [hX1.out, hX2.out]; exact ptog_any a n cap ys w' (HA.out.below hb) h
  rw [← hX1.out, ← hX2.out]
  unfold maxLen at hn
  clear ha V hX1 hX2
  go_enter Tryz.func18, Tryz.ntmps18
  go_wp2_with fail
  go_loopw [9] (fun i wr => ∃ j : Nat, i = .int .i64 j ∧ j ≤ n ∧ (∀ k, k < j → oneE (nd (nds ys) k) = 0) ∧ Below w.heap.size w wr) (fun i _ => n - (intOf i).toNat)
  case atStart => exact ⟨0, rfl, Nat.zero_le _, fun k hk => absurd hk (Nat.not_lt_zero k), Below.refl _ _⟩
  case round =>
    obtain ⟨j, rfl, hj, hp, hB⟩ := hrel
    have HP := Lib.hid hp; have HB := Lib.hid hB
    clear hp hB
    by_cases hjn : j < n
    · obtain ⟨b, off, y, rfl, hb, hy, hf, hat⟩ := HA.out.get j hjn
      have hat' := hat.below HB.out hb
      obtain ⟨c0, c1, c2, c3, c4, c5⟩ := hat'.c hy
      obtain ⟨R, hR⟩ := named (oneE y.n)
      have EY : Hid (R = oneE (nd (nds ys) j)) := by show _ = _; rw [hR.out, nd_y hy]
      have ONE : Hid (∀ w', Below w.heap.size w w' → Calls Tryz.prog 30 #[.agg (ndV y).toArray] w' fun e w'' => e = .returned (.int .i64 R) ∧ Below w'.heap.size w' w'') := fun w' hb' => by
        rw [hR.out]; exact pone_any y.n.k y.n.p y.n.m y.n.t y.a y.n.d y.cap y.n.c w' (HV.out.go hb') (Nat.le_trans hf.p (by decide)) (Nat.le_trans hf.t (by decide))
      clear hat hat' hf hy hR
      obtain ⟨⟨k, p, m, t, d, c⟩, x, xc⟩ := y
      obtain ⟨L, hL⟩ := named d.length
      have c4' : wr.cell? ⟨b, off + j * 6 + 4, none⟩ = some (.slice x L xc) := by rw [hL.out]; exact c4
      have ONE' : Hid (∀ w', Below w.heap.size w w' → Calls Tryz.prog 30 #[.agg (ndL k p m t x L xc c).toArray] w' fun e w'' => e = .returned (.int .i64 R) ∧ Below w'.heap.size w' w'') := by rw [hL.out]; exact ONE.out
      clear c4 hL ONE hb
      have j1 : (j : Int) < n := by omega
      go_wp2_with (first | (refine wpList_alloc_obj rfl 50 rfl (ndL 0 emp 0 emp none 0 0 0) NZ.out ?_; intro w2 g2 b2; have G2 := Lib.hid g2; have B2 := Lib.hid (belT HB.out b2); clear g2 b2 c0 c1 c2 c3 c4' c5) | (refine wpList_store_obj rfl 50 _ _ rfl wr.heap.size rfl (ndL k p m t x L xc c) (ndL 0 emp 0 emp none 0 0 0) rfl 50 G2.out NO.out.2 rfl (nd_one _ _ _ _ _ _ _ _) ?_; intro w3 g3 t3; have B3 := Lib.hid (B2.out.trans (t3.below HB.out.size)); have c0 := g3.get 0 rfl; have c1 := g3.get 1 rfl; have c2 := g3.get 2 rfl; have c3 := g3.get 3 rfl; have c4 := g3.get 4 rfl; have c5 := g3.get 5 rfl; clear g3 t3))
      refine (ONE'.out w3 B3.out).mono ?_; rintro e w4 ⟨rfl, b4⟩
      have B4 := Lib.hid (belT B3.out b4)
      clear b4 c0 c1 c2 c3 c4 c5
      by_cases hr : R = 0
      · subst hr
        clear FIN HT
        go_wp2_with fail
        go_round
        case rel => exact ⟨j + 1, by go_num, by omega, fun k hk => by
          by_cases h : k < j
          · exact HP.out k h
          · obtain rfl : k = j := by omega
            exact EY.out.symm, B4.out⟩
        case measure => simp [intOf]; omega
      · obtain ⟨q1, q2⟩ := FIN.out R j hjn HP.out EY.out hr
        have nr : (R != 0) = true := by simpa using hr
        clear FIN HT hr EY ONE'
        subst q1 q2
        go_wp2_with fail
        go_ret2
        exact ⟨rfl, B4.out⟩
    · obtain rfl : j = n := by omega
      have H := Lib.hid (HT.out HP.out wr HB.out)
      clear FIN HT
      go_wp2_with fail
      refine H.out.mono ?_; rintro e w4 ⟨rfl, b4⟩
      have B4 := Lib.hid (belT HB.out b4)
      clear b4
      go_wp2_with fail
      go_ret2
      exact ⟨rfl, B4.out⟩
end Go.Proofs.YtmbimnnacjbdfaaGreatDoor.Tre
/-
  Slices of nodes: written out, grown, owned. Nothing of the program.
-/
namespace Go.Proofs.YtmbimnnacjbdfaaGreatDoor.Tre
open Go.RowKit

theorem NdsAt.of_cells {w : World} {g : Nat} {e : TypeId} {ys : List NdS} (h : ObjAt w g e (ndCells ys)) : NdsAt w g 0 ys := fun i y hi j v hv => by
  rw [Nat.zero_add, h.cell]
  exact ndCells_at ys i y hi j v hv
theorem NdsAt.news {w : World} {b off : Nat} {ys : List NdS} (h : NdsAt w b off ys) : ∀ j u, (ndCells ys)[j]? = some u → w.cell? ((⟨b, off, none⟩ : Addr).add j) = some u := fun j u hu => by
  rw [add_plain']
  have hj : j < (ndCells ys).length := (List.getElem?_eq_some_iff.mp hu).1
  rw [ndCells_len] at hj
  have hi : j / 6 < ys.length := by omega
  have hy : ys[j / 6]? = some ys[j / 6] := List.getElem?_eq_getElem hi
  have hr : j % 6 < (ndV ys[j / 6]).length := by simp; omega
  have hv : (ndV ys[j / 6])[j % 6]? = some (ndV ys[j / 6])[j % 6] := List.getElem?_eq_getElem hr
  have h1 := ndCells_at ys (j / 6) _ hy (j % 6) _ hv
  rw [show j / 6 * 6 + j % 6 = j by omega, hu] at h1
  have h2 := h (j / 6) _ hy (j % 6) _ hv
  rw [show off + j / 6 * 6 + j % 6 = off + j by omega] at h2
  rw [h2, h1]
theorem ndCells_one (ys : List NdS) : ∀ u ∈ ndCells ys, u.oneCell' = true := by
  intro u hu
  unfold ndCells at hu
  obtain ⟨y, _, h⟩ := List.mem_flatMap.mp hu
  revert h
  simp
  rintro (rfl | rfl | rfl | rfl | rfl | rfl) <;> rfl
/-- a slice of the call's own -/
theorem NdsIn.of_own {w : World} {base n : Nat} {e : TypeId} {v : Value} {ys : List NdS} (h : w.ownsRow base e 6 v n (ndCells ys)) :
    ∃ a c, v = .slice a n c ∧ n = ys.length ∧ n ≤ c ∧ c ≤ maxLen ∧ NdsIn w a ys ∧ (∀ x, a = some x → base ≤ x.block ∧ x.block < w.heap.size) := by
  have hl := h.1
  rw [ndCells_len] at hl
  have hn : n = ys.length := by omega
  rcases h.2 with ⟨hv, h0⟩ | ⟨g, cap, cur, hv, hb, hh, hc, hm, hs, ht⟩
  · subst h0
    exact ⟨none, 0, hv, hn, Nat.le_refl _, Nat.zero_le _, .inl (List.length_eq_zero_iff.1 hn.symm), fun x hx => by cases hx⟩
  · have hlt : g < w.heap.size := (Array.getElem?_eq_some_iff.1 hh).1
    refine ⟨some ⟨g, 0, none⟩, cap, hv, hn, hc, hm, .inr ⟨g, 0, rfl, hlt, fun i y hi j u hu => ?_⟩, fun x hx => by cases hx; exact ⟨hb, hlt⟩⟩
    have hat := ndCells_at ys i y hi j u hu
    have hir : i < ys.length := (List.getElem?_eq_some_iff.1 hi).1
    have hj6 : j < 6 := by have := (List.getElem?_eq_some_iff.mp hu).1; simpa using this
    have hlt2 : i * 6 + j < n * 6 := by omega
    rw [← ht, List.getElem?_take, if_pos hlt2] at hat
    rw [Nat.zero_add, World.cell?, hh]
    simpa using hat
/-- nodes with what a walk is told of each, in a slice of the call's own -/
theorem ArgNds.of_own {w : World} {base n : Nat} {e : TypeId} {v : Value} {ys : List NdS} (h : w.ownsRow base e 6 v n (ndCells ys)) (hf : ∀ y ∈ ys, NdF w y) :
    ∃ a c, v = .slice a n c ∧ ArgNds w a n c ys := by
  obtain ⟨a, c, rfl, hn, hc, hm, hi, _⟩ := NdsIn.of_own h
  exact ⟨a, c, rfl, hn.symm, hc, hm, hi, hf⟩

section
variable {P : Program} {w : World} {ops : Array Oper} {rest : List Oper} {o : Oper} {a : Act} {Q : Exit → Act → World → Prop}

theorem run_lit_nd0 (t e : TypeId) (ht : P.underlying t = some (.slice e)) (z : Value) (hI : (P.info? e).map (fun i => (i.zero, i.size)) = some (some z, 6)) :
    (Instr.buildSlice t 0 #[]).run P w = .ok (.slice (some ⟨w.heap.size, 0, none⟩) 0 0) (w.alloc (.cells #[] e)) := by
  cases hq : P.info? e with
  | none => simp [hq] at hI
  | some i =>
    simp [hq] at hI
    simp [Instr.buildSlice, run_underlying ht, sizeOf, typeInfo, hq, Instr.fill, newRow]
    rw [show Array.range 0 = #[] by decide]; simp
theorem own_lit_nd0 (w : World) (e : TypeId) : (w.alloc (.cells #[] e)).ownsRow w.heap.size e 6 (.slice (some ⟨w.heap.size, 0, none⟩) 0 0) 0 (ndCells []) :=
  ⟨rfl, .inr ⟨w.heap.size, 0, #[], rfl, Nat.le_refl _, heap_alloc_new w _, Nat.le_refl _, Nat.zero_le _, rfl, rfl⟩⟩
theorem run_lit_nd1 (t e : TypeId) (ht : P.underlying t = some (.slice e)) (z : Value) (hI : (P.info? e).map (fun i => (i.zero, i.size)) = some (some z, 6)) (y : NdS) :
    (Instr.buildSlice t 1 #[(0, .agg (ndV y).toArray)]).run P w = .ok (.slice (some ⟨w.heap.size, 0, none⟩) 1 1) (w.alloc (.cells (ndCells [y]).toArray e)) := by
  cases hq : P.info? e with
  | none => simp [hq] at hI
  | some i =>
    simp [hq] at hI
    simp [Instr.buildSlice, run_underlying ht, sizeOf, typeInfo, zeroValue, hq, hI.1, hI.2, Instr.fill, newRow, Value.cells]
    rw [show Array.range 6 = #[0, 1, 2, 3, 4, 5] by decide]; simp [ndCells]
theorem run_lit_nd2 (t e : TypeId) (ht : P.underlying t = some (.slice e)) (z : Value) (hI : (P.info? e).map (fun i => (i.zero, i.size)) = some (some z, 6)) (y y' : NdS) :
    (Instr.buildSlice t 2 #[(0, .agg (ndV y).toArray), (1, .agg (ndV y').toArray)]).run P w = .ok (.slice (some ⟨w.heap.size, 0, none⟩) 2 2) (w.alloc (.cells (ndCells [y, y']).toArray e)) := by
  cases hq : P.info? e with
  | none => simp [hq] at hI
  | some i =>
    simp [hq] at hI
    simp [Instr.buildSlice, run_underlying ht, sizeOf, typeInfo, zeroValue, hq, hI.1, hI.2, Instr.fill, newRow, Value.cells]
    rw [show Array.range 12 = #[0, 1, 2, 3, 4, 5, 6, 7, 8, 9, 10, 11] by decide]; simp [ndCells]
theorem wpList_lit_nd1 (hgd : o.guard = none) (t e : TypeId) (x : Operand) (ho : o.op = .buildSlice t 1 #[(0, x)]) (ht : P.underlying t = some (.slice e)) (z : Value) (hI : (P.info? e).map (fun i => (i.zero, i.size)) = some (some z, 6))
    (y : NdS) (hx : a.eval x = .agg (ndV y).toArray)
    (K : ∀ w', ObjAt w' w.heap.size e (ndCells [y]) → Below w.heap.size w w' → wpList P ops Q rest (a.put o.dst (.slice (some ⟨w.heap.size, 0, none⟩) 1 1)) w') : wpList P ops Q (o :: rest) a w := by
  refine wpList_plain hgd fun K' hK => ?_
  have hrun := run_lit_nd1 (P := P) (w := w) t e ht z hI y
  unfold Oper.wp
  simp only [execOp, ho, List.map_toArray, List.map_cons, List.map_nil, hx, hrun, Sem.run_bind, Sem.run_pure, Result.andThen_ok]
  exact hK _ _ (K _ (heap_alloc_new w _) ((Below.refl _ _).alloc (Nat.le_refl _) _))
/-- an operation whose guard lets it run -/
theorem wpList_wanted (hw : Region.wanted o (yielded ops a.tmps) = true) (h : ∀ K : Act → World → Prop, (∀ a w, wpList P ops Q rest a w → K a w) → o.wp P a w K Q) : wpList P ops Q (o :: rest) a w :=
  wpList_step fun K hK => by rw [if_pos hw]; exact h K hK
theorem wpList_lit_nd1_w (hw : Region.wanted o (yielded ops a.tmps) = true) (t e : TypeId) (x : Operand) (ho : o.op = .buildSlice t 1 #[(0, x)]) (ht : P.underlying t = some (.slice e)) (z : Value) (hI : (P.info? e).map (fun i => (i.zero, i.size)) = some (some z, 6))
    (y : NdS) (hx : a.eval x = .agg (ndV y).toArray)
    (K : ∀ w', ObjAt w' w.heap.size e (ndCells [y]) → Below w.heap.size w w' → wpList P ops Q rest (a.put o.dst (.slice (some ⟨w.heap.size, 0, none⟩) 1 1)) w') : wpList P ops Q (o :: rest) a w := by
  refine wpList_wanted hw fun K' hK => ?_
  have hrun := run_lit_nd1 (P := P) (w := w) t e ht z hI y
  unfold Oper.wp
  simp only [execOp, ho, List.map_toArray, List.map_cons, List.map_nil, hx, hrun, Sem.run_bind, Sem.run_pure, Result.andThen_ok]
  exact hK _ _ (K _ (heap_alloc_new w _) ((Below.refl _ _).alloc (Nat.le_refl _) _))
theorem wpList_lit_nd2 (hgd : o.guard = none) (t e : TypeId) (x x' : Operand) (ho : o.op = .buildSlice t 2 #[(0, x), (1, x')]) (ht : P.underlying t = some (.slice e)) (z : Value) (hI : (P.info? e).map (fun i => (i.zero, i.size)) = some (some z, 6))
    (y y' : NdS) (hx : a.eval x = .agg (ndV y).toArray) (hx' : a.eval x' = .agg (ndV y').toArray)
    (K : ∀ w', ObjAt w' w.heap.size e (ndCells [y, y']) → Below w.heap.size w w' → wpList P ops Q rest (a.put o.dst (.slice (some ⟨w.heap.size, 0, none⟩) 2 2)) w') : wpList P ops Q (o :: rest) a w := by
  refine wpList_plain hgd fun K' hK => ?_
  have hrun := run_lit_nd2 (P := P) (w := w) t e ht z hI y y'
  unfold Oper.wp
  simp only [execOp, ho, List.map_toArray, List.map_cons, List.map_nil, hx, hx', hrun, Sem.run_bind, Sem.run_pure, Result.andThen_ok]
  exact hK _ _ (K _ (heap_alloc_new w _) ((Below.refl _ _).alloc (Nat.le_refl _) _))
theorem wpList_lit_nd0 (hgd : o.guard = none) (t e : TypeId) (ho : o.op = .buildSlice t 0 #[]) (ht : P.underlying t = some (.slice e)) (z : Value) (hI : (P.info? e).map (fun i => (i.zero, i.size)) = some (some z, 6))
    (K : ∀ w', w'.ownsRow w.heap.size e 6 (.slice (some ⟨w.heap.size, 0, none⟩) 0 0) 0 (ndCells []) → Below w.heap.size w w' → wpList P ops Q rest (a.put o.dst (.slice (some ⟨w.heap.size, 0, none⟩) 0 0)) w') : wpList P ops Q (o :: rest) a w := by
  refine wpList_plain hgd fun K' hK => ?_
  have hrun := run_lit_nd0 (P := P) (w := w) t e ht z hI
  unfold Oper.wp
  simp [execOp, ho, hrun, Result.andThen]
  exact hK _ _ (K _ (own_lit_nd0 w e) ((Below.refl _ _).alloc (Nat.le_refl _) _))
/-- append of nodes to nodes of the call's own -/
theorem run_append_nds (t ty e : TypeId) (base : Nat) (i0 : TypeInfo) (z : Value) (hT : P.underlying t = some (.slice e)) (hI : Hid (P.info? e = some i0 ∧ i0.zero = some z ∧ i0.size = 6 ∧ i0.bytes = 80)) (hz : z.cells.size = 6)
    (v : Value) (n : Nat) (ys : List NdS) (hown : w.ownsRow base e 6 v n (ndCells ys))
    (b : Option Addr) (m c : Nat) (xs : List NdS) (hy : NdsIn w b xs) (hl : xs.length = m) (h47 : n + m ≤ 1000000) (hbase : base ≤ w.heap.size) :
    ∃ v' w', (Builtin.append_ #[t, t] ty #[v, .slice b m c]).run P w = .ok v' w' ∧ w'.ownsRow base e 6 v' (n + m) (ndCells (ys ++ xs)) ∧ Below base w w' ∧ (∀ k, k < w.heap.size → some k ≠ v.ownBlock → w'.heap[k]? = w.heap[k]?) ∧ (v'.ownBlock = v.ownBlock ∨ v'.ownBlock = some w.heap.size) := by
  rcases hy with hy | ⟨b', off, rfl, _, hy⟩
  · subst hy
    obtain rfl : m = 0 := hl.symm
    exact ⟨v, w, run_append_empty (P := P) w base t ty e i0 6 hT hI.out.1 v n _ hown b c, by simpa using hown, Below.refl _ _, fun _ _ _ => rfl, .inl rfl⟩
  · obtain ⟨v', w', hr, k1, k2, _, k3⟩ := run_append_own_at (P := P) w base t ty e i0 z 6 80 hT hI.out.1 hI.out.2.1 hI.out.2.2.1 hI.out.2.2.2 hz (by decide) v n _ hown ⟨b', off, none⟩ m c (ndCells xs) (by rw [ndCells_len, hl]) hy.news (ndCells_one xs) (by unfold maxLen; omega) (by omega) hbase
    exact ⟨v', w', hr, by rw [ndCells_append]; exact k1, (Below.refl _ _).grown k2 hbase (fun k hk => (own_under hown k hk).1), fun k hk hr => k2.block k hk hr, k3⟩
theorem wpList_append_nds (hgd : o.guard = none) (s x : Operand) (t : TypeId) (ho : o.op = .call { callee := .builtin .append, args := #[s, x], argTypes := #[t, t] })
    (e : TypeId) (base : Nat) (i0 : TypeInfo) (z : Value) (hT : P.underlying t = some (.slice e)) (hI : Hid (P.info? e = some i0 ∧ i0.zero = some z ∧ i0.size = 6 ∧ i0.bytes = 80)) (hz : z.cells.size = 6)
    (v : Value) (n : Nat) (ys : List NdS) (hs : a.eval s = v) (hown : w.ownsRow base e 6 v n (ndCells ys))
    (b : Option Addr) (m c : Nat) (xs : List NdS) (hx : a.eval x = .slice b m c) (hy : NdsIn w b xs) (hl : xs.length = m) (h47 : n + m ≤ 1000000) (hbase : base ≤ w.heap.size)
    (K : ∀ v' w', w'.ownsRow base e 6 v' (n + m) (ndCells (ys ++ xs)) → Below base w w' → (∀ k, k < w.heap.size → some k ≠ v.ownBlock → w'.heap[k]? = w.heap[k]?) → (v'.ownBlock = v.ownBlock ∨ v'.ownBlock = some w.heap.size) → wpList P ops Q rest (a.put o.dst v') w') : wpList P ops Q (o :: rest) a w := by
  obtain ⟨v', w', hr, k1, k2, k3, k4⟩ := run_append_nds (P := P) (w := w) t o.type e base i0 z hT hI hz v n ys hown b m c xs hy hl h47 hbase
  refine wpList_plain hgd fun K' hK => ?_
  unfold Oper.wp
  simp [execOp, ho, resolve, invoke, builtin, hs, hx, hr, Result.andThen]
  exact hK _ _ (K _ _ k1 k2 k3 k4)
end
end Go.Proofs.YtmbimnnacjbdfaaGreatDoor.Tre
/-
  Layer 13: the statements' own example, alive.
-/
namespace Go.Proofs.YtmbimnnacjbdfaaGreatDoor.Tre
open Go.RowKit Go.Proofs.YtmbimnnacjbdfaaGreatDoor.Fit Pnm

abbrev exA : ByteArray := { data := #[97, 47, 98] }
abbrev exB : ByteArray := { data := #[97] }
abbrev exY : NdS := ⟨⟨1, exA, 0, emp, [], 0⟩, none, 0⟩
abbrev exZ : NdS := ⟨⟨0, exB, 0, emp, [], 0⟩, none, 0⟩
theorem ex_one : oneE exY.n = 0 ∧ oneE exZ.n = 0 := by decide
theorem ex_par : parZ (key exY.n) = [97] ∧ parZ (key exZ.n) = [] ∧ key exZ.n = [97] := by decide
theorem ex_val : Val (nds [exY, exZ]) := by
  refine ⟨fun x hx => ?_, ?_, fun x hx => ?_, fun x hx y hy h => ?_⟩
  · simp [nds] at hx
    rcases hx with rfl | rfl
    · exact ex_one.1
    · exact ex_one.2
  · show List.Pairwise _ [exY.n, exZ.n]
    simp
  · simp [nds] at hx
    rcases hx with rfl | rfl
    · exact .inr ⟨exZ.n, by simp [nds], rfl, by rw [ex_par.2.2, ex_par.1]⟩
    · exact .inl ex_par.2.1
  · simp [nds] at hx
    rcases hx with rfl | rfl <;> exact absurd rfl h
theorem ex_chk : chk (nds [exY, exZ]) = (2, 0) := chk_val ex_val
theorem ex_bad : chk (nds [exY]) = (0, 13) := by
  have ho : ∀ j, j < (nds [exY]).length → oneE (nd (nds [exY]) j) = 0 := fun j hj => by
    have : j = 0 := by simp [nds] at hj; exact hj
    subst this
    exact ex_one.1
  have ht : togE (nds [exY]) 0 = 13 := by
    obtain ⟨_, h, _⟩ := tog_by (l := nds [exY]) (i := 0) rfl
    refine h (fun ⟨j, hj, _⟩ => absurd hj (Nat.not_lt_zero j)) fun hp => ?_
    rcases hp with hp | ⟨y, hy, h1, _⟩
    · rw [show nd (nds [exY]) 0 = exY.n from rfl, ex_par.1] at hp; cases hp
    · simp [nds] at hy
      subst hy
      exact absurd h1 (by decide)
  have := chk_tog ho (show 0 < (nds [exY]).length by decide) (fun j hj => absurd hj (Nat.not_lt_zero j)) (by rw [ht]; decide)
  rw [this, ht]; rfl
theorem ex_fine (w : World) : NdF w exY ∧ NdF w exZ :=
  ⟨⟨by decide, by decide, by decide, by decide, ArgInts.nil, by decide, by decide⟩, ⟨by decide, by decide, by decide, by decide, ArgInts.nil, by decide, by decide⟩⟩
theorem IN6 : (Tryz.prog.info? 50).map (fun i => (i.zero, i.size)) = some (some (.agg (ndL 0 emp 0 emp none 0 0 0).toArray), 6) := by kernel_rfl

end Go.Proofs.YtmbimnnacjbdfaaGreatDoor.Tre
/-
  Layer 13: slices.Clone of nodes; what a sort does with no nodes; the program's count (by class).
-/
namespace Go.Proofs.YtmbimnnacjbdfaaGreatDoor.Tre
open Go.RowKit Go.MapKept Go.Proofs.YtmbimnnacjbdfaaGreatDoor.Fit

set_option maxRecDepth 100000 in
set_option maxHeartbeats 2000000 in
theorem nclone_any (a : Option Addr) (n cap : Nat) (ys : List NdS) (w : World) (hy : NdsIn w a ys) (hl : ys.length = n) (hn : n ≤ 1000000) :
    Calls Tryz.prog 32 #[.slice a n cap] w fun e w' => ∃ v, e = .returned v ∧ w'.ownsRow w.heap.size 50 6 v n (ndCells ys) ∧ Below w.heap.size w w' := by
  have HY := Lib.hid hy; have HL := Lib.hid hl; have HN := Lib.hid hn
  have I6 := Lib.hid IN6
  obtain ⟨i0, HI0⟩ := info_of (P := Tryz.prog) (e := 50) (z := .agg (ndL 0 emp 0 emp none 0 0 0).toArray) (s := 6) (b := 80) (by kernel_rfl)
  clear hy hl hn
  have he : ∀ w : World, (binOp .eql 36 (.slice none n cap) (.slice none 0 0)).run Tryz.prog w = .ok (.bool true) w := fun _ => rfl
  have he' : ∀ (x : Addr) (w : World), (binOp .eql 36 (.slice (some x) n cap) (.slice none 0 0)).run Tryz.prog w = .ok (.bool false) w := fun _ _ => rfl
  cases a with
  | none =>
    have h0 : ys = [] := by
      rcases HY.out with h | ⟨_, _, h, _⟩
      · exact h
      · cases h
    subst h0
    obtain rfl : n = 0 := HL.out.symm
    go_enter Tryz.func32, Tryz.ntmps32
    go_wp2
    go_ret
    exact ⟨_, rfl, ⟨rfl, .inl ⟨rfl, rfl⟩⟩, Below.refl _ _⟩
  | some x =>
    go_enter Tryz.func32, Tryz.ntmps32
    go_wp2_with (first | (refine wpList_lit_nd0 rfl 36 50 rfl Tryz.underlying36 _ I6.out ?_; intro w1 h1 b1; have O1 := Lib.hid h1; have B1 := Lib.hid b1; clear h1 b1) | (at_builtin; refine wpList_append_nds rfl _ _ 36 rfl 50 w.heap.size i0 _ Tryz.underlying36 HI0 rfl (.slice (some ⟨w.heap.size, 0, none⟩) 0 0) 0 [] rfl O1.out (some x) n cap ys rfl (HY.out.below B1.out) HL.out (by have := HN.out; omega) B1.out.size ?_; intro v2 w2 h2 b2 _ _; rw [Nat.zero_add, List.nil_append] at h2; have O2 := Lib.hid h2; have B2 := Lib.hid b2; clear h2 b2))
    go_ret
    exact ⟨_, rfl, O2.out, B1.out.trans B2.out⟩

set_option maxRecDepth 100000 in
set_option maxHeartbeats 2000000 in
/-- no nodes: nothing to sort -/
theorem sort_nil (a : Option Addr) (cap : Nat) (w : World) :
    Calls Tryz.prog 33 #[.slice a 0 cap, .func (.func 34) #[] #[]] w fun e w' => e = .returned (.tuple #[]) ∧ w' = w := by
  have I : Hid (Calls Tryz.prog 101 #[.slice a 0 cap, .int .i64 0, .int .i64 0, .func (.func 34) #[] #[]] w fun e w' => e = .returned (.tuple #[]) ∧ w' = w) := by
    show Calls _ _ _ _ _
    go_enter Tryz.func101, Tryz.ntmps101
    go_wp2_with fail
    go_loopw [8] (fun v wr => v = .int .i64 1 ∧ wr = w) (fun _ _ => 0)
    case atStart => exact ⟨rfl, rfl⟩
    case round =>
      obtain ⟨rfl, rfl⟩ := hrel
      go_wp2_with fail
      go_end0
      exact ⟨rfl, rfl⟩
  have S : Hid (Calls Tryz.prog 62 #[.slice a 0 cap, .int .i64 0, .func (.func 34) #[] #[]] w fun e w' => e = .returned (.tuple #[]) ∧ w' = w) := by
    show Calls _ _ _ _ _
    go_enter Tryz.func62, Tryz.ntmps62
    go_wp2_with fail
    go_loopw [7, 8] (fun v u wr => v = .int .i64 0 ∧ u = .int .i64 20 ∧ wr = w) (fun _ _ _ => 0)
    case atStart => exact ⟨rfl, rfl, rfl⟩
    case round =>
      obtain ⟨rfl, rfl, rfl⟩ := hrel
      go_wp2_with fail
      refine I.out.mono ?_; rintro e w1 ⟨rfl, rfl⟩
      go_wp2_with fail
      go_loopw [6] (fun v wr => v = .int .i64 20 ∧ wr = w1) (fun _ _ => 0)
      case atStart => exact ⟨rfl, rfl⟩
      case round =>
        obtain ⟨rfl, rfl⟩ := hrel
        go_wp2_with fail
        go_end0
        exact ⟨rfl, rfl⟩
  clear I
  go_enter Tryz.func33, Tryz.ntmps33
  go_wp2_with fail
  refine S.out.mono ?_; rintro e w1 ⟨rfl, rfl⟩
  go_wp2_with fail
  go_end0
  exact ⟨rfl, rfl⟩

/-- how many of the first n have the class -/
def cnt (ys : List NdS) (n : Nat) (c : Int) : Nat := ((cs (nds ys)).take n).count c
theorem cnt_step {ys : List NdS} {n : Nat} {y : NdS} (h : ys[n]? = some y) (c : Int) : cnt ys (n + 1) c = if y.n.c = c then cnt ys n c + 1 else cnt ys n c := by
  unfold cnt
  have hc : (cs (nds ys))[n]? = some y.n.c := by unfold cs; rw [List.getElem?_map, nds_at h]; rfl
  rw [List.take_add_one, hc]
  simp only [Option.toList_some, List.count_append, List.count_singleton]
  by_cases e : y.n.c = c
  · simp [e]
  · simp [e]
theorem cnt_le (ys : List NdS) (n : Nat) (c : Int) : cnt ys n c ≤ n := by
  unfold cnt
  exact Nat.le_trans List.count_le_length (by rw [List.length_take]; omega)
theorem cnt_all {ys : List NdS} {n : Nat} (h : ys.length = n) (c : Int) : cnt ys n c = (cs (nds ys)).count c := by
  unfold cnt
  rw [List.take_of_length_le (by unfold cs; rw [List.length_map, nds_len, h]; exact Nat.le_refl _)]
/-- a map of numbers: what it answers for a class -/
def Cnt (F : Value → Option Value) (ys : List NdS) (n : Nat) : Prop := ∀ c : Int, (F (.int .i64 c)).getD (.int .i64 0) = .int .i64 (cnt ys n c)
theorem Cnt.step {F : Value → Option Value} {ys : List NdS} {n : Nat} (h : Cnt F ys n) {y : NdS} (hy : ys[n]? = some y) : Cnt (upd F (.int .i64 y.n.c) (.int .i64 ((cnt ys n y.n.c : Int) + 1))) ys (n + 1) := fun c => by
  rw [cnt_step hy]
  by_cases e : y.n.c = c
  · subst e
    rw [upd_same, if_pos rfl]
    simp
  · rw [upd_ne (fun h => e (by injection h with _ h; exact h.symm)), if_neg e]
    exact h c

set_option maxRecDepth 100000 in
set_option maxHeartbeats 4000000 in
theorem count_any (a : Option Addr) (n cap : Nat) (ys : List NdS) (w : World) (ha : NdsIn w a ys) (hl : ys.length = n) (hn : n ≤ 1000000) :
    Calls Tryz.prog 35 #[.slice a n cap, .func (.func 36) #[] #[]] w fun e w' => ∃ g N F, e = .returned (.map (some g)) ∧ MapF w' g (.int .i64) N F ∧ Cnt F ys n ∧ w.heap.size ≤ g ∧ Below w.heap.size w w' := by
  have HA := Lib.hid ha; have HL := Lib.hid hl
  have NZ := Lib.hid zNd
  have NO := Lib.hid ndT
  have ZI : Hid ((Tryz.prog.info? 3).map (·.zero) = some (some (.int .i64 0))) := by show _ = _; kernel_rfl
  have UM := Lib.hid Tryz.underlying77
  have UK := Lib.hid Tryz.underlying3
  clear ha hl
  go_enter Tryz.func35, Tryz.ntmps35
  go_wp2_with (first | (refine wpList_make_mapF rfl _ rfl (.int .i64) ?_; intro w1 m1 b1; have M1 := Lib.hid m1; have B1 := Lib.hid b1; have S1 := Lib.hid m1.lt; clear m1 b1))
  go_loopw [11] (fun i wr => ∃ (j N : Nat) (F : Value → Option Value), i = .int .i64 j ∧ j ≤ n ∧ MapF wr w.heap.size (.int .i64) N F ∧ Cnt F ys j ∧ Below w.heap.size w wr) (fun i _ => n - (intOf i).toNat)
  case atStart => exact ⟨0, 0, _, rfl, Nat.zero_le _, M1.out, fun c => rfl, B1.out⟩
  case round =>
    obtain ⟨j, N, F, rfl, hj, hM, hF, hB⟩ := hrel
    have HM := Lib.hid hM; have HB := Lib.hid hB; have HF := Lib.hid hF
    have W0 : Hid (w.heap.size < wr.heap.size) := hM.lt
    clear hM hB hF
    by_cases hjn : j < n
    · have hlt : j < ys.length := by rw [HL.out]; exact hjn
      have hy : ys[j]? = some ys[j] := List.getElem?_eq_getElem hlt
      obtain ⟨y, ey⟩ : ∃ y, y = ys[j] := ⟨_, rfl⟩
      rw [← ey] at hy
      obtain ⟨b, off, rfl, hb, hat⟩ : ∃ b off, a = some ⟨b, off, none⟩ ∧ b < w.heap.size ∧ NdsAt w b off ys := by
        rcases HA.out with h0 | h
        · simp [h0] at hlt
        · exact h
      have hat' := hat.below HB.out hb
      obtain ⟨c0, c1, c2, c3, c4, c5⟩ := hat'.c hy
      have FS := Lib.hid (HF.out.step hy)
      have FQ := Lib.hid (HF.out y.n.c)
      have CL := cnt_le ys j y.n.c
      obtain ⟨M, hM⟩ := named (cnt ys j y.n.c)
      rw [← hM.out] at FS FQ CL
      clear hat hat' hy ey hlt hM
      obtain ⟨⟨k, p, m, t, d, c⟩, x, xc⟩ := y
      obtain ⟨L, hL⟩ := named d.length
      have c4' : wr.cell? ⟨b, off + j * 6 + 4, none⟩ = some (.slice x L xc) := by rw [hL.out]; exact c4
      have m1 : (M : Int) + 1 ≤ 1000001 := by omega
      have wm : IntKind.i64.wrap ((M : Int) + 1) = (M : Int) + 1 := wrapP (by omega) (by omega)
      clear c4 hL CL
      have j1 : (j : Int) < n := by omega
      have NB : Hid (b < w.heap.size) := hb
      clear hb hjn
      go_wp2_with (first | (refine wpList_alloc_obj rfl 50 rfl (ndL 0 emp 0 emp none 0 0 0) NZ.out ?_; intro w2 g2 b2; have G2 := Lib.hid g2; have M2 := Lib.hid (HM.out.below b2 HM.out.lt); have B2 := Lib.hid (HB.out.trans (b2.mono (Nat.le_of_lt W0.out))); have W2 := Lib.hid b2.size; clear g2 b2 c0 c1 c2 c3 c4' c5) | (refine wpList_store_obj rfl 50 _ _ rfl wr.heap.size rfl (ndL k p m t x L xc c) (ndL 0 emp 0 emp none 0 0 0) rfl 50 G2.out NO.out.2 rfl (nd_one _ _ _ _ _ _ _ _) ?_; intro w3 g3 t3; have G3 := Lib.hid g3; have M3 := Lib.hid (M2.out.block (t3.other (Nat.ne_of_lt W0.out))); have B3 := Lib.hid (B2.out.trans (t3.below (Nat.le_of_lt W0.out))); have W3 := Lib.hid (Nat.le_trans W2.out (Nat.le_of_eq t3.size.symm)); have c0 := g3.get 0 rfl; have c1 := g3.get 1 rfl; have c2 := g3.get 2 rfl; have c3 := g3.get 3 rfl; have c4 := g3.get 4 rfl; have c5 := g3.get 5 rfl; clear g3 t3))
      refine (classOf_any k p m t x L xc c w3).mono ?_; rintro e w4 ⟨rfl, b4⟩
      have M4 := Lib.hid (M3.out.below b4 M3.out.lt)
      have B4 := Lib.hid (belT B3.out b4)
      clear b4 c0 c1 c2 c3 c4 c5
      obtain ⟨q1, q2⟩ := run_lookF (P := Tryz.prog) (w := w4) 77 3 3 UM.out (.int .i64) UK.out (.int .i64 0) ZI.out w.heap.size N (.int .i64 c) (show IsKey (.int .i64) (.int .i64 c) from rfl) F M4.out
      rw [FQ.out] at q2
      clear q1
      go_wp2_with (first | (refine wpList_update_map rfl 77 _ _ _ rfl 3 3 UM.out (.int .i64) UK.out w.heap.size rfl (.int .i64 c) rfl (show IsKey (.int .i64) (.int .i64 c) from rfl) (.int .i64 ((M : Int) + 1)) (by first | rfl | (show Value.int .i64 (wrap64 _) = _; rw [show wrap64 ((M : Int) + 1) = (M : Int) + 1 from wm])) N _ M4.out ?_; intro w6 m6 t6; have M6 := Lib.hid m6; have B6 := Lib.hid (B4.out.trans (t6.below (Nat.le_refl _))); clear m6 t6))
      go_round
      case rel => exact ⟨j + 1, _, _, by go_num, by omega, M6.out, FS.out, B6.out⟩
      case measure => simp [intOf]; omega
    · obtain rfl : j = n := by omega
      go_wp2
      go_ret
      exact ⟨_, N, F, rfl, HM.out, HF.out, Nat.le_refl _, HB.out⟩
end Go.Proofs.YtmbimnnacjbdfaaGreatDoor.Tre
