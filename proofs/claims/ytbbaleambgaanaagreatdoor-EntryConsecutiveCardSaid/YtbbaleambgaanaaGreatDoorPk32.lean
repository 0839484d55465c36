/-
  Layer 11: the walk of Read.
-/
import Derived.Test.YtbbaleambgaanaaGreatDoorPk30
import Derived.Test.YtbbaleambgaanaaGreatDoorPk09
import Derived.Test.YtbbaleambgaanaaGreatDoorPk05
import Derived.Test.YtbbaleambgaanaaGreatDoorPk29
namespace Go.Proofs.YtbbaleambgaanaaGreatDoor
open Go.RowKit

theorem InK.dropped {k : IntKind} {w : World} {g c : Nat} {zs : List Int} (h : InK k w (some ⟨g, 0, none⟩) zs) (s : Nat) (hc : zs.length ≤ c) : InK k w (if c = s then some ⟨g, 0, none⟩ else some ⟨g, s, none⟩) (zs.drop s) := by
  rcases Nat.lt_or_ge s zs.length with hs | hs
  · rw [if_neg (by omega)]
    refine .inr ⟨g, s, rfl, ?_, fun i hi => ?_⟩
    · obtain ⟨b, off, h1, h2⟩ := h.plain (by omega)
      cases h1; exact h2
    · rw [List.length_drop] at hi
      have := h.get (s + i) (by omega)
      rw [Nat.zero_add] at this
      rw [this, List.getD_eq_getElem?_getD, List.getD_eq_getElem?_getD, List.getElem?_drop]
  · exact .inl (List.drop_eq_nil_of_le hs)
theorem InK.taken {k : IntKind} {w : World} {a : Option Addr} {zs : List Int} (h : InK k w a zs) (n : Nat) : InK k w a (zs.take n) := by
  rcases h with h | ⟨b, off, h1, h2, h3⟩
  · rw [h]; exact .inl (by simp)
  · refine .inr ⟨b, off, h1, h2, fun i hi => ?_⟩
    rw [List.length_take] at hi
    rw [h3 i (by omega), List.getD_eq_getElem?_getD, List.getD_eq_getElem?_getD, List.getElem?_take, if_pos (by omega)]

theorem pread_nil (z : Int) (w : World) : Calls Tryz.prog 128 #[.pointer none, .int .i64 z] w fun e w' => e = .returned (.tuple #[.slice none 0 0, .int .i64 0, .int .i64 1]) ∧ w = w' := by
  go_enter Tryz.func128, Tryz.ntmps128
  go_wp2
  go_ret3
  exact ⟨rfl, rfl⟩

theorem pread_bad {lo hi q : Nat} {Z : List Int} {E : Int} {o : Nat} {err : Int} (z : Int) (w : World) (h : Rdr w lo hi q Z E o err) (hz : szBad z) :
    Calls Tryz.prog 128 #[.pointer (some ⟨q, 0, none⟩), .int .i64 z] w fun e w' => e = .returned (.tuple #[.slice none 0 0, .int .i64 o, .int .i64 3]) ∧ w = w' := by
  by_cases h0 : z < 0
  · go_enter Tryz.func128, Tryz.ntmps128
    go_wp2_with fail
    refine (rdr_off w h).mono ?_; rintro e w2 ⟨rfl, rfl⟩
    go_wp2_with fail
    go_ret3
    exact ⟨rfl, rfl⟩
  · have h1 : 1099511627776 < z := hz.resolve_left h0
    go_enter Tryz.func128, Tryz.ntmps128
    go_wp2_with fail
    refine (rdr_off w h).mono ?_; rintro e w2 ⟨rfl, rfl⟩
    go_wp2_with fail
    go_ret3
    exact ⟨rfl, rfl⟩

/-- what Read answers -/
def RetRd (D : List Int) (p e : Int) (B : Nat) (x : Ending) (w' : World) : Prop := ∃ b c, x = .returned (.tuple #[.slice b D.length c, .int .i64 p, .int .i64 e]) ∧ D.length ≤ c ∧ InK .u8 w' b D ∧ ∀ x, b = some x → B ≤ x.block

set_option maxRecDepth 100000 in
set_option maxHeartbeats 8000000 in
theorem pread_any {lo hi q : Nat} {Z : List Int} {E : Int} {o : Nat} {err : Int} (z : Int) (w : World) (h : Rdr w lo hi q Z E o err) (hE : E = 11 ∨ E = 4) :
    Calls Tryz.prog 128 #[.pointer (some ⟨q, 0, none⟩), .int .i64 z] w fun e w' => RetRd (rdD Z o err z) (rdP Z o err z) (rdE Z E o err z) w.heap.size e w' ∧ Rdr w' lo hi q Z E (rdO Z o err z) (rdS Z E o err z) ∧ Out lo hi w w' := by
  by_cases hb : szBad z
  · obtain ⟨e1, e2, e3, e4, e5⟩ := rd_bad (Z := Z) (E := E) (o := o) (err := err) hb
    rw [e1, e2, e3, e4, e5]
    refine (pread_bad z w h hb).mono ?_
    rintro e w' ⟨rfl, rfl⟩
    exact ⟨⟨none, 0, rfl, Nat.le_refl _, .inl rfl, fun x hx => by cases hx⟩, h, .refl _ _ _⟩
  · obtain ⟨s, rfl⟩ : ∃ s : Nat, z = s := ⟨z.toNat, by unfold szBad at hb; omega⟩
    have hs : s ≤ 1099511627776 := by unfold szBad at hb; omega
    have hs' : (s : Int) ≤ 1099511627776 := by omega
    have HZ := Lib.hid h.bd; have HS := Lib.hid h.size; have H := Lib.hid h; have HE := Lib.hid hE
    have hnb := blkN_bd hs
    obtain ⟨n, hn⟩ := named (blkN s)
    have en : blkN (s : Int).toNat = n := hn.out.symm
    by_cases hok : pyOk Z o err n
    · obtain ⟨p1, p2, p3, p4⟩ := py_ok (E := E) hok
      obtain ⟨D, hD⟩ := named (512 * n)
      rw [← hD.out] at p2 p4
      obtain ⟨pl, xl⟩ := rdPad_len (s := s) (by rw [← hn.out]; exact hok)
      rw [← hn.out, ← hD.out] at pl xl
      have hsD : s ≤ D := by rw [hD.out, hn.out]; exact blkN_le s
      obtain ⟨X, hX⟩ := named ((Z.drop o).take D)
      have hpad : rdPad Z o s = X.drop s := by unfold rdPad; rw [hX.out, ← hn.out, ← hD.out]
      have hdat : (Z.drop o).take s = X.take s := by rw [hX.out, List.take_take, Nat.min_eq_left hsD]
      rw [← hX.out] at p4 xl
      have XLN := Lib.hid xl; have HPD := Lib.hid hpad; have HDT := Lib.hid hdat
      have XL : Hid ((X.take s).length = s) := by show _ = _; rw [List.length_take, xl]; omega
      have HQ : Hid (pyE Z E o err n = 0 ∧ pyO Z o err n = o + D ∧ pyS Z E o err n = err ∧ pyB Z o err n = X) := ⟨p1, p2, p3, p4⟩
      have oD : (o : Int) + D ≤ 140737488355328 ∨ D = 0 := by
        rcases hok with h0 | h0
        · right; have := hD.out; omega
        · left; have := HZ.out.1; have := hD.out; omega
      have hoD : (o : Int) + D ≤ 140737488355328 := by have := HZ.out.1; have := HS.out.2.2.2; omega
      have HSD := Lib.hid hsD
      by_cases hi : nzI (rdPad Z o s) < (rdPad Z o s).length
      · obtain ⟨e1, e2, e3, e4, e5⟩ := rd_pad (E := E) hs hn.out hok hi
        have P1 := Lib.hid e1; have P2 := Lib.hid e2; have P3 := Lib.hid e3; have P4 := Lib.hid e4; have P5 := Lib.hid e5
        rw [← hD.out] at e4
        have P4 := Lib.hid e4
        obtain ⟨k, hk⟩ := named (nzI (rdPad Z o s))
        rw [← hk.out] at e2 hi
        rw [pl] at hi
        have P2 := Lib.hid e2
        have HK := Lib.hid hi
        have hsD' : s < D := by omega
        clear e1 e2 e3 e4 e5 p1 p2 p3 p4 hok hb h hE hpad hdat pl xl hi
        go_enter Tryz.func128, Tryz.ntmps128
        go_wp2_with fail
        refine (blocks_any (s : Int) (by omega) w).mono ?_; rintro e w0 ⟨rfl, rfl⟩
        rw [en]
        go_wp2_with fail
        refine (rblk_any n w H.out HE.out (by have := hn.out; omega)).mono ?_; rintro e w1 ⟨v, rfl, o1, r1, u1⟩
        rw [HQ.out.2.2.2, XLN.out] at o1
        rw [HQ.out.2.1, HQ.out.2.2.1] at r1
        rw [HQ.out.1]
        have R1 := Lib.hid r1; have U1 := Lib.hid u1; have O1 := Lib.hid o1
        obtain ⟨g, c, rfl, hg⟩ := own_shape o1 (by omega)
        obtain ⟨_, _, hv, i1, hc, _⟩ := own_any o1
        simp only [Value.slice.injEq, true_and] at hv
        obtain ⟨rfl, rfl⟩ := hv
        have I1 := Lib.hid i1; have HC := Lib.hid hc
        have hcs : ¬ c = s := by omega
        have hDs : (s : Int) ≤ D := by omega
        clear o1 r1 u1 i1
        go_wp2_with fail
        have ID := Lib.hid (I1.out.dropped s (by rw [XLN.out]; exact HC.out))
        rw [if_neg hcs] at ID
        have EX : (X.drop s).length = D - s := by rw [List.length_drop, XLN.out]
        have EK : (if nzI (X.drop s) < D - s then (nzI (X.drop s) : Int) else -1) = (k : Int) := by rw [← HPD.out, ← hk.out, if_pos HK.out]
        refine (ixf_any _ _ _ (X.drop s) w1 ID.out EX (by omega)).mono ?_; rintro e w2 ⟨rfl, rfl⟩
        rw [EK]
        have hk1 : (k : Int) < (D : Int) - s := by have := HK.out; omega
        clear EX EK
        go_wp2_with fail
        refine (rdr_off w1 R1.out).mono ?_; rintro e w2 ⟨rfl, rfl⟩
        go_wp2_with fail
        go_ret3
        rw [P1.out, P2.out, P3.out, P4.out, P5.out, show (o : Int) + D - (((D - s : Nat) : Int) - k) = ((o + (s + k) : Nat) : Int) by have := HSD.out; have := HK.out; omega]
        exact ⟨⟨none, 0, rfl, Nat.le_refl _, .inl rfl, fun x hx => by cases hx⟩, R1.out, U1.out⟩
      · obtain ⟨e1, e2, e3, e4, e5⟩ := rd_ok (E := E) hs hn.out hok hi
        have P1 := Lib.hid e1; have P5 := Lib.hid e5
        rw [← hD.out] at e2 e4
        rw [hdat] at e3
        have P2 := Lib.hid e2; have P3 := Lib.hid e3; have P4 := Lib.hid e4
        rw [pl] at hi
        have HI := Lib.hid hi
        clear e1 e2 e3 e4 e5 p1 p2 p3 p4 hok hb h hE hpad hdat pl xl hi
        go_enter Tryz.func128, Tryz.ntmps128
        go_wp2_with fail
        refine (blocks_any (s : Int) (by omega) w).mono ?_; rintro e w0 ⟨rfl, rfl⟩
        rw [en]
        go_wp2_with fail
        refine (rblk_any n w H.out HE.out (by have := hn.out; omega)).mono ?_; rintro e w1 ⟨v, rfl, o1, r1, u1⟩
        rw [HQ.out.2.2.2, XLN.out] at o1
        rw [HQ.out.2.1, HQ.out.2.2.1] at r1
        rw [HQ.out.1]
        have R1 := Lib.hid r1; have U1 := Lib.hid u1; have O1 := Lib.hid o1
        obtain ⟨b1, c1, hv1, i1, hc1, _, _, x1⟩ := own_any o1
        have HX1 := Lib.hid x1
        clear r1 u1 x1
        rcases o1.2 with ⟨rfl, h0⟩ | ⟨g, c, cur, rfl, hg, _⟩
        · obtain rfl : D = 0 := h0
          obtain rfl : s = 0 := by omega
          clear o1 i1 hv1
          go_wp2_with fail
          refine (ixf_any none 0 0 [] w1 (.inl rfl) rfl (by decide)).mono ?_; rintro e w2 ⟨rfl, rfl⟩
          have EK : (if nzI ([] : List Int) < 0 then (nzI ([] : List Int) : Int) else -1) = -1 := if_neg (Nat.not_lt_zero _)
          rw [EK]
          go_wp2_with fail
          refine wp_region_held_drew (S := (fun _ => True)) (by kernel_rfl) (trivial) (fun hHeld => ?_)
          refine wpAnyH_take (i := 0) (oi := { dst := some 54, op := Go.Op.move (Go.Operand.tmp 7), type := 24, pos := "payload.go:49", after := #[], guard := none }) (v := ?_) rfl (by kernel_rfl) (by kernel_rfl) (by kernel_rfl) (fun _ _ _ h => h) (Or.inl ⟨by rfl, ?_⟩) (by assumption) ?_
          rotate_left 1
          focus ((intro wS hSw; (try dsimp only at hSw); go_simp) <;> (try with_reducible rfl))
          simp only [Act.put, List.setIfInBounds_toArray, List.set_cons_zero, List.set_cons_succ]
          refine wpAnyH_take (i := 1) (oi := { dst := some 55, op := Go.Op.move (Go.Operand.tmp 1), type := 2, pos := "payload.go:49", after := #[], guard := none }) (v := ?_) rfl (by kernel_rfl) (by kernel_rfl) (by kernel_rfl) (fun _ _ _ h => h) (Or.inl ⟨by rfl, ?_⟩) (by assumption) ?_
          rotate_left 1
          focus ((intro wS hSw; (try dsimp only at hSw); go_simp) <;> (try with_reducible rfl))
          simp only [Act.put, List.setIfInBounds_toArray, List.set_cons_zero, List.set_cons_succ]
          refine wpAnyH_take (i := 2) (oi := { dst := some 56, op := Go.Op.slice 24 (Go.Operand.tmp 54) none (some (Go.Operand.tmp 55)) none, type := 24, pos := "payload.go:49", after := #[{ on := 0, ground := Go.Ground.data }, { on := 1, ground := Go.Ground.data }], guard := none }) (v := ?_) rfl (by kernel_rfl) (by kernel_rfl) (by kernel_rfl) (fun _ _ _ h => h) (Or.inl ⟨by rfl, ?_⟩) (by assumption) ?_
          rotate_left 1
          focus ((intro wS hSw; (try dsimp only at hSw); go_simp) <;> (try with_reducible rfl))
          simp only [Act.put, List.setIfInBounds_toArray, List.set_cons_zero, List.set_cons_succ]
          refine wpAnyH_take (i := 3) (oi := { dst := some 57, op := Go.Op.move (Go.Operand.tmp 0), type := 37, pos := "payload.go:49", after := #[], guard := none }) (v := ?_) rfl (by kernel_rfl) (by kernel_rfl) (by kernel_rfl) (fun _ _ _ h => h) (Or.inl ⟨by rfl, ?_⟩) (by assumption) ?_
          rotate_left 1
          focus ((intro wS hSw; (try dsimp only at hSw); go_simp) <;> (try with_reducible rfl))
          simp only [Act.put, List.setIfInBounds_toArray, List.set_cons_zero, List.set_cons_succ]
          refine wpAnyH_ready (rs := [4]) (by kernel_rfl) (by simp) ?_
          refine AllReadyH.cons (o := { dst := some 58, op := Go.Op.call { callee := Go.Callee.value (Go.Operand.func 20), args := #[Go.Operand.tmp 57], argTypes := #[37] }, type := 2, pos := "payload.go:49", after := #[{ on := 3, ground := Go.Ground.data }], guard := none }) rfl (fun K hK => ?_) AllReadyH.nil
          go_simp
          refine (rdr_off w1.drew (R1.out.below (Below.refl _ _).drew)).mono ?_; rintro e w2 ⟨rfl, rfl⟩
          go_wp2_with fail
          refine hK.out _ _ (trivial) (fun hHeld => ?_)
          clear hK K
          (try simp only [Act.put, List.setIfInBounds_toArray, List.set_cons_zero, List.set_cons_succ])
          refine wpAnyH_take (i := 5) (oi := { dst := some 4, op := Go.Op.assign (Go.Operand.tmp 56), type := 24, pos := "payload.go:49", after := #[{ on := 2, ground := Go.Ground.data }, { on := 4, ground := Go.Ground.chain }, { on := 0, ground := Go.Ground.phase }, { on := 1, ground := Go.Ground.phase }, { on := 2, ground := Go.Ground.phase }, { on := 3, ground := Go.Ground.textOnly Go.Departure.lateStores }, { on := 4, ground := Go.Ground.textOnly Go.Departure.lateStoresUnsure }], guard := none }) (v := ?_) rfl (by kernel_rfl) (by kernel_rfl) (by kernel_rfl) (fun _ _ _ h => h) (Or.inl ⟨by rfl, ?_⟩) (by assumption) ?_
          rotate_left 1
          focus ((intro wS hSw; (try dsimp only at hSw); go_simp) <;> (try with_reducible rfl))
          simp only [Act.put, List.setIfInBounds_toArray, List.set_cons_zero, List.set_cons_succ]
          refine wpAnyH_take (i := 6) (oi := { dst := some 5, op := Go.Op.assign (Go.Operand.tmp 58), type := 2, pos := "payload.go:49", after := #[{ on := 4, ground := Go.Ground.data }, { on := 5, ground := Go.Ground.chain }, { on := 0, ground := Go.Ground.phase }, { on := 1, ground := Go.Ground.phase }, { on := 2, ground := Go.Ground.phase }, { on := 3, ground := Go.Ground.phase }, { on := 4, ground := Go.Ground.phase }, { on := 5, ground := Go.Ground.phase }], guard := none }) (v := ?_) rfl (by kernel_rfl) (by kernel_rfl) (by kernel_rfl) (fun _ _ _ h => h) (Or.inl ⟨by rfl, ?_⟩) (by assumption) ?_
          rotate_left 1
          focus ((intro wS hSw; (try dsimp only at hSw); go_simp) <;> (try with_reducible rfl))
          simp only [Act.put, List.setIfInBounds_toArray, List.set_cons_zero, List.set_cons_succ]
          refine wpAnyH_take (i := 7) (oi := { dst := some 6, op := Go.Op.assign (Go.Operand.const (Go.Value.int Go.IntKind.i64 0)), type := 27, pos := "payload.go:49", after := #[{ on := 6, ground := Go.Ground.chain }, { on := 0, ground := Go.Ground.phase }, { on := 1, ground := Go.Ground.phase }, { on := 2, ground := Go.Ground.phase }, { on := 3, ground := Go.Ground.phase }, { on := 4, ground := Go.Ground.phase }, { on := 5, ground := Go.Ground.phase }, { on := 6, ground := Go.Ground.phase }], guard := none }) (v := ?_) rfl (by kernel_rfl) (by kernel_rfl) (by kernel_rfl) (fun _ _ _ h => h) (Or.inl ⟨by rfl, ?_⟩) (by assumption) ?_
          rotate_left 1
          focus ((intro wS hSw; (try dsimp only at hSw); go_simp) <;> (try with_reducible rfl))
          simp only [Act.put, List.setIfInBounds_toArray, List.set_cons_zero, List.set_cons_succ]
          refine wpAnyH_done (by kernel_rfl) ?_ _
          go_wp2_with fail
          go_ret3
          rw [P1.out, P2.out, P3.out, P4.out, P5.out, List.take_zero]
          exact ⟨⟨none, 0, rfl, Nat.le_refl _, .inl rfl, fun x hx => by cases hx⟩, R1.out.below (Below.refl _ _).drew, U1.out.drew⟩
        · simp only [Value.slice.injEq, true_and] at hv1
          obtain ⟨rfl, rfl⟩ := hv1
          have I1 := Lib.hid i1; have HC := Lib.hid hc1
          have hDs : (s : Int) ≤ D := by omega
          have hsc : (s : Int) ≤ c := by omega
          clear o1 i1
          have ID := Lib.hid (I1.out.dropped s (by rw [XLN.out]; exact HC.out))
          have EX : (X.drop s).length = D - s := by rw [List.length_drop, XLN.out]
          have EK : (if nzI (X.drop s) < D - s then (nzI (X.drop s) : Int) else -1) = -1 := by rw [← HPD.out, if_neg HI.out]
          by_cases hcs : c = s
          · rw [if_pos hcs] at ID
            go_wp2_with fail
            refine (ixf_any _ _ _ (X.drop s) w1 ID.out EX (by omega)).mono ?_; rintro e w2 ⟨rfl, rfl⟩
            rw [EK]
            clear EX EK
            go_wp2_with fail
            refine wp_region_held_drew (S := (fun _ => True)) (by kernel_rfl) (trivial) (fun hHeld => ?_)
            refine wpAnyH_take (i := 0) (oi := { dst := some 54, op := Go.Op.move (Go.Operand.tmp 7), type := 24, pos := "payload.go:49", after := #[], guard := none }) (v := ?_) rfl (by kernel_rfl) (by kernel_rfl) (by kernel_rfl) (fun _ _ _ h => h) (Or.inl ⟨by rfl, ?_⟩) (by assumption) ?_
            rotate_left 1
            focus ((intro wS hSw; (try dsimp only at hSw); go_simp) <;> (try with_reducible rfl))
            simp only [Act.put, List.setIfInBounds_toArray, List.set_cons_zero, List.set_cons_succ]
            refine wpAnyH_take (i := 1) (oi := { dst := some 55, op := Go.Op.move (Go.Operand.tmp 1), type := 2, pos := "payload.go:49", after := #[], guard := none }) (v := ?_) rfl (by kernel_rfl) (by kernel_rfl) (by kernel_rfl) (fun _ _ _ h => h) (Or.inl ⟨by rfl, ?_⟩) (by assumption) ?_
            rotate_left 1
            focus ((intro wS hSw; (try dsimp only at hSw); go_simp) <;> (try with_reducible rfl))
            simp only [Act.put, List.setIfInBounds_toArray, List.set_cons_zero, List.set_cons_succ]
            refine wpAnyH_take (i := 2) (oi := { dst := some 56, op := Go.Op.slice 24 (Go.Operand.tmp 54) none (some (Go.Operand.tmp 55)) none, type := 24, pos := "payload.go:49", after := #[{ on := 0, ground := Go.Ground.data }, { on := 1, ground := Go.Ground.data }], guard := none }) (v := ?_) rfl (by kernel_rfl) (by kernel_rfl) (by kernel_rfl) (fun _ _ _ h => h) (Or.inl ⟨by rfl, ?_⟩) (by assumption) ?_
            rotate_left 1
            focus ((intro wS hSw; (try dsimp only at hSw); go_simp) <;> (try with_reducible rfl))
            simp only [Act.put, List.setIfInBounds_toArray, List.set_cons_zero, List.set_cons_succ]
            refine wpAnyH_take (i := 3) (oi := { dst := some 57, op := Go.Op.move (Go.Operand.tmp 0), type := 37, pos := "payload.go:49", after := #[], guard := none }) (v := ?_) rfl (by kernel_rfl) (by kernel_rfl) (by kernel_rfl) (fun _ _ _ h => h) (Or.inl ⟨by rfl, ?_⟩) (by assumption) ?_
            rotate_left 1
            focus ((intro wS hSw; (try dsimp only at hSw); go_simp) <;> (try with_reducible rfl))
            simp only [Act.put, List.setIfInBounds_toArray, List.set_cons_zero, List.set_cons_succ]
            refine wpAnyH_ready (rs := [4]) (by kernel_rfl) (by simp) ?_
            refine AllReadyH.cons (o := { dst := some 58, op := Go.Op.call { callee := Go.Callee.value (Go.Operand.func 20), args := #[Go.Operand.tmp 57], argTypes := #[37] }, type := 2, pos := "payload.go:49", after := #[{ on := 3, ground := Go.Ground.data }], guard := none }) rfl (fun K hK => ?_) AllReadyH.nil
            go_simp
            refine (rdr_off w1.drew (R1.out.below (Below.refl _ _).drew)).mono ?_; rintro e w2 ⟨rfl, rfl⟩
            go_wp2_with fail
            refine hK.out _ _ (trivial) (fun hHeld => ?_)
            clear hK K
            (try simp only [Act.put, List.setIfInBounds_toArray, List.set_cons_zero, List.set_cons_succ])
            refine wpAnyH_take (i := 5) (oi := { dst := some 4, op := Go.Op.assign (Go.Operand.tmp 56), type := 24, pos := "payload.go:49", after := #[{ on := 2, ground := Go.Ground.data }, { on := 4, ground := Go.Ground.chain }, { on := 0, ground := Go.Ground.phase }, { on := 1, ground := Go.Ground.phase }, { on := 2, ground := Go.Ground.phase }, { on := 3, ground := Go.Ground.textOnly Go.Departure.lateStores }, { on := 4, ground := Go.Ground.textOnly Go.Departure.lateStoresUnsure }], guard := none }) (v := ?_) rfl (by kernel_rfl) (by kernel_rfl) (by kernel_rfl) (fun _ _ _ h => h) (Or.inl ⟨by rfl, ?_⟩) (by assumption) ?_
            rotate_left 1
            focus ((intro wS hSw; (try dsimp only at hSw); go_simp) <;> (try with_reducible rfl))
            simp only [Act.put, List.setIfInBounds_toArray, List.set_cons_zero, List.set_cons_succ]
            refine wpAnyH_take (i := 6) (oi := { dst := some 5, op := Go.Op.assign (Go.Operand.tmp 58), type := 2, pos := "payload.go:49", after := #[{ on := 4, ground := Go.Ground.data }, { on := 5, ground := Go.Ground.chain }, { on := 0, ground := Go.Ground.phase }, { on := 1, ground := Go.Ground.phase }, { on := 2, ground := Go.Ground.phase }, { on := 3, ground := Go.Ground.phase }, { on := 4, ground := Go.Ground.phase }, { on := 5, ground := Go.Ground.phase }], guard := none }) (v := ?_) rfl (by kernel_rfl) (by kernel_rfl) (by kernel_rfl) (fun _ _ _ h => h) (Or.inl ⟨by rfl, ?_⟩) (by assumption) ?_
            rotate_left 1
            focus ((intro wS hSw; (try dsimp only at hSw); go_simp) <;> (try with_reducible rfl))
            simp only [Act.put, List.setIfInBounds_toArray, List.set_cons_zero, List.set_cons_succ]
            refine wpAnyH_take (i := 7) (oi := { dst := some 6, op := Go.Op.assign (Go.Operand.const (Go.Value.int Go.IntKind.i64 0)), type := 27, pos := "payload.go:49", after := #[{ on := 6, ground := Go.Ground.chain }, { on := 0, ground := Go.Ground.phase }, { on := 1, ground := Go.Ground.phase }, { on := 2, ground := Go.Ground.phase }, { on := 3, ground := Go.Ground.phase }, { on := 4, ground := Go.Ground.phase }, { on := 5, ground := Go.Ground.phase }, { on := 6, ground := Go.Ground.phase }], guard := none }) (v := ?_) rfl (by kernel_rfl) (by kernel_rfl) (by kernel_rfl) (fun _ _ _ h => h) (Or.inl ⟨by rfl, ?_⟩) (by assumption) ?_
            rotate_left 1
            focus ((intro wS hSw; (try dsimp only at hSw); go_simp) <;> (try with_reducible rfl))
            simp only [Act.put, List.setIfInBounds_toArray, List.set_cons_zero, List.set_cons_succ]
            refine wpAnyH_done (by kernel_rfl) ?_ _
            go_wp2_with fail
            go_ret3
            rw [P1.out, P2.out, P3.out, P4.out, P5.out]
            exact ⟨⟨some ⟨g, 0, none⟩, c, by rw [XL.out]; first | rfl | (simp; done) | (simp; omega), by rw [XL.out]; omega, (I1.out.below (Below.refl _ _).drew).taken s, fun x hx => (HX1.out x hx).1⟩, R1.out.below (Below.refl _ _).drew, U1.out.drew⟩
          · rw [if_neg hcs] at ID
            go_wp2_with fail
            refine (ixf_any _ _ _ (X.drop s) w1 ID.out EX (by omega)).mono ?_; rintro e w2 ⟨rfl, rfl⟩
            rw [EK]
            clear EX EK
            go_wp2_with fail
            refine wp_region_held_drew (S := (fun _ => True)) (by kernel_rfl) (trivial) (fun hHeld => ?_)
            refine wpAnyH_take (i := 0) (oi := { dst := some 54, op := Go.Op.move (Go.Operand.tmp 7), type := 24, pos := "payload.go:49", after := #[], guard := none }) (v := ?_) rfl (by kernel_rfl) (by kernel_rfl) (by kernel_rfl) (fun _ _ _ h => h) (Or.inl ⟨by rfl, ?_⟩) (by assumption) ?_
            rotate_left 1
            focus ((intro wS hSw; (try dsimp only at hSw); go_simp) <;> (try with_reducible rfl))
            simp only [Act.put, List.setIfInBounds_toArray, List.set_cons_zero, List.set_cons_succ]
            refine wpAnyH_take (i := 1) (oi := { dst := some 55, op := Go.Op.move (Go.Operand.tmp 1), type := 2, pos := "payload.go:49", after := #[], guard := none }) (v := ?_) rfl (by kernel_rfl) (by kernel_rfl) (by kernel_rfl) (fun _ _ _ h => h) (Or.inl ⟨by rfl, ?_⟩) (by assumption) ?_
            rotate_left 1
            focus ((intro wS hSw; (try dsimp only at hSw); go_simp) <;> (try with_reducible rfl))
            simp only [Act.put, List.setIfInBounds_toArray, List.set_cons_zero, List.set_cons_succ]
            refine wpAnyH_take (i := 2) (oi := { dst := some 56, op := Go.Op.slice 24 (Go.Operand.tmp 54) none (some (Go.Operand.tmp 55)) none, type := 24, pos := "payload.go:49", after := #[{ on := 0, ground := Go.Ground.data }, { on := 1, ground := Go.Ground.data }], guard := none }) (v := ?_) rfl (by kernel_rfl) (by kernel_rfl) (by kernel_rfl) (fun _ _ _ h => h) (Or.inl ⟨by rfl, ?_⟩) (by assumption) ?_
            rotate_left 1
            focus ((intro wS hSw; (try dsimp only at hSw); go_simp) <;> (try with_reducible rfl))
            simp only [Act.put, List.setIfInBounds_toArray, List.set_cons_zero, List.set_cons_succ]
            refine wpAnyH_take (i := 3) (oi := { dst := some 57, op := Go.Op.move (Go.Operand.tmp 0), type := 37, pos := "payload.go:49", after := #[], guard := none }) (v := ?_) rfl (by kernel_rfl) (by kernel_rfl) (by kernel_rfl) (fun _ _ _ h => h) (Or.inl ⟨by rfl, ?_⟩) (by assumption) ?_
            rotate_left 1
            focus ((intro wS hSw; (try dsimp only at hSw); go_simp) <;> (try with_reducible rfl))
            simp only [Act.put, List.setIfInBounds_toArray, List.set_cons_zero, List.set_cons_succ]
            refine wpAnyH_ready (rs := [4]) (by kernel_rfl) (by simp) ?_
            refine AllReadyH.cons (o := { dst := some 58, op := Go.Op.call { callee := Go.Callee.value (Go.Operand.func 20), args := #[Go.Operand.tmp 57], argTypes := #[37] }, type := 2, pos := "payload.go:49", after := #[{ on := 3, ground := Go.Ground.data }], guard := none }) rfl (fun K hK => ?_) AllReadyH.nil
            go_simp
            refine (rdr_off w1.drew (R1.out.below (Below.refl _ _).drew)).mono ?_; rintro e w2 ⟨rfl, rfl⟩
            go_wp2_with fail
            refine hK.out _ _ (trivial) (fun hHeld => ?_)
            clear hK K
            (try simp only [Act.put, List.setIfInBounds_toArray, List.set_cons_zero, List.set_cons_succ])
            refine wpAnyH_take (i := 5) (oi := { dst := some 4, op := Go.Op.assign (Go.Operand.tmp 56), type := 24, pos := "payload.go:49", after := #[{ on := 2, ground := Go.Ground.data }, { on := 4, ground := Go.Ground.chain }, { on := 0, ground := Go.Ground.phase }, { on := 1, ground := Go.Ground.phase }, { on := 2, ground := Go.Ground.phase }, { on := 3, ground := Go.Ground.textOnly Go.Departure.lateStores }, { on := 4, ground := Go.Ground.textOnly Go.Departure.lateStoresUnsure }], guard := none }) (v := ?_) rfl (by kernel_rfl) (by kernel_rfl) (by kernel_rfl) (fun _ _ _ h => h) (Or.inl ⟨by rfl, ?_⟩) (by assumption) ?_
            rotate_left 1
            focus ((intro wS hSw; (try dsimp only at hSw); go_simp) <;> (try with_reducible rfl))
            simp only [Act.put, List.setIfInBounds_toArray, List.set_cons_zero, List.set_cons_succ]
            refine wpAnyH_take (i := 6) (oi := { dst := some 5, op := Go.Op.assign (Go.Operand.tmp 58), type := 2, pos := "payload.go:49", after := #[{ on := 4, ground := Go.Ground.data }, { on := 5, ground := Go.Ground.chain }, { on := 0, ground := Go.Ground.phase }, { on := 1, ground := Go.Ground.phase }, { on := 2, ground := Go.Ground.phase }, { on := 3, ground := Go.Ground.phase }, { on := 4, ground := Go.Ground.phase }, { on := 5, ground := Go.Ground.phase }], guard := none }) (v := ?_) rfl (by kernel_rfl) (by kernel_rfl) (by kernel_rfl) (fun _ _ _ h => h) (Or.inl ⟨by rfl, ?_⟩) (by assumption) ?_
            rotate_left 1
            focus ((intro wS hSw; (try dsimp only at hSw); go_simp) <;> (try with_reducible rfl))
            simp only [Act.put, List.setIfInBounds_toArray, List.set_cons_zero, List.set_cons_succ]
            refine wpAnyH_take (i := 7) (oi := { dst := some 6, op := Go.Op.assign (Go.Operand.const (Go.Value.int Go.IntKind.i64 0)), type := 27, pos := "payload.go:49", after := #[{ on := 6, ground := Go.Ground.chain }, { on := 0, ground := Go.Ground.phase }, { on := 1, ground := Go.Ground.phase }, { on := 2, ground := Go.Ground.phase }, { on := 3, ground := Go.Ground.phase }, { on := 4, ground := Go.Ground.phase }, { on := 5, ground := Go.Ground.phase }, { on := 6, ground := Go.Ground.phase }], guard := none }) (v := ?_) rfl (by kernel_rfl) (by kernel_rfl) (by kernel_rfl) (fun _ _ _ h => h) (Or.inl ⟨by rfl, ?_⟩) (by assumption) ?_
            rotate_left 1
            focus ((intro wS hSw; (try dsimp only at hSw); go_simp) <;> (try with_reducible rfl))
            simp only [Act.put, List.setIfInBounds_toArray, List.set_cons_zero, List.set_cons_succ]
            refine wpAnyH_done (by kernel_rfl) ?_ _
            go_wp2_with fail
            go_ret3
            rw [P1.out, P2.out, P3.out, P4.out, P5.out]
            exact ⟨⟨some ⟨g, 0, none⟩, c, by rw [XL.out]; first | rfl | (simp; done) | (simp; omega), by rw [XL.out]; omega, (I1.out.below (Below.refl _ _).drew).taken s, fun x hx => (HX1.out x hx).1⟩, R1.out.below (Below.refl _ _).drew, U1.out.drew⟩
    · obtain ⟨e1, e2, e3, e4, e5⟩ := rd_no (E := E) hs hn.out hok
      have hne := pyE_ne (E := E) hE hok
      obtain ⟨V, hV⟩ := named (pyE Z E o err n)
      rw [← hV.out] at e1 hne
      have P1 := Lib.hid e1; have P2 := Lib.hid e2; have P3 := Lib.hid e3; have P4 := Lib.hid e4; have P5 := Lib.hid e5
      have hne0 : (V == 0) = false := by simp [hne]
      obtain ⟨O, hO⟩ := named (pyO Z o err n)
      rw [← hO.out] at e2 e4
      have P2 := Lib.hid e2; have P4 := Lib.hid e4
      clear e1 e2 e3 e4 e5 hok hb h hE
      by_cases h4 : V = 4
      · have h4' : (V == 4) = true := by simp [h4]
        have P1' : Hid (rdE Z E o err s = 5) := by show _ = _; rw [P1.out, if_pos h4]
        clear h4 hne
        go_enter Tryz.func128, Tryz.ntmps128
        go_wp2_with fail
        refine (blocks_any (s : Int) (by omega) w).mono ?_; rintro e w0 ⟨rfl, rfl⟩
        rw [en]
        go_wp2_with fail
        refine (rblk_any n w H.out HE.out (by have := hn.out; omega)).mono ?_; rintro e w1 ⟨v, rfl, o1, r1, u1⟩
        rw [← hO.out] at r1
        rw [← hV.out]
        have R1 := Lib.hid r1; have U1 := Lib.hid u1
        clear o1 r1 u1
        go_wp2_with fail
        refine (rdr_off w1 R1.out).mono ?_; rintro e w2 ⟨rfl, rfl⟩
        go_wp2_with fail
        go_ret3
        rw [P1'.out, P2.out, P3.out, P4.out, P5.out]
        exact ⟨⟨none, 0, rfl, Nat.le_refl _, .inl rfl, fun x hx => by cases hx⟩, R1.out, U1.out⟩
      · have h4' : (V == 4) = false := by simp [h4]
        have P1' : Hid (rdE Z E o err s = V) := by show _ = _; rw [P1.out, if_neg h4]
        clear h4 hne
        go_enter Tryz.func128, Tryz.ntmps128
        go_wp2_with fail
        refine (blocks_any (s : Int) (by omega) w).mono ?_; rintro e w0 ⟨rfl, rfl⟩
        rw [en]
        go_wp2_with fail
        refine (rblk_any n w H.out HE.out (by have := hn.out; omega)).mono ?_; rintro e w1 ⟨v, rfl, o1, r1, u1⟩
        rw [← hO.out] at r1
        rw [← hV.out]
        have R1 := Lib.hid r1; have U1 := Lib.hid u1
        clear o1 r1 u1
        go_wp2_with fail
        refine (rdr_off w1 R1.out).mono ?_; rintro e w2 ⟨rfl, rfl⟩
        go_wp2_with fail
        go_ret3
        rw [P1'.out, P2.out, P3.out, P4.out, P5.out]
        exact ⟨⟨none, 0, rfl, Nat.le_refl _, .inl rfl, fun x hx => by cases hx⟩, R1.out, U1.out⟩
end Go.Proofs.YtbbaleambgaanaaGreatDoor
/-
  The reference's Chunk (layer 4).
-/
namespace Go.Proofs.YtbbaleambgaanaaGreatDoor
open Go.RowKit

set_option maxRecDepth 100000 in
set_option maxHeartbeats 4000000 in
theorem rchunk_any (sa : Option Addr) (sc : Nat) (cs : List Int) (F : Int) (r : Nat) (w : World) (hi : InK .i64 w sa cs) (hl : cs.length ≤ 1000) :
    Calls Tryz.prog 135 #[.agg #[.slice sa cs.length sc, .int .i64 F], .int .i64 r] w fun e w' => e = .returned (.int .i64 (chunkZ cs r)) ∧ Below w.heap.size w w' := by
  have HI := Lib.hid hi; have HL := Lib.hid hl
  clear hi hl
  by_cases hz : cs.length = 0
  · have HZ := Lib.hid hz
    rw [hz]
    clear hz
    go_enter Tryz.func135, Tryz.ntmps135
    go_wp2_with (refine wpList_box_obj rfl 36 _ rfl [.slice sa 0 sc, .int .i64 F] rfl ?_; intro w1 h1 b1; have B1 := Lib.hid b1; have c0 := h1.get 0 rfl; have c1 := h1.get 1 rfl; clear h1 b1)
    go_ret
    refine ⟨?_, B1.out⟩
    unfold chunkZ; rw [if_pos HZ.out]; rfl
  · obtain ⟨L, hL⟩ := named cs.length
    obtain ⟨i, hI⟩ := named (r % cs.length)
    obtain ⟨d, hd⟩ := named (cs.getD i 0)
    have hlt : i < cs.length := by rw [hI.out]; exact Nat.mod_lt _ (by omega)
    obtain ⟨b, off, rfl, hb⟩ := HI.out.plain (by omega)
    have hck : Hid (chunkZ cs r = max d 1) := by show _ = _; unfold chunkZ; rw [if_neg hz, hd.out, hI.out]
    have HLT := Lib.hid hlt
    have hmod : (r : Int) % (L : Int) = (i : Int) := by rw [hI.out, hL.out]; omega
    have hlt' : (i : Int) < L := by rw [hL.out]; omega
    have hL0 : ¬ L = 0 := by rw [hL.out]; exact hz
    rw [← hL.out]
    clear hz hlt
    go_enter Tryz.func135, Tryz.ntmps135
    go_wp2_with (refine wpList_box_obj rfl 36 _ rfl [.slice (some ⟨b, off, none⟩) L sc, .int .i64 F] rfl ?_; intro w1 h1 b1; have B1 := Lib.hid b1; have c0 := h1.get 0 rfl; have c1 := h1.get 1 rfl; have cd := (HI.out.below b1).get i HLT.out; rw [← hd.out] at cd; clear h1 b1)
    go_quiet (fail)
    by_cases hd1 : d < 1
    · have HK : Hid (chunkZ cs r = 1) := by show _ = _; rw [hck.out]; omega
      go_wp2
      go_ret
      exact ⟨by rw [HK.out]; rfl, B1.out.trans (drewN_below _ _ _)⟩
    · have HK : Hid (chunkZ cs r = d) := by show _ = _; rw [hck.out]; omega
      go_wp2
      go_ret
      exact ⟨by rw [HK.out]; rfl, B1.out.trans (drewN_below _ _ _)⟩
end Go.Proofs.YtbbaleambgaanaaGreatDoor
/-
  Layer 4: walks of the reference: New.
-/
namespace Go.Proofs.YtbbaleambgaanaaGreatDoor
open Go.RowKit

/-- at m lies the reference's source -/
def Ref (w : World) (lo hi m : Nat) (zs : List Int) (F : Int) (cs : List Int) (o r : Nat) : Prop :=
  ∃ da dc sa sc, ObjAt w m 86 [.slice da zs.length dc, .slice sa cs.length sc, .int .i64 F, .int .i64 o, .int .i64 r] ∧ BytesIn w da zs ∧ zs.length ≤ dc ∧ InK .i64 w sa cs ∧ cs.length ≤ 1000 ∧ zs.length ≤ 100000000 ∧
    (lo ≤ m ∧ m < hi ∧ hi ≤ w.heap.size) ∧ (∀ x, da = some x → lo ≤ x.block ∧ x.block < hi ∧ x.block ≠ m) ∧ (∀ x, sa = some x → lo ≤ x.block ∧ x.block < hi ∧ x.block ≠ m) ∧ r ≤ o

theorem Ref.out {w w' : World} {lo hi m lo' hi' : Nat} {zs cs : List Int} {F : Int} {o r : Nat} (h : Ref w lo hi m zs F cs o r) (ho : Out lo' hi' w w') (hd : hi ≤ lo' ∨ hi' ≤ lo) : Ref w' lo hi m zs F cs o r := by
  obtain ⟨da, dc, sa, sc, h1, h2, h3, h4, h5, h6, h7, h8, h9, h10⟩ := h
  refine ⟨da, dc, sa, sc, h1.out ho (by omega), h2.out ho (fun x hx => by have := h8 x hx; omega), h3, h4.out ho (fun x hx => by have := h9 x hx; omega), h5, h6, ?_, h8, h9, h10⟩
  have := ho.size
  omega
theorem Ref.size {w : World} {lo hi m : Nat} {zs cs : List Int} {F : Int} {o r : Nat} (h : Ref w lo hi m zs F cs o r) : hi ≤ w.heap.size ∧ lo ≤ m ∧ m < hi := by
  obtain ⟨_, _, _, _, _, _, _, _, _, _, h7, _⟩ := h; exact ⟨h7.2.2, h7.1, h7.2.1⟩

theorem Ref.step {w w3 : World} {lo hi m : Nat} {zs cs : List Int} {F : Int} {o r : Nat} (h : Ref w lo hi m zs F cs o r) (hb : Below w.heap.size w w3) (e k : Nat) (he : e = o + k) (hk : 1 ≤ k) :
    Ref ((w3.setCell ⟨m, 3, none⟩ (.int .i64 e)).setCell ⟨m, 4, none⟩ (.int .i64 (r + 1))) lo hi m zs F cs (o + k) (r + 1) ∧ Out lo hi w ((w3.setCell ⟨m, 3, none⟩ (.int .i64 e)).setCell ⟨m, 4, none⟩ (.int .i64 (r + 1))) ∧
    ∀ b ys, InK .u8 w3 b ys → (∀ x, b = some x → w.heap.size ≤ x.block) → InK .u8 ((w3.setCell ⟨m, 3, none⟩ (.int .i64 e)).setCell ⟨m, 4, none⟩ (.int .i64 (r + 1))) b ys := by
  obtain ⟨da, dc, sa, sc, h1, h2, h3, h4, h5, h6, h7, h8, h9, h10⟩ := h
  subst he
  have hlt := h1.lt
  have hs := hb.size
  refine ⟨⟨da, dc, sa, sc, ((h1.below hb hlt).set 3 _).set 4 _, ((h2.below hb).set _ (fun x hx => (h8 x hx).2.2)).set _ (fun x hx => (h8 x hx).2.2), h3, ((h4.below hb).set _ (fun x hx => (h9 x hx).2.2)).set _ (fun x hx => (h9 x hx).2.2), h5, h6, ?_, h8, h9, by omega⟩, ?_, ?_⟩
  · simp [World.setCell]; omega
  · exact ((Out.of_below hb (Nat.le_refl _)).setCell (by show lo ≤ m; omega) (by show m < hi; omega) _).setCell (by show lo ≤ m; omega) (by show m < hi; omega) _
  · intro b ys hk hx
    exact (hk.set _ (fun x e => by have := hx x e; omega)).set _ (fun x e => by have := hx x e; omega)

set_option maxRecDepth 100000 in
set_option maxHeartbeats 8000000 in
theorem rnew_any (a : Option Addr) (n cap : Nat) (zs : List Int) (ca : Option Addr) (cl cc : Nat) (cs : List Int) (F : Int) (w : World) (hb : BytesIn w a zs) (hl : zs.length = n) (hn : n ≤ 100000000)
    (hi : InK .i64 w ca cs) (hcl : cs.length = cl) (hc : cl ≤ 1000) :
    Calls Tryz.prog 17 #[.slice a n cap, .agg #[.slice ca cl cc, .int .i64 F]] w fun e w' => ∃ m, e = .returned (.pointer (some ⟨m, 0, none⟩)) ∧
      Ref w' w.heap.size w'.heap.size m zs F cs 0 0 ∧ Below w.heap.size w w' := by
  have HB := Lib.hid hb; have HL := Lib.hid hl; have HI := Lib.hid hi; have HCL := Lib.hid hcl; have HC := Lib.hid hc; have HN := Lib.hid hn
  clear hb hl hi hcl hc
  go_enter Tryz.func17, Tryz.ntmps17
  go_wp2_with (refine wpList_box_obj rfl 36 _ rfl [.slice ca cl cc, .int .i64 F] rfl ?_; intro w1 h1 b1; have H1 := Lib.hid h1; have B1 := Lib.hid b1; clear h1 b1)
  have K0 : Hid (∀ w', Below w1.heap.size w1 w' → w'.cell? ⟨w.heap.size, 0, none⟩ = some (.slice ca cl cc) ∧ w'.cell? ⟨w.heap.size, 1, none⟩ = some (.int .i64 F)) := fun w' hb => ⟨(H1.out.below hb H1.out.lt).get 0 rfl, (H1.out.below hb H1.out.lt).get 1 rfl⟩
  have X1 := Lib.hid (HB.out.below B1.out).inK; have Y1 := Lib.hid (HI.out.below B1.out)
  obtain ⟨d0, d1⟩ := K0.out _ (Below.refl _ _)
  go_region_held3 (fun w' => w'.cell? ⟨w.heap.size, 0, none⟩ = some (.slice ca cl cc) ∧ w'.cell? ⟨w.heap.size, 1, none⟩ = some (.int .i64 F)) (first | exact K0.out _ (Below.refl _ _).drew | exact ⟨d0, d1⟩ | go_keep) (first | (refine step_append_fresh rfl (.tmp 5) (.tmp 6) 24 rfl 5 .u8 1 Tryz.underlying24 u8T w1 w1 (by repeat (first | exact Below.refl _ _ | refine Below.drew ?_ | refine Below.alloc ?_ (by simp; try omega) _)) (by repeat (first | exact Below.refl _ _ | refine Below.drew ?_ | refine Below.alloc ?_ (by simp; try omega) _)) _ rfl (by simp; try omega) (by simp; try omega) a n cap zs rfl X1.out HL.out (by have := HN.out; omega) (by have := HN.out; omega) ?_; intro a2 c2 w2 i2 p2 q2 b2 _ z2 x2; try simp at z2; have L2 := Lib.hid z2; clear z2; have I2 := Lib.hid i2; have P2 := Lib.hid p2; have B2 := Lib.hid b2; have X2 := Lib.hid x2; obtain ⟨e0, e1⟩ := K0.out _ b2; clear i2 p2 q2 b2 x2) | (refine step_append_fresh rfl (.tmp 8) (.tmp 10) 34 rfl 3 .i64 8 Tryz.underlying34 i64T w1 w2 (by repeat (first | exact Below.refl _ _ | exact B2.out | refine Below.drew ?_ | refine Below.alloc ?_ (by have := B2.out.size; simp; try omega) _)) (by repeat (first | exact Below.refl _ _ | refine Below.drew ?_ | refine Below.alloc ?_ (by simp; try omega) _)) _ rfl (by have := B2.out.size; simp; try omega) (by have := B2.out.size; have := L2.out; simp; try omega) ca cl cc cs rfl Y1.out HCL.out (by have := HC.out; omega) (by have := HC.out; omega) ?_; intro a3 c3 w3 i3 p3 q3 b3 b23 _ x3; have I3 := Lib.hid i3; have P3 := Lib.hid p3; have B3 := Lib.hid b3; have B23 := Lib.hid b23; have X3 := Lib.hid x3; obtain ⟨g0, g1⟩ := K0.out _ b3; clear i3 p3 q3 b3 b23 x3))
  all_goals
    go_wp2
    go_ret
    have bz := B2.out.size; have bz3 := B23.out.size; have bz1 := B1.out.size; have lt := H1.out.lt
    have B4 : Below w3.heap.size w3 (w3.alloc (.cells #[.slice a2 n c2, .slice a3 cl c3, .int .i64 F, .int .i64 0, .int .i64 0] 86)) := (Below.refl _ _).alloc (Nat.le_refl _) _
    refine ⟨_, rfl, ⟨a2, c2, a3, c3, ?_, ((I2.out.below B23.out).below B4).bytes HB.out.bytes, by rw [HL.out]; exact P2.out, I3.out.below B4, by rw [HCL.out]; exact HC.out, by rw [HL.out]; exact HN.out, ?_, fun x hx => ?_, fun x hx => ?_, Nat.le_refl _⟩, (B1.out.trans (B3.out.mono bz1)).trans (B4.mono (by omega))⟩
    · rw [HL.out, HCL.out]; exact heap_alloc_new w3 _
    · simp; omega
    · have := X2.out x hx; simp; omega
    · have := X3.out x hx; simp; omega
end Go.Proofs.YtbbaleambgaanaaGreatDoor
