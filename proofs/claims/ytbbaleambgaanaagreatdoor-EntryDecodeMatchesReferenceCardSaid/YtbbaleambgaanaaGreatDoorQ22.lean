/- EtrVars PayRead -/
import Derived.Test.YtbbaleambgaanaaGreatDoorQ14
import Derived.Test.YtbbaleambgaanaaGreatDoorQ4
import Derived.Test.YtbbaleambgaanaaGreatDoorQ21
import Derived.Test.YtbbaleambgaanaaGreatDoorQ8
import Derived.Test.YtbbaleambgaanaaGreatDoorQ11
namespace Go.Proofs.YtbbaleambgaanaaGreatDoor.Etr
open Go.RowKit Go.Proofs.YtbbaleambgaanaaGreatDoor.Fit Pxr
structure MV (B : Nat) (w : World) : Prop where
  v : MVars w
  s : B ≤ w.heap.size
  g : 2 < B ∧ 1 < B ∧ 0 < B ∧ 6 < B ∧ 7 < B
structure FV (B : Nat) (w : World) : Prop where
  v : FVars w
  s : B ≤ w.heap.size
  g : 2 < B ∧ 1 < B ∧ 0 < B
theorem var_lt {w : World} {g : Nat} {n : String} {cs : Array Value} (hg : Tryz.prog.globalNamed n = some g) (h : w.var? Tryz.prog n = some cs) : g < w.heap.size := by
  unfold World.var? at h
  rw [hg] at h
  rcases Nat.lt_or_ge g w.heap.size with h' | h'
  · exact h'
  · simp [Array.getElem?_eq_none h'] at h
theorem var_under {w w' : World} {B g : Nat} {n : String} {cs : Array Value} (hg : Tryz.prog.globalNamed n = some g) (h : w.var? Tryz.prog n = some cs) (hb : Below B w w') (hB : g < B) : w'.var? Tryz.prog n = some cs := by
  unfold World.var? at h ⊢
  rw [hg] at h ⊢
  rw [← h]
  simp only [Option.bind_some]
  rw [hb.block g hB]
theorem FV.of {w : World} (h : FVars w) : FV w.heap.size w := ⟨h, Nat.le_refl _, tab_lt h.v.tab, cell_lt h.v.k0, var_lt gTys h.tys⟩
theorem MV.of {w : World} (h : MVars w) : MV w.heap.size w := by
  obtain ⟨f, ⟨a, b, c⟩, ⟨d, e, g⟩⟩ := h
  exact ⟨⟨f, ⟨a, b, c⟩, ⟨d, e, g⟩⟩, Nat.le_refl _, tab_lt f.v.tab, cell_lt f.v.k0, var_lt gTys f.tys, var_lt gSyn c, var_lt gRng g⟩
theorem FV.below {B : Nat} {w w' : World} (h : FV B w) (hb : Below B w w') : FV B w' := by
  obtain ⟨⟨v, t⟩, s, g1, g2, g3⟩ := h
  refine ⟨⟨⟨?_, (hb.cell (p := ⟨1, 0, none⟩) g2).trans v.k0, (hb.cell (p := ⟨1, 1, none⟩) g2).trans v.k1, (hb.cell (p := ⟨1, 2, none⟩) g2).trans v.k2⟩, var_under gTys t hb g3⟩, Nat.le_trans s hb.size, g1, g2, g3⟩
  exact var_under (by kernel_rfl : Tryz.prog.globalNamed "internal/strconv.uint64pow10" = some 2) v.tab hb g1
theorem MV.f {B : Nat} {w : World} (h : MV B w) : FV B w := ⟨h.v.f, h.s, h.g.1, h.g.2.1, h.g.2.2.1⟩
theorem MV.below {B : Nat} {w w' : World} (h : MV B w) (hb : Below B w w') : MV B w' := by
  have f := h.f.below hb
  obtain ⟨⟨_, ⟨a, b, c⟩, ⟨d, e, g⟩⟩, s, g1, g2, g3, g4, g5⟩ := h
  exact ⟨⟨f.v, ⟨a, b, var_under gSyn c hb g4⟩, ⟨d, e, var_under gRng g hb g5⟩⟩, f.s, g1, g2, g3, g4, g5⟩
theorem FV.go {B : Nat} {w w' : World} (h : FV B w) (hb : Below w.heap.size w w') : FV B w' := h.below (hb.mono h.s)
theorem MV.go {B : Nat} {w w' : World} (h : MV B w) (hb : Below w.heap.size w w') : MV B w' := h.below (hb.mono h.s)
theorem MV.out {B lo hi : Nat} {w w' : World} (h : MV B w) (ho : Out lo hi w w') (hB : B ≤ lo) : MV B w' := h.below (ho.below hB h.s)
theorem mvars_of {W : World} {a b c d : String × DataW Unit} (h : laidMetH Tryz.prog [a, b, ("internal/strconv.uint64pow10", Rows.laid_internal_strconv_uint64pow10), c, ("strconv.ErrRange", Rows.laid_strconv_ErrRange), ("strconv.ErrSyntax", Rows.laid_strconv_ErrSyntax), ("paxtar/paxrec.keys", Rows.laid_paxtar_paxrec_keys), ("paxtar/fit.types", Rows.laid_paxtar_fit_types), d] W)
    (hp : ([a, b, ("internal/strconv.uint64pow10", Rows.laid_internal_strconv_uint64pow10), c, ("strconv.ErrRange", Rows.laid_strconv_ErrRange), ("strconv.ErrSyntax", Rows.laid_strconv_ErrSyntax), ("paxtar/paxrec.keys", Rows.laid_paxtar_paxrec_keys), ("paxtar/fit.types", Rows.laid_paxtar_fit_types), d].all fun x => x.2.handleName?.isNone) = true) : MVars W := by
  rw [MakeChecks.laidMetH_plain _ _ _ hp] at h
  have h1 := h.tail.tail
  have h2 := h1.tail.tail
  have h3 := h2.tail
  have h4 := h3.tail
  obtain ⟨k0, k1, k2⟩ := keys_of_head h4
  obtain ⟨a0, s0, hr, -, -, -⟩ := laid_sentinel h2 gRng (by kernel_rfl : (Tryz.prog.globals[7]?).map (·.type) = some 120) Tryz.underlying120 rowE Tryz.underlying271 Tryz.underlying273 rfl rfl Tryz.underlying9 (by kernel_rfl) (by kernel_rfl)
  obtain ⟨a1, s1, hs, -, -, -⟩ := laid_sentinel h3 gSyn (by kernel_rfl : (Tryz.prog.globals[6]?).map (·.type) = some 120) Tryz.underlying120 rowE Tryz.underlying271 Tryz.underlying273 rfl rfl Tryz.underlying9 (by kernel_rfl) (by kernel_rfl)
  exact ⟨⟨⟨tab_of_head h1, k0, k1, k2⟩, tys_of_head h4.tail⟩, ⟨_, _, hs⟩, ⟨_, _, hr⟩⟩
end Go.Proofs.YtbbaleambgaanaaGreatDoor.Etr
namespace Go.Proofs.YtbbaleambgaanaaGreatDoor
open Go.RowKit
theorem InK.dropped {k : IntKind} {w : World} {g c : Nat} {zs : List Int} (h : InK k w (some ⟨g, 0, none⟩) zs) (s : Nat) (hc : zs.length ≤ c) : InK k w (if c = s then some ⟨g, 0, none⟩ else some ⟨g, s, none⟩) (zs.drop s) := by
  rcases Nat.lt_or_ge s zs.length with hs | hs
  · rw [if_neg (by omega)]
    refine .inr ⟨g, s, rfl, ?_, fun i hi => ?_⟩
    · obtain ⟨b, off, h1, h2⟩ := h.plain (by omega)
      cases h1; exact h2
    · rw [List.length_drop] at hi
      have := h.get (s + i) (by omega)
      rw [Nat.zero_add] at this
      rw [this, List.getD_eq_getElem?_getD, List.getD_eq_getElem?_getD, List.getElem?_drop]
  · exact .inl (List.drop_eq_nil_of_le hs)
theorem InK.taken {k : IntKind} {w : World} {a : Option Addr} {zs : List Int} (h : InK k w a zs) (n : Nat) : InK k w a (zs.take n) := by
  rcases h with h | ⟨b, off, h1, h2, h3⟩
  · rw [h]; exact .inl (by simp)
  · refine .inr ⟨b, off, h1, h2, fun i hi => ?_⟩
    rw [List.length_take] at hi
    rw [h3 i (by omega), List.getD_eq_getElem?_getD, List.getD_eq_getElem?_getD, List.getElem?_take, if_pos (by omega)]
theorem pread_bad {lo hi q : Nat} {Z : List Int} {E : Int} {o : Nat} {err : Int} (z : Int) (w : World) (h : Rdr w lo hi q Z E o err) (hz : szBad z) :
    Calls Tryz.prog 128 #[.pointer (some ⟨q, 0, none⟩), .int .i64 z] w fun e w' => e = .returned (.tuple #[.slice none 0 0, .int .i64 o, .int .i64 3]) ∧ w = w' := by
  by_cases h0 : z < 0
  · go_enter Tryz.func128, Tryz.ntmps128
    go_wp2_with fail
    refine (rdr_off w h).mono ?_; rintro e w2 ⟨rfl, rfl⟩
    go_wp2_with fail
    go_ret3
    exact ⟨rfl, rfl⟩
  · have h1 : 1099511627776 < z := hz.resolve_left h0
    go_enter Tryz.func128, Tryz.ntmps128
    go_wp2_with fail
    refine (rdr_off w h).mono ?_; rintro e w2 ⟨rfl, rfl⟩
    go_wp2_with fail
    go_ret3
    exact ⟨rfl, rfl⟩
def RetRd (D : List Int) (p e : Int) (B : Nat) (x : Ending) (w' : World) : Prop := ∃ b c, x = .returned (.tuple #[.slice b D.length c, .int .i64 p, .int .i64 e]) ∧ D.length ≤ c ∧ InK .u8 w' b D ∧ ∀ x, b = some x → B ≤ x.block
set_option maxRecDepth 100000 in
set_option maxHeartbeats 8000000 in
theorem pread_any {lo hi q : Nat} {Z : List Int} {E : Int} {o : Nat} {err : Int} (z : Int) (w : World) (h : Rdr w lo hi q Z E o err) (hE : E = 11 ∨ E = 4) :
    Calls Tryz.prog 128 #[.pointer (some ⟨q, 0, none⟩), .int .i64 z] w fun e w' => RetRd (rdD Z o err z) (rdP Z o err z) (rdE Z E o err z) w.heap.size e w' ∧ Rdr w' lo hi q Z E (rdO Z o err z) (rdS Z E o err z) ∧ Out lo hi w w' := by
  by_cases hb : szBad z
  · obtain ⟨e1, e2, e3, e4, e5⟩ := rd_bad (Z := Z) (E := E) (o := o) (err := err) hb
    rw [e1, e2, e3, e4, e5]
    refine (pread_bad z w h hb).mono ?_
    rintro e w' ⟨rfl, rfl⟩
    exact ⟨⟨none, 0, rfl, Nat.le_refl _, .inl rfl, fun x hx => by cases hx⟩, h, .refl _ _ _⟩
  · obtain ⟨s, rfl⟩ : ∃ s : Nat, z = s := ⟨z.toNat, by unfold szBad at hb; omega⟩
    have hs : s ≤ 1099511627776 := by unfold szBad at hb; omega
    have hs' : (s : Int) ≤ 1099511627776 := by omega
    have HZ := Lib.hid h.bd; have HS := Lib.hid h.size; have H := Lib.hid h; have HE := Lib.hid hE
    have hnb := blkN_bd hs
    obtain ⟨n, hn⟩ := named (blkN s)
    have en : blkN (s : Int).toNat = n := hn.out.symm
    by_cases hok : pyOk Z o err n
    · obtain ⟨p1, p2, p3, p4⟩ := py_ok (E := E) hok
      obtain ⟨D, hD⟩ := named (512 * n)
      rw [← hD.out] at p2 p4
      obtain ⟨pl, xl⟩ := rdPad_len (s := s) (by rw [← hn.out]; exact hok)
      rw [← hn.out, ← hD.out] at pl xl
      have hsD : s ≤ D := by rw [hD.out, hn.out]; exact blkN_le s
      obtain ⟨X, hX⟩ := named ((Z.drop o).take D)
      have hpad : rdPad Z o s = X.drop s := by unfold rdPad; rw [hX.out, ← hn.out, ← hD.out]
      have hdat : (Z.drop o).take s = X.take s := by rw [hX.out, List.take_take, Nat.min_eq_left hsD]
      rw [← hX.out] at p4 xl
      have XLN := Lib.hid xl; have HPD := Lib.hid hpad; have HDT := Lib.hid hdat
      have XL : Hid ((X.take s).length = s) := by show _ = _; rw [List.length_take, xl]; omega
      have HQ : Hid (pyE Z E o err n = 0 ∧ pyO Z o err n = o + D ∧ pyS Z E o err n = err ∧ pyB Z o err n = X) := ⟨p1, p2, p3, p4⟩
      have oD : (o : Int) + D ≤ 140737488355328 ∨ D = 0 := by
        rcases hok with h0 | h0
        · right; have := hD.out; omega
        · left; have := HZ.out.1; have := hD.out; omega
      have hoD : (o : Int) + D ≤ 140737488355328 := by have := HZ.out.1; have := HS.out.2.2.2; omega
      have HSD := Lib.hid hsD
      by_cases hi : nzI (rdPad Z o s) < (rdPad Z o s).length
      · obtain ⟨e1, e2, e3, e4, e5⟩ := rd_pad (E := E) hs hn.out hok hi
        have P1 := Lib.hid e1; have P2 := Lib.hid e2; have P3 := Lib.hid e3; have P4 := Lib.hid e4; have P5 := Lib.hid e5
        rw [← hD.out] at e4
        have P4 := Lib.hid e4
        obtain ⟨k, hk⟩ := named (nzI (rdPad Z o s))
        rw [← hk.out] at e2 hi
        rw [pl] at hi
        have P2 := Lib.hid e2
        have HK := Lib.hid hi
        have hsD' : s < D := by omega
        clear e1 e2 e3 e4 e5 p1 p2 p3 p4 hok hb h hE hpad hdat pl xl hi
        go_enter Tryz.func128, Tryz.ntmps128
        go_wp2_with fail
        refine (blocks_any (s : Int) (by omega) w).mono ?_; rintro e w0 ⟨rfl, rfl⟩
        rw [en]
        go_wp2_with fail
        refine (rblk_any n w H.out HE.out (by have := hn.out; omega)).mono ?_; rintro e w1 ⟨v, rfl, o1, r1, u1⟩
        rw [HQ.out.2.2.2, XLN.out] at o1
        rw [HQ.out.2.1, HQ.out.2.2.1] at r1
        rw [HQ.out.1]
        have R1 := Lib.hid r1; have U1 := Lib.hid u1; have O1 := Lib.hid o1
        obtain ⟨g, c, rfl, hg⟩ := own_shape o1 (by omega)
        obtain ⟨_, _, hv, i1, hc, _⟩ := own_any o1
        simp only [Value.slice.injEq, true_and] at hv
        obtain ⟨rfl, rfl⟩ := hv
        have I1 := Lib.hid i1; have HC := Lib.hid hc
        have hcs : ¬ c = s := by omega
        have hDs : (s : Int) ≤ D := by omega
        clear o1 r1 u1 i1
        go_wp2_with fail
        have ID := Lib.hid (I1.out.dropped s (by rw [XLN.out]; exact HC.out))
        rw [if_neg hcs] at ID
        have EX : (X.drop s).length = D - s := by rw [List.length_drop, XLN.out]
        have EK : (if nzI (X.drop s) < D - s then (nzI (X.drop s) : Int) else -1) = (k : Int) := by rw [← HPD.out, ← hk.out, if_pos HK.out]
        refine (ixf_any _ _ _ (X.drop s) w1 ID.out EX (by omega)).mono ?_; rintro e w2 ⟨rfl, rfl⟩
        rw [EK]
        have hk1 : (k : Int) < (D : Int) - s := by have := HK.out; omega
        clear EX EK
        go_wp2_with fail
        refine (rdr_off w1 R1.out).mono ?_; rintro e w2 ⟨rfl, rfl⟩
        go_wp2_with fail
        go_ret3
        rw [P1.out, P2.out, P3.out, P4.out, P5.out, show (o : Int) + D - (((D - s : Nat) : Int) - k) = ((o + (s + k) : Nat) : Int) by have := HSD.out; have := HK.out; omega]
        exact ⟨⟨none, 0, rfl, Nat.le_refl _, .inl rfl, fun x hx => by cases hx⟩, R1.out, U1.out⟩
      · obtain ⟨e1, e2, e3, e4, e5⟩ := rd_ok (E := E) hs hn.out hok hi
        have P1 := Lib.hid e1; have P5 := Lib.hid e5
        rw [← hD.out] at e2 e4
        rw [hdat] at e3
        have P2 := Lib.hid e2; have P3 := Lib.hid e3; have P4 := Lib.hid e4
        rw [pl] at hi
        have HI := Lib.hid hi
        clear e1 e2 e3 e4 e5 p1 p2 p3 p4 hok hb h hE hpad hdat pl xl hi
        go_enter Tryz.func128, Tryz.ntmps128
        go_wp2_with fail
        refine (blocks_any (s : Int) (by omega) w).mono ?_; rintro e w0 ⟨rfl, rfl⟩
        rw [en]
        go_wp2_with fail
        refine (rblk_any n w H.out HE.out (by have := hn.out; omega)).mono ?_; rintro e w1 ⟨v, rfl, o1, r1, u1⟩
        rw [HQ.out.2.2.2, XLN.out] at o1
        rw [HQ.out.2.1, HQ.out.2.2.1] at r1
        rw [HQ.out.1]
        have R1 := Lib.hid r1; have U1 := Lib.hid u1; have O1 := Lib.hid o1
        obtain ⟨b1, c1, hv1, i1, hc1, _, _, x1⟩ := own_any o1
        have HX1 := Lib.hid x1
        clear r1 u1 x1
        rcases o1.2 with ⟨rfl, h0⟩ | ⟨g, c, cur, rfl, hg, _⟩
        · obtain rfl : D = 0 := h0
          obtain rfl : s = 0 := by omega
          clear o1 i1 hv1
          go_wp2_with fail
          refine (ixf_any none 0 0 [] w1 (.inl rfl) rfl (by decide)).mono ?_; rintro e w2 ⟨rfl, rfl⟩
          have EK : (if nzI ([] : List Int) < 0 then (nzI ([] : List Int) : Int) else -1) = -1 := if_neg (Nat.not_lt_zero _)
          rw [EK]
          go_wp2_with fail
          refine wp_region_held_drew (S := (fun _ => True)) (by kernel_rfl) (trivial) (fun hHeld => ?_)
          refine tk 0 { dst := some 54, op := Go.Op.move (Go.Operand.tmp 7), type := 24, pos := "payload.go:49", after := #[], guard := none } ?_ ?_ ?_
          rotate_left 1
          focus ((intro wS hSw; (try dsimp only at hSw); go_simp) <;> (try with_reducible rfl))
          simp only [Act.put, List.setIfInBounds_toArray, List.set_cons_zero, List.set_cons_succ]
          refine tk 1 { dst := some 55, op := Go.Op.move (Go.Operand.tmp 1), type := 2, pos := "payload.go:49", after := #[], guard := none } ?_ ?_ ?_
          rotate_left 1
          focus ((intro wS hSw; (try dsimp only at hSw); go_simp) <;> (try with_reducible rfl))
          simp only [Act.put, List.setIfInBounds_toArray, List.set_cons_zero, List.set_cons_succ]
          refine tk 2 { dst := some 56, op := Go.Op.slice 24 (Go.Operand.tmp 54) none (some (Go.Operand.tmp 55)) none, type := 24, pos := "payload.go:49", after := #[{ on := 0, ground := Go.Ground.data }, { on := 1, ground := Go.Ground.data }], guard := none } ?_ ?_ ?_
          rotate_left 1
          focus ((intro wS hSw; (try dsimp only at hSw); go_simp) <;> (try with_reducible rfl))
          simp only [Act.put, List.setIfInBounds_toArray, List.set_cons_zero, List.set_cons_succ]
          refine tk 3 { dst := some 57, op := Go.Op.move (Go.Operand.tmp 0), type := 37, pos := "payload.go:49", after := #[], guard := none } ?_ ?_ ?_
          rotate_left 1
          focus ((intro wS hSw; (try dsimp only at hSw); go_simp) <;> (try with_reducible rfl))
          simp only [Act.put, List.setIfInBounds_toArray, List.set_cons_zero, List.set_cons_succ]
          refine wpAnyH_ready (rs := [4]) (by kernel_rfl) (by simp) ?_
          refine AllReadyH.cons (o := { dst := some 58, op := Go.Op.call { callee := Go.Callee.value (Go.Operand.func 20), args := #[Go.Operand.tmp 57], argTypes := #[37] }, type := 2, pos := "payload.go:49", after := #[{ on := 3, ground := Go.Ground.data }], guard := none }) rfl (fun K hK => ?_) AllReadyH.nil
          go_simp
          refine (rdr_off w1.drew (R1.out.below (Below.refl _ _).drew)).mono ?_; rintro e w2 ⟨rfl, rfl⟩
          go_wp2_with fail
          refine hK.out _ _ (trivial) (fun hHeld => ?_)
          clear hK K
          (try simp only [Act.put, List.setIfInBounds_toArray, List.set_cons_zero, List.set_cons_succ])
          refine tk 5 { dst := some 4, op := Go.Op.assign (Go.Operand.tmp 56), type := 24, pos := "payload.go:49", after := #[{ on := 2, ground := Go.Ground.data }, { on := 4, ground := Go.Ground.chain }, { on := 0, ground := Go.Ground.phase }, { on := 1, ground := Go.Ground.phase }, { on := 2, ground := Go.Ground.phase }, { on := 3, ground := Go.Ground.textOnly Go.Departure.lateStores }, { on := 4, ground := Go.Ground.textOnly Go.Departure.lateStoresUnsure }], guard := none } ?_ ?_ ?_
          rotate_left 1
          focus ((intro wS hSw; (try dsimp only at hSw); go_simp) <;> (try with_reducible rfl))
          simp only [Act.put, List.setIfInBounds_toArray, List.set_cons_zero, List.set_cons_succ]
          refine tk 6 { dst := some 5, op := Go.Op.assign (Go.Operand.tmp 58), type := 2, pos := "payload.go:49", after := #[{ on := 4, ground := Go.Ground.data }, { on := 5, ground := Go.Ground.chain }, { on := 0, ground := Go.Ground.phase }, { on := 1, ground := Go.Ground.phase }, { on := 2, ground := Go.Ground.phase }, { on := 3, ground := Go.Ground.phase }, { on := 4, ground := Go.Ground.phase }, { on := 5, ground := Go.Ground.phase }], guard := none } ?_ ?_ ?_
          rotate_left 1
          focus ((intro wS hSw; (try dsimp only at hSw); go_simp) <;> (try with_reducible rfl))
          simp only [Act.put, List.setIfInBounds_toArray, List.set_cons_zero, List.set_cons_succ]
          refine tk 7 { dst := some 6, op := Go.Op.assign (Go.Operand.const (Go.Value.int Go.IntKind.i64 0)), type := 27, pos := "payload.go:49", after := #[{ on := 6, ground := Go.Ground.chain }, { on := 0, ground := Go.Ground.phase }, { on := 1, ground := Go.Ground.phase }, { on := 2, ground := Go.Ground.phase }, { on := 3, ground := Go.Ground.phase }, { on := 4, ground := Go.Ground.phase }, { on := 5, ground := Go.Ground.phase }, { on := 6, ground := Go.Ground.phase }], guard := none } ?_ ?_ ?_
          rotate_left 1
          focus ((intro wS hSw; (try dsimp only at hSw); go_simp) <;> (try with_reducible rfl))
          simp only [Act.put, List.setIfInBounds_toArray, List.set_cons_zero, List.set_cons_succ]
          refine wpAnyH_done (by kernel_rfl) ?_ _
          go_wp2_with fail
          go_ret3
          rw [P1.out, P2.out, P3.out, P4.out, P5.out, List.take_zero]
          exact ⟨⟨none, 0, rfl, Nat.le_refl _, .inl rfl, fun x hx => by cases hx⟩, R1.out.below (Below.refl _ _).drew, U1.out.drew⟩
        · simp only [Value.slice.injEq, true_and] at hv1
          obtain ⟨rfl, rfl⟩ := hv1
          have I1 := Lib.hid i1; have HC := Lib.hid hc1
          have hDs : (s : Int) ≤ D := by omega
          have hsc : (s : Int) ≤ c := by omega
          clear o1 i1
          have ID := Lib.hid (I1.out.dropped s (by rw [XLN.out]; exact HC.out))
          have EX : (X.drop s).length = D - s := by rw [List.length_drop, XLN.out]
          have EK : (if nzI (X.drop s) < D - s then (nzI (X.drop s) : Int) else -1) = -1 := by rw [← HPD.out, if_neg HI.out]
          by_cases hcs : c = s
          · rw [if_pos hcs] at ID
            go_wp2_with fail
            refine (ixf_any _ _ _ (X.drop s) w1 ID.out EX (by omega)).mono ?_; rintro e w2 ⟨rfl, rfl⟩
            rw [EK]
            clear EX EK
            go_wp2_with fail
            refine wp_region_held_drew (S := (fun _ => True)) (by kernel_rfl) (trivial) (fun hHeld => ?_)
            refine tk 0 { dst := some 54, op := Go.Op.move (Go.Operand.tmp 7), type := 24, pos := "payload.go:49", after := #[], guard := none } ?_ ?_ ?_
            rotate_left 1
            focus ((intro wS hSw; (try dsimp only at hSw); go_simp) <;> (try with_reducible rfl))
            simp only [Act.put, List.setIfInBounds_toArray, List.set_cons_zero, List.set_cons_succ]
            refine tk 1 { dst := some 55, op := Go.Op.move (Go.Operand.tmp 1), type := 2, pos := "payload.go:49", after := #[], guard := none } ?_ ?_ ?_
            rotate_left 1
            focus ((intro wS hSw; (try dsimp only at hSw); go_simp) <;> (try with_reducible rfl))
            simp only [Act.put, List.setIfInBounds_toArray, List.set_cons_zero, List.set_cons_succ]
            refine tk 2 { dst := some 56, op := Go.Op.slice 24 (Go.Operand.tmp 54) none (some (Go.Operand.tmp 55)) none, type := 24, pos := "payload.go:49", after := #[{ on := 0, ground := Go.Ground.data }, { on := 1, ground := Go.Ground.data }], guard := none } ?_ ?_ ?_
            rotate_left 1
            focus ((intro wS hSw; (try dsimp only at hSw); go_simp) <;> (try with_reducible rfl))
            simp only [Act.put, List.setIfInBounds_toArray, List.set_cons_zero, List.set_cons_succ]
            refine tk 3 { dst := some 57, op := Go.Op.move (Go.Operand.tmp 0), type := 37, pos := "payload.go:49", after := #[], guard := none } ?_ ?_ ?_
            rotate_left 1
            focus ((intro wS hSw; (try dsimp only at hSw); go_simp) <;> (try with_reducible rfl))
            simp only [Act.put, List.setIfInBounds_toArray, List.set_cons_zero, List.set_cons_succ]
            refine wpAnyH_ready (rs := [4]) (by kernel_rfl) (by simp) ?_
            refine AllReadyH.cons (o := { dst := some 58, op := Go.Op.call { callee := Go.Callee.value (Go.Operand.func 20), args := #[Go.Operand.tmp 57], argTypes := #[37] }, type := 2, pos := "payload.go:49", after := #[{ on := 3, ground := Go.Ground.data }], guard := none }) rfl (fun K hK => ?_) AllReadyH.nil
            go_simp
            refine (rdr_off w1.drew (R1.out.below (Below.refl _ _).drew)).mono ?_; rintro e w2 ⟨rfl, rfl⟩
            go_wp2_with fail
            refine hK.out _ _ (trivial) (fun hHeld => ?_)
            clear hK K
            (try simp only [Act.put, List.setIfInBounds_toArray, List.set_cons_zero, List.set_cons_succ])
            refine tk 5 { dst := some 4, op := Go.Op.assign (Go.Operand.tmp 56), type := 24, pos := "payload.go:49", after := #[{ on := 2, ground := Go.Ground.data }, { on := 4, ground := Go.Ground.chain }, { on := 0, ground := Go.Ground.phase }, { on := 1, ground := Go.Ground.phase }, { on := 2, ground := Go.Ground.phase }, { on := 3, ground := Go.Ground.textOnly Go.Departure.lateStores }, { on := 4, ground := Go.Ground.textOnly Go.Departure.lateStoresUnsure }], guard := none } ?_ ?_ ?_
            rotate_left 1
            focus ((intro wS hSw; (try dsimp only at hSw); go_simp) <;> (try with_reducible rfl))
            simp only [Act.put, List.setIfInBounds_toArray, List.set_cons_zero, List.set_cons_succ]
            refine tk 6 { dst := some 5, op := Go.Op.assign (Go.Operand.tmp 58), type := 2, pos := "payload.go:49", after := #[{ on := 4, ground := Go.Ground.data }, { on := 5, ground := Go.Ground.chain }, { on := 0, ground := Go.Ground.phase }, { on := 1, ground := Go.Ground.phase }, { on := 2, ground := Go.Ground.phase }, { on := 3, ground := Go.Ground.phase }, { on := 4, ground := Go.Ground.phase }, { on := 5, ground := Go.Ground.phase }], guard := none } ?_ ?_ ?_
            rotate_left 1
            focus ((intro wS hSw; (try dsimp only at hSw); go_simp) <;> (try with_reducible rfl))
            simp only [Act.put, List.setIfInBounds_toArray, List.set_cons_zero, List.set_cons_succ]
            refine tk 7 { dst := some 6, op := Go.Op.assign (Go.Operand.const (Go.Value.int Go.IntKind.i64 0)), type := 27, pos := "payload.go:49", after := #[{ on := 6, ground := Go.Ground.chain }, { on := 0, ground := Go.Ground.phase }, { on := 1, ground := Go.Ground.phase }, { on := 2, ground := Go.Ground.phase }, { on := 3, ground := Go.Ground.phase }, { on := 4, ground := Go.Ground.phase }, { on := 5, ground := Go.Ground.phase }, { on := 6, ground := Go.Ground.phase }], guard := none } ?_ ?_ ?_
            rotate_left 1
            focus ((intro wS hSw; (try dsimp only at hSw); go_simp) <;> (try with_reducible rfl))
            simp only [Act.put, List.setIfInBounds_toArray, List.set_cons_zero, List.set_cons_succ]
            refine wpAnyH_done (by kernel_rfl) ?_ _
            go_wp2_with fail
            go_ret3
            rw [P1.out, P2.out, P3.out, P4.out, P5.out]
            exact ⟨⟨some ⟨g, 0, none⟩, c, by rw [XL.out]; first | rfl | (simp; done) | (simp; omega), by rw [XL.out]; omega, (I1.out.below (Below.refl _ _).drew).taken s, fun x hx => (HX1.out x hx).1⟩, R1.out.below (Below.refl _ _).drew, U1.out.drew⟩
          · rw [if_neg hcs] at ID
            go_wp2_with fail
            refine (ixf_any _ _ _ (X.drop s) w1 ID.out EX (by omega)).mono ?_; rintro e w2 ⟨rfl, rfl⟩
            rw [EK]
            clear EX EK
            go_wp2_with fail
            refine wp_region_held_drew (S := (fun _ => True)) (by kernel_rfl) (trivial) (fun hHeld => ?_)
            refine tk 0 { dst := some 54, op := Go.Op.move (Go.Operand.tmp 7), type := 24, pos := "payload.go:49", after := #[], guard := none } ?_ ?_ ?_
            rotate_left 1
            focus ((intro wS hSw; (try dsimp only at hSw); go_simp) <;> (try with_reducible rfl))
            simp only [Act.put, List.setIfInBounds_toArray, List.set_cons_zero, List.set_cons_succ]
            refine tk 1 { dst := some 55, op := Go.Op.move (Go.Operand.tmp 1), type := 2, pos := "payload.go:49", after := #[], guard := none } ?_ ?_ ?_
            rotate_left 1
            focus ((intro wS hSw; (try dsimp only at hSw); go_simp) <;> (try with_reducible rfl))
            simp only [Act.put, List.setIfInBounds_toArray, List.set_cons_zero, List.set_cons_succ]
            refine tk 2 { dst := some 56, op := Go.Op.slice 24 (Go.Operand.tmp 54) none (some (Go.Operand.tmp 55)) none, type := 24, pos := "payload.go:49", after := #[{ on := 0, ground := Go.Ground.data }, { on := 1, ground := Go.Ground.data }], guard := none } ?_ ?_ ?_
            rotate_left 1
            focus ((intro wS hSw; (try dsimp only at hSw); go_simp) <;> (try with_reducible rfl))
            simp only [Act.put, List.setIfInBounds_toArray, List.set_cons_zero, List.set_cons_succ]
            refine tk 3 { dst := some 57, op := Go.Op.move (Go.Operand.tmp 0), type := 37, pos := "payload.go:49", after := #[], guard := none } ?_ ?_ ?_
            rotate_left 1
            focus ((intro wS hSw; (try dsimp only at hSw); go_simp) <;> (try with_reducible rfl))
            simp only [Act.put, List.setIfInBounds_toArray, List.set_cons_zero, List.set_cons_succ]
            refine wpAnyH_ready (rs := [4]) (by kernel_rfl) (by simp) ?_
            refine AllReadyH.cons (o := { dst := some 58, op := Go.Op.call { callee := Go.Callee.value (Go.Operand.func 20), args := #[Go.Operand.tmp 57], argTypes := #[37] }, type := 2, pos := "payload.go:49", after := #[{ on := 3, ground := Go.Ground.data }], guard := none }) rfl (fun K hK => ?_) AllReadyH.nil
            go_simp
            refine (rdr_off w1.drew (R1.out.below (Below.refl _ _).drew)).mono ?_; rintro e w2 ⟨rfl, rfl⟩
            go_wp2_with fail
            refine hK.out _ _ (trivial) (fun hHeld => ?_)
            clear hK K
            (try simp only [Act.put, List.setIfInBounds_toArray, List.set_cons_zero, List.set_cons_succ])
            refine tk 5 { dst := some 4, op := Go.Op.assign (Go.Operand.tmp 56), type := 24, pos := "payload.go:49", after := #[{ on := 2, ground := Go.Ground.data }, { on := 4, ground := Go.Ground.chain }, { on := 0, ground := Go.Ground.phase }, { on := 1, ground := Go.Ground.phase }, { on := 2, ground := Go.Ground.phase }, { on := 3, ground := Go.Ground.textOnly Go.Departure.lateStores }, { on := 4, ground := Go.Ground.textOnly Go.Departure.lateStoresUnsure }], guard := none } ?_ ?_ ?_
            rotate_left 1
            focus ((intro wS hSw; (try dsimp only at hSw); go_simp) <;> (try with_reducible rfl))
            simp only [Act.put, List.setIfInBounds_toArray, List.set_cons_zero, List.set_cons_succ]
            refine tk 6 { dst := some 5, op := Go.Op.assign (Go.Operand.tmp 58), type := 2, pos := "payload.go:49", after := #[{ on := 4, ground := Go.Ground.data }, { on := 5, ground := Go.Ground.chain }, { on := 0, ground := Go.Ground.phase }, { on := 1, ground := Go.Ground.phase }, { on := 2, ground := Go.Ground.phase }, { on := 3, ground := Go.Ground.phase }, { on := 4, ground := Go.Ground.phase }, { on := 5, ground := Go.Ground.phase }], guard := none } ?_ ?_ ?_
            rotate_left 1
            focus ((intro wS hSw; (try dsimp only at hSw); go_simp) <;> (try with_reducible rfl))
            simp only [Act.put, List.setIfInBounds_toArray, List.set_cons_zero, List.set_cons_succ]
            refine tk 7 { dst := some 6, op := Go.Op.assign (Go.Operand.const (Go.Value.int Go.IntKind.i64 0)), type := 27, pos := "payload.go:49", after := #[{ on := 6, ground := Go.Ground.chain }, { on := 0, ground := Go.Ground.phase }, { on := 1, ground := Go.Ground.phase }, { on := 2, ground := Go.Ground.phase }, { on := 3, ground := Go.Ground.phase }, { on := 4, ground := Go.Ground.phase }, { on := 5, ground := Go.Ground.phase }, { on := 6, ground := Go.Ground.phase }], guard := none } ?_ ?_ ?_
            rotate_left 1
            focus ((intro wS hSw; (try dsimp only at hSw); go_simp) <;> (try with_reducible rfl))
            simp only [Act.put, List.setIfInBounds_toArray, List.set_cons_zero, List.set_cons_succ]
            refine wpAnyH_done (by kernel_rfl) ?_ _
            go_wp2_with fail
            go_ret3
            rw [P1.out, P2.out, P3.out, P4.out, P5.out]
            exact ⟨⟨some ⟨g, 0, none⟩, c, by rw [XL.out]; first | rfl | (simp; done) | (simp; omega), by rw [XL.out]; omega, (I1.out.below (Below.refl _ _).drew).taken s, fun x hx => (HX1.out x hx).1⟩, R1.out.below (Below.refl _ _).drew, U1.out.drew⟩
    · obtain ⟨e1, e2, e3, e4, e5⟩ := rd_no (E := E) hs hn.out hok
      have hne := pyE_ne (E := E) hE hok
      obtain ⟨V, hV⟩ := named (pyE Z E o err n)
      rw [← hV.out] at e1 hne
      have P1 := Lib.hid e1; have P2 := Lib.hid e2; have P3 := Lib.hid e3; have P4 := Lib.hid e4; have P5 := Lib.hid e5
      have hne0 : (V == 0) = false := by simp [hne]
      obtain ⟨O, hO⟩ := named (pyO Z o err n)
      rw [← hO.out] at e2 e4
      have P2 := Lib.hid e2; have P4 := Lib.hid e4
      clear e1 e2 e3 e4 e5 hok hb h hE
      by_cases h4 : V = 4
      · have h4' : (V == 4) = true := by simp [h4]
        have P1' : Hid (rdE Z E o err s = 5) := by show _ = _; rw [P1.out, if_pos h4]
        clear h4 hne
        go_enter Tryz.func128, Tryz.ntmps128
        go_wp2_with fail
        refine (blocks_any (s : Int) (by omega) w).mono ?_; rintro e w0 ⟨rfl, rfl⟩
        rw [en]
        go_wp2_with fail
        refine (rblk_any n w H.out HE.out (by have := hn.out; omega)).mono ?_; rintro e w1 ⟨v, rfl, o1, r1, u1⟩
        rw [← hO.out] at r1
        rw [← hV.out]
        have R1 := Lib.hid r1; have U1 := Lib.hid u1
        clear o1 r1 u1
        go_wp2_with fail
        refine (rdr_off w1 R1.out).mono ?_; rintro e w2 ⟨rfl, rfl⟩
        go_wp2_with fail
        go_ret3
        rw [P1'.out, P2.out, P3.out, P4.out, P5.out]
        exact ⟨⟨none, 0, rfl, Nat.le_refl _, .inl rfl, fun x hx => by cases hx⟩, R1.out, U1.out⟩
      · have h4' : (V == 4) = false := by simp [h4]
        have P1' : Hid (rdE Z E o err s = V) := by show _ = _; rw [P1.out, if_neg h4]
        clear h4 hne
        go_enter Tryz.func128, Tryz.ntmps128
        go_wp2_with fail
        refine (blocks_any (s : Int) (by omega) w).mono ?_; rintro e w0 ⟨rfl, rfl⟩
        rw [en]
        go_wp2_with fail
        refine (rblk_any n w H.out HE.out (by have := hn.out; omega)).mono ?_; rintro e w1 ⟨v, rfl, o1, r1, u1⟩
        rw [← hO.out] at r1
        rw [← hV.out]
        have R1 := Lib.hid r1; have U1 := Lib.hid u1
        clear o1 r1 u1
        go_wp2_with fail
        refine (rdr_off w1 R1.out).mono ?_; rintro e w2 ⟨rfl, rfl⟩
        go_wp2_with fail
        go_ret3
        rw [P1'.out, P2.out, P3.out, P4.out, P5.out]
        exact ⟨⟨none, 0, rfl, Nat.le_refl _, .inl rfl, fun x hx => by cases hx⟩, R1.out, U1.out⟩
end Go.Proofs.YtbbaleambgaanaaGreatDoor
