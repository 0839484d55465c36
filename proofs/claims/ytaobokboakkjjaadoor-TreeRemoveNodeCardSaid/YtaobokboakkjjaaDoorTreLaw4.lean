/-
  The statement TreeRemoveNode: a walk.
-/
import Derived.Test.YtaobokboakkjjaaDoorPk12
import Derived.Test.YtaobokboakkjjaaDoorPk13
import Derived.Test.YtaobokboakkjjaaDoorPk06
import Derived.Deep.CutRange
namespace Go.Proofs.YtaobokboakkjjaaDoor
open Go.RowKit Go.Proofs.YtaobokboakkjjaaDoor.Fit Pnm Tre

theorem Tre.und_str {p q PX : ByteArray} (h : PX = p ++ ⟨#[47]⟩) : Und (numsOf p) (numsOf q) ↔ PX.size < q.size ∧ q.extract 0 PX.size = PX := by
  have hn : numsOf PX = numsOf p ++ [47] := by rw [h, nums_cat]; rfl
  have hs : PX.size = (numsOf p).length + 1 := by rw [← numsOf_length, hn, List.length_append]; rfl
  have he : numsOf (q.extract 0 PX.size) = (numsOf q).take PX.size := by rw [nums_ext]; simp
  constructor
  · rintro ⟨r, hr, e⟩
    have hl : (numsOf q).length = (numsOf p).length + 1 + r.length := by rw [e]; simp; omega
    have hp : 0 < r.length := List.length_pos_iff.mpr hr
    refine ⟨by rw [hs, ← numsOf_length q]; omega, ?_⟩
    rw [← strOfNums_numsOf (q.extract 0 PX.size), he, e, hs, ← strOfNums_numsOf PX, hn]
    congr 1
    rw [List.take_append, List.take_of_length_le (by omega)]
    congr 1
    rw [show (numsOf p).length + 1 - (numsOf p).length = 1 by omega]
    rfl
  · rintro ⟨h1, h2⟩
    rw [h2] at he
    rw [hn] at he
    have hq : (numsOf q) = (numsOf q).take PX.size ++ (numsOf q).drop PX.size := (List.take_append_drop _ _).symm
    rw [← he] at hq
    rw [List.append_assoc] at hq
    refine ⟨(numsOf q).drop PX.size, fun e => ?_, hq⟩
    have := congrArg List.length e
    rw [List.length_drop, numsOf_length] at this
    simp at this
    omega

set_option maxRecDepth 100000 in
set_option maxHeartbeats 16000000 in
theorem walk_TreeRemoveNode (a : Option Addr) (n cap : Nat) (ys : List NdS) (at_ : Int) (w : World) (V : Pxr.Vars w) (ha : ArgNds w a n cap ys) (hat : (Lit.int .u8 at_).wf = true) :
    Calls Tryd.prog 6 #[.slice a n cap, .int .u8 at_] w fun e w' => e = .returned (.bool true) ∧ Below w.heap.size w w' := by
  have HV := Lib.hid (FVars.mk V)
  have HA := Lib.hid ha
  have NZ := Lib.hid zNd
  have NO := Lib.hid ndT
  have I6 := Lib.hid IN6
  obtain ⟨i0, HI0⟩ := info_of (P := Tryd.prog) (e := 32) (z := .agg (ndL 0 emp 0 emp none 0 0 0).toArray) (s := 6) (b := 80) (by kernel_rfl)
  have HN : Hid (ys.length = n) := ha.n
  have hcap := ha.c; have hcm := ha.m
  unfold maxLen at hcm
  obtain ⟨u0, u1⟩ := bounds_u8 hat
  clear V ha hat
  go_enter Tryd.func6, Tryd.ntmps6
  go_wp2_with fail
  refine (large_any a n cap ys w HA.out).mono ?_; rintro e w1 ⟨R, rfl, hR, b1⟩
  have B1 := Lib.hid b1
  clear b1
  rcases hR with rfl | ⟨rfl, h40, hsz⟩
  · go_wp2_with fail
    refine (Tre.alive_any w1 (HV.out.go B1.out)).mono ?_; rintro e w2 ⟨rfl, b2⟩
    have B2 := Lib.hid (belT B1.out b2)
    go_wp2
    go_ret
    exact ⟨rfl, B2.out⟩
  by_cases h0 : n = 0
  · subst h0
    go_wp2_with fail
    refine (Tre.alive_any w1 (HV.out.go B1.out)).mono ?_; rintro e w2 ⟨rfl, b2⟩
    have B2 := Lib.hid (belT B1.out b2)
    go_wp2
    go_ret
    exact ⟨rfl, B2.out⟩
  have n0 : ((n : Int) == 0) = false := by simpa using h0
  have N40 := Lib.hid h40; have HSZ := Lib.hid hsz
  have N0 : Hid (0 < n) := Nat.pos_of_ne_zero h0
  have n40 : (n : Int) ≤ 40 := by omega
  clear h40 hsz h0
  obtain ⟨X1, hX1⟩ := named (chk (nds ys)).1
  obtain ⟨X2, hX2⟩ := named (chk (nds ys)).2
  have PC : Hid (∀ w', Below w.heap.size w w' → Calls Tryd.prog 12 #[.slice a n cap] w' fun e w'' => e = .returned (.tuple #[.int .i64 X1, .int .i64 X2]) ∧ Below w'.heap.size w' w'') := fun w' hb => by
    rw [hX1.out, hX2.out]; exact pchk_any a n cap ys w' (HV.out.go hb) (HA.out.below hb)
  go_wp2_with fail
  refine (PC.out w1 B1.out).mono ?_; rintro e wz ⟨rfl, b2⟩
  have B2 := Lib.hid (belT B1.out b2)
  clear b2 PC
  by_cases hx : ¬ X2 = 0
  · have nx : (X2 != 0) = true := by simpa using hx
    go_wp2_with fail
    refine (Tre.alive_any wz (HV.out.go B2.out)).mono ?_; rintro e w3 ⟨rfl, b3⟩
    have B3 := Lib.hid (belT B2.out b3)
    go_wp2
    go_ret
    exact ⟨rfl, B3.out⟩
  obtain rfl : X2 = 0 := Decidable.not_not.mp hx
  clear hx
  have VAL : Hid (Val (nds ys)) := chk_ok.mp hX2.out.symm
  clear hX1 hX2
  obtain ⟨I, hI⟩ : ∃ I : Nat, Int.tmod at_ n = (I : Int) := ⟨(Int.tmod at_ n).toNat, by rw [Int.toNat_of_nonneg (Int.tmod_nonneg _ u0)]⟩
  have ILT : Hid (I < n) := by
    show _ < _
    have := Int.tmod_lt_of_pos at_ (show (0 : Int) < n by have := N0.out; omega)
    omega
  have wat : wrap64 at_ = at_ := by unfold wrap64; omega
  have nz : ¬ (n : Int) = 0 := by have := N0.out; omega
  have In : (I : Int) < n := by have := ILT.out; omega
  have In2 : (I : Int) + 1 ≤ n := by have := ILT.out; omega
  have In3 : (I : Int) ≤ n := by have := ILT.out; omega
  have Ic : (I : Int) ≤ cap := by have := ILT.out; omega
  have ncap : (n : Int) ≤ cap := by omega
  have capm : (cap : Int) ≤ 9223372036854775807 := by omega
  obtain ⟨b, off, y, hab, hb, hy, hfy, hat⟩ := HA.out.get I ILT.out
  subst hab
  have AT := Lib.hid hat; have HB := Lib.hid hb; have HY := Lib.hid hy; have FY := Lib.hid hfy
  have EY : Hid (nd (nds ys) I = y.n) := nd_y hy
  have YSZ : Hid (y.n.p.size ≤ 70000) := (HSZ.out y (List.mem_of_getElem? hy)).1
  have INZ : Hid (NdsIn wz (some ⟨b, off, none⟩) ys) := (HA.out.below B2.out).r
  have LT1 : Hid ((ys.take I).length = I) := by show _ = _; rw [List.length_take, HN.out]; have := ILT.out; omega
  obtain ⟨J, hJ⟩ := named (I + 1)
  have wI : IntKind.i64.wrap ((I : Int) + 1) = (J : Int) := by rw [wrapP (by omega) (by omega)]; have := hJ.out; omega
  have Jn : (J : Int) ≤ n := by have := hJ.out; omega
  obtain ⟨AD, hAD⟩ : ∃ AD : Option Addr, (if cap = J then some (⟨b, off, none⟩ : Addr) else some ⟨b, off + J * 6, none⟩) = AD := ⟨_, rfl⟩
  have LD1 : Hid ((ys.drop J).length = n - J) := by show _ = _; rw [List.length_drop, HN.out]
  have IND : Hid (∀ q, Below wz.heap.size wz q → NdsIn q AD (ys.drop J)) := fun q hq => by
    rw [← hAD]
    by_cases c : cap = J
    · rw [if_pos c]
      have : ys.drop J = [] := List.drop_eq_nil_of_le (by rw [HN.out]; omega)
      exact .inl this
    · rw [if_neg c]
      exact (INZ.out.below hq).drop J
  clear hat hb hy hfy
  obtain ⟨m, hm⟩ := named (ys.take I ++ ys.drop J)
  have ML : Hid (m.length = n - 1) := by show _ = _; rw [hm.out, List.length_append, LT1.out, LD1.out]; have := ILT.out; have := hJ.out; omega
  have MEM : Hid (∀ z ∈ m, z ∈ ys) := fun z hz => by
    rw [hm.out] at hz
    rcases List.mem_append.mp hz with h | h
    · exact List.mem_of_mem_take h
    · exact List.mem_of_mem_drop h
  have PERM : Hid ((nds ys).Perm (y.n :: nds m)) := by
    have e : ys = ys.take I ++ y :: ys.drop J := by
      obtain ⟨hi, rfl⟩ := List.getElem?_eq_some_iff.mp HY.out
      rw [hJ.out, List.getElem_cons_drop, List.take_append_drop]
    show List.Perm _ _
    conv => lhs; rw [e]
    have h2 : nds (ys.take I ++ y :: ys.drop J) = nds (ys.take I) ++ y.n :: nds (ys.drop J) := by unfold nds; rw [List.map_append, List.map_cons]
    rw [h2, hm.out]
    have h3 : nds (ys.take I ++ ys.drop J) = nds (ys.take I) ++ nds (ys.drop J) := by unfold nds; rw [List.map_append]
    rw [h3]
    exact List.perm_middle
  have VM : Hid (Val (y.n :: nds m)) := VAL.out.perm PERM.out
  have TWICE : Hid (chk (nds (ys ++ [y])) = ((n : Int), 14)) := by
    show _ = _
    have e : nds (ys ++ [y]) = nds ys ++ [y.n] := by unfold nds; rw [List.map_append]; rfl
    rw [e, add_twice VAL.out (List.mem_map.mpr ⟨y, List.mem_of_getElem? HY.out, rfl⟩), nds_len, HN.out]
  go_wp2_with fail
  refine wp_region_held_drew (S := (fun _ : World => True)) (by kernel_rfl) (trivial) (fun hHeld => ?_)
  refine wpAnyH_take (i := 1) (oi := { dst := some 41, op := Go.Op.move (Go.Operand.tmp 0), type := 22, pos := "law.go:114", after := #[], guard := none }) (v := ?_) rfl (by kernel_rfl) (by kernel_rfl) (by kernel_rfl) (fun _ _ _ h => h) (Or.inl ⟨by rfl, ?_⟩) (by assumption) ?_
  rotate_left 1
  focus ((intro wS hSw; (try dsimp only at hSw); go_simp) <;> (try with_reducible rfl))
  simp only [Act.put, List.setIfInBounds_toArray, List.set_cons_zero, List.set_cons_succ]
  refine wpAnyH_take (i := 2) (oi := { dst := some 42, op := Go.Op.move (Go.Operand.tmp 7), type := 3, pos := "law.go:114", after := #[], guard := none }) (v := ?_) rfl (by kernel_rfl) (by kernel_rfl) (by kernel_rfl) (fun _ _ _ h => h) (Or.inl ⟨by rfl, ?_⟩) (by assumption) ?_
  rotate_left 1
  focus ((intro wS hSw; (try dsimp only at hSw); go_simp) <;> (try with_reducible rfl))
  simp only [Act.put, List.setIfInBounds_toArray, List.set_cons_zero, List.set_cons_succ]
  refine wpAnyH_take (i := 3) (oi := { dst := some 43, op := Go.Op.slice 22 (Go.Operand.tmp 41) none (some (Go.Operand.tmp 42)) none, type := 22, pos := "law.go:114", after := #[{ on := 1, ground := Go.Ground.data }, { on := 2, ground := Go.Ground.data }], guard := none }) (v := ?_) rfl (by kernel_rfl) (by kernel_rfl) (by kernel_rfl) (fun _ _ _ h => h) (Or.inl ⟨by rfl, ?_⟩) (by assumption) ?_
  rotate_left 1
  focus ((intro wS hSw; (try dsimp only at hSw); go_simp) <;> (try with_reducible rfl))
  simp only [Act.put, List.setIfInBounds_toArray, List.set_cons_zero, List.set_cons_succ]
  refine wpAnyH_take (i := 5) (oi := { dst := some 45, op := Go.Op.move (Go.Operand.tmp 0), type := 22, pos := "law.go:114", after := #[], guard := none }) (v := ?_) rfl (by kernel_rfl) (by kernel_rfl) (by kernel_rfl) (fun _ _ _ h => h) (Or.inl ⟨by rfl, ?_⟩) (by assumption) ?_
  rotate_left 1
  focus ((intro wS hSw; (try dsimp only at hSw); go_simp) <;> (try with_reducible rfl))
  simp only [Act.put, List.setIfInBounds_toArray, List.set_cons_zero, List.set_cons_succ]
  refine wpAnyH_take (i := 6) (oi := { dst := some 46, op := Go.Op.move (Go.Operand.tmp 7), type := 3, pos := "law.go:114", after := #[], guard := none }) (v := ?_) rfl (by kernel_rfl) (by kernel_rfl) (by kernel_rfl) (fun _ _ _ h => h) (Or.inl ⟨by rfl, ?_⟩) (by assumption) ?_
  rotate_left 1
  focus ((intro wS hSw; (try dsimp only at hSw); go_simp) <;> (try with_reducible rfl))
  simp only [Act.put, List.setIfInBounds_toArray, List.set_cons_zero, List.set_cons_succ]
  refine wpAnyH_take (i := 7) (oi := { dst := some 47, op := Go.Op.binOp Go.BinOp.add 3 (Go.Operand.tmp 46) (Go.Operand.const (Go.Value.int Go.IntKind.i64 1)) 3, type := 3, pos := "law.go:114", after := #[{ on := 6, ground := Go.Ground.data }], guard := none }) (v := ?_) rfl (by kernel_rfl) (by kernel_rfl) (by kernel_rfl) (fun _ _ _ h => h) (Or.inl ⟨by rfl, ?_⟩) (by assumption) ?_
  rotate_left 1
  focus ((intro wS hSw; (try dsimp only at hSw); go_simp) <;> (try with_reducible rfl))
  simp only [Act.put, List.setIfInBounds_toArray, List.set_cons_zero, List.set_cons_succ]
  refine wpAnyH_take (i := 8) (oi := { dst := some 48, op := Go.Op.slice 22 (Go.Operand.tmp 45) (some (Go.Operand.tmp 47)) none none, type := 22, pos := "law.go:114", after := #[{ on := 5, ground := Go.Ground.data }, { on := 7, ground := Go.Ground.data }], guard := none }) (v := ?_) rfl (by kernel_rfl) (by kernel_rfl) (by kernel_rfl) (fun _ _ _ h => h) (Or.inl ⟨by rfl, ?_⟩) (by assumption) ?_
  rotate_left 1
  focus ((intro wS hSw; (try dsimp only at hSw); go_simp) <;> (try with_reducible rfl))
  simp only [Act.put, List.setIfInBounds_toArray, List.set_cons_zero, List.set_cons_succ]
  refine wpAnyH_ready (rs := [0]) (by kernel_rfl) (by simp) ?_
  refine AllReadyH.cons (o := { dst := some 40, op := Go.Op.buildSlice 22 0 #[], type := 22, pos := "law.go:114", after := #[], guard := none }) rfl (fun K hK => ?_) AllReadyH.nil
  refine step_lit_nd0 rfl 22 32 rfl Tryd.underlying22 _ I6.out ?_
  intro z1 o1 b1
  have O1 : Hid (z1.ownsRow wz.heap.size 32 6 (.slice (some ⟨wz.heap.size, 0, none⟩) 0 0) 0 (ndCells [])) := o1
  have D1 : Hid (Below wz.heap.size wz z1) := (Below.refl _ _).drew.trans b1
  clear o1 b1
  refine hK.out _ _ (trivial) (fun hHeld => ?_)
  clear hK K
  (try simp only [Act.put, List.setIfInBounds_toArray, List.set_cons_zero, List.set_cons_succ])
  refine wpAnyH_ready (rs := [4]) (by kernel_rfl) (by simp) ?_
  refine AllReadyH.cons (o := { dst := some 44, op := Go.Op.call { callee := Go.Callee.builtin Go.Builtin.append, args := #[Go.Operand.tmp 40, Go.Operand.tmp 43], argTypes := #[22, 22] }, type := 22, pos := "law.go:114", after := #[{ on := 0, ground := Go.Ground.data }, { on := 3, ground := Go.Ground.data }], guard := none }) rfl (fun K hK => ?_) AllReadyH.nil
  refine step_append_nds rfl (.tmp 40) (.tmp 43) 22 rfl wz.heap.size 32 i0 _ Tryd.underlying22 HI0 rfl (.slice (some ⟨wz.heap.size, 0, none⟩) 0 0) 0 [] rfl O1.out (some ⟨b, off, none⟩) I cap (ys.take I) rfl ((INZ.out.below D1.out).take I) LT1.out (by have := N40.out; have := ILT.out; omega) D1.out.size ?_
  intro v2 z2 o2 b2 _
  have O2 : Hid (z2.ownsRow wz.heap.size 32 6 v2 (0 + I) (ndCells ([] ++ ys.take I))) := o2
  have D2 : Hid (Below wz.heap.size wz z2) := D1.out.trans b2
  clear o2 b2
  refine hK.out _ _ (trivial) (fun hHeld => ?_)
  clear hK K
  (try simp only [Act.put, List.setIfInBounds_toArray, List.set_cons_zero, List.set_cons_succ])
  refine wpAnyH_ready (rs := [9]) (by kernel_rfl) (by simp) ?_
  refine AllReadyH.cons (o := { dst := some 49, op := Go.Op.call { callee := Go.Callee.builtin Go.Builtin.append, args := #[Go.Operand.tmp 44, Go.Operand.tmp 48], argTypes := #[22, 22] }, type := 22, pos := "law.go:114", after := #[{ on := 4, ground := Go.Ground.data }, { on := 8, ground := Go.Ground.data }, { on := 4, ground := Go.Ground.chain }], guard := none }) rfl (fun K hK => ?_) AllReadyH.nil
  refine step_append_nds rfl (.tmp 44) (.tmp 48) 22 rfl wz.heap.size 32 i0 _ Tryd.underlying22 HI0 rfl v2 (0 + I) ([] ++ ys.take I) rfl O2.out AD (n - J) (cap - J) (ys.drop J) rfl (IND.out _ D2.out) LD1.out (by have := N40.out; have := ILT.out; omega) D2.out.size ?_
  intro v3 z3 o3 b3 _
  have O3 : Hid (z3.ownsRow wz.heap.size 32 6 v3 (0 + I + (n - J)) (ndCells (([] ++ ys.take I) ++ ys.drop J))) := o3
  have D3 : Hid (Below wz.heap.size wz z3) := D2.out.trans b3
  clear o3 b3
  refine hK.out _ _ (trivial) (fun hHeld => ?_)
  clear hK K
  (try simp only [Act.put, List.setIfInBounds_toArray, List.set_cons_zero, List.set_cons_succ])
  refine wpAnyH_take (i := 10) (oi := { dst := some 8, op := Go.Op.assign (Go.Operand.tmp 49), type := 22, pos := "law.go:114", after := #[{ on := 9, ground := Go.Ground.data }, { on := 9, ground := Go.Ground.chain }, { on := 0, ground := Go.Ground.phase }, { on := 1, ground := Go.Ground.phase }, { on := 2, ground := Go.Ground.phase }, { on := 3, ground := Go.Ground.phase }, { on := 4, ground := Go.Ground.phase }, { on := 5, ground := Go.Ground.phase }, { on := 6, ground := Go.Ground.phase }, { on := 7, ground := Go.Ground.phase }, { on := 8, ground := Go.Ground.phase }, { on := 9, ground := Go.Ground.phase }], guard := none }) (v := ?_) rfl (by kernel_rfl) (by kernel_rfl) (by kernel_rfl) (fun _ _ _ h => h) (Or.inl ⟨by rfl, ?_⟩) (by assumption) ?_
  rotate_left 1
  focus ((intro wS hSw; (try dsimp only at hSw); go_simp) <;> (try with_reducible rfl))
  simp only [Act.put, List.setIfInBounds_toArray, List.set_cons_zero, List.set_cons_succ]
  refine wpAnyH_done (by kernel_rfl) ?_ _
  go_wp2_with fail
  have O3' : Hid (z3.ownsRow wz.heap.size 32 6 v3 (n - 1) (ndCells m)) := by
    have := O3.out
    rw [List.nil_append, ← hm.out, show 0 + I + (n - J) = n - 1 by have := ILT.out; have := hJ.out; omega] at this
    exact this
  have B3 := Lib.hid (B2.out.trans (D3.out.mono B2.out.size))
  obtain ⟨ma, mc, hv3, hM⟩ := ArgNds.of_own O3'.out (fun z hz => (HA.out.s z (MEM.out z hz)).below B3.out)
  subst hv3
  have AM := Lib.hid hM
  clear hM O1 O2 O3 O3' D1 D2 hHeld
  obtain ⟨⟨xk, xp, xm, xt, xd, xc⟩, xa, xcap⟩ := y
  obtain ⟨XL, hXL⟩ := named xd.length
  obtain ⟨PX, hPX⟩ := named (xp ++ ⟨#[47]⟩)
  have PXS : Hid (PX.size = xp.size + 1) := by show _ = _; rw [hPX.out, ByteArray.size_append]; rfl
  have xps : (xp.size : Int) ≤ 70000 := by have : xp.size ≤ 70000 := YSZ.out; omega
  have pxs : (PX.size : Int) ≤ 70001 := by have := PXS.out; omega
  have UND : Hid (∀ q : ByteArray, Und (numsOf xp) (numsOf q) ↔ PX.size < q.size ∧ q.extract 0 PX.size = PX) := fun q => und_str hPX.out
  have hpx : xp ++ ⟨#[47]⟩ = PX := hPX.out.symm
  have NM : Hid (n - 1 ≤ 40) := by show _ ≤ _; have := N40.out; omega
  go_wp2_with fail
  go_loopw [9, 52] (fun f i wr => ∃ (B : Bool) (j : Nat), f = .bool B ∧ i = .int .i64 j ∧ j ≤ n - 1 ∧ (B = true ↔ ∃ k, k < j ∧ Und (numsOf xp) (numsOf (nd (nds m) k).p)) ∧ Below z3.heap.size z3 wr) (fun _ i _ => n - 1 - (intOf i).toNat)
  case atStart => exact ⟨false, 0, rfl, rfl, Nat.zero_le _, ⟨fun h => absurd h (by decide), fun ⟨k, h, _⟩ => absurd h (Nat.not_lt_zero k)⟩, Below.refl _ _⟩
  case round =>
    obtain ⟨B, j, rfl, rfl, hj, hB, hW⟩ := hrel
    have HBB := Lib.hid hB; have HW := Lib.hid hW
    have BW := Lib.hid (belT B3.out hW)
    clear hB hW
    by_cases hjn : j < n - 1
    · obtain ⟨b', off', z, rfl, hb', hz, hfz, hat'⟩ := AM.out.get j hjn
      obtain ⟨c0, c1, c2, c3, c4, c5⟩ := (hat'.below HW.out hb').c hz
      obtain ⟨d0, d1, d2, d3, d4, d5⟩ := (AT.out.below BW.out HB.out).c HY.out
      have EZ : Hid (nd (nds m) j = z.n) := nd_y hz
      have zps : (z.n.p.size : Int) ≤ 140737488355328 := by have := hfz.p; omega
      clear hfz hat' hb' hz d0 d2 d3 d4 d5
      obtain ⟨⟨k, q, mm, t, d, c⟩, x, xcc⟩ := z
      obtain ⟨L, hL⟩ := named d.length
      have c4' : wr.cell? ⟨b', off' + j * 6 + 4, none⟩ = some (.slice x L xcc) := by rw [hL.out]; exact c4
      clear c4
      have c4 := c4'
      clear c4' hL
      have j1 : (j : Int) < ((n - 1 : Nat) : Int) := by omega
      have d1' : wr.cell? ⟨b, off + I * 6 + 1, none⟩ = some (.string xp) := d1
      clear d1
      have STEP : Hid (∀ B' : Bool, (B' = true ↔ B = true ∨ Und (numsOf xp) (numsOf q)) → (B' = true ↔ ∃ k, k < j + 1 ∧ Und (numsOf xp) (numsOf (nd (nds m) k).p))) := fun B' hB' => by
        rw [hB', HBB.out]
        constructor
        · rintro (⟨k, k1, k2⟩ | h)
          · exact ⟨k, by omega, k2⟩
          · exact ⟨j, by omega, by rw [EZ.out]; exact h⟩
        · rintro ⟨k, k1, k2⟩
          by_cases e : k = j
          · subst e; rw [EZ.out] at k2; exact .inr k2
          · exact .inl ⟨k, by omega, k2⟩
      cases B with
      | true =>
        go_wp2_with (first | (refine wpList_alloc_obj rfl 32 rfl (ndL 0 emp 0 emp none 0 0 0) NZ.out ?_; intro w9 g9 b9; have G9 := Lib.hid g9; have C9 := Lib.hid (HW.out.trans (b9.mono HW.out.size)); have e1 := (AT.out.below (belT BW.out b9) HB.out).c HY.out; have d1 := e1.2.1; clear e1 g9 b9 c0 c1 c2 c3 c4 c5 d1') | (refine wpList_store_obj rfl 32 _ _ rfl wr.heap.size rfl (ndL k q mm t x L xcc c) (ndL 0 emp 0 emp none 0 0 0) rfl 32 G9.out NO.out.2 rfl (nd_one _ _ _ _ _ _ _ _) ?_; intro w10 g10 t10; have C10 := Lib.hid (C9.out.trans (t10.below HW.out.size)); have c1 := g10.get 1 rfl; clear d1; have e1 := (AT.out.below (belT B3.out C10.out) HB.out).c HY.out; have d1 : w10.cell? ⟨b, off + I * 6 + 1, none⟩ = some (.string xp) := e1.2.1; clear e1 g10 t10; go_wp2_with fail))
        go_round
        case rel => exact ⟨true, j + 1, rfl, by go_num, by omega, STEP.out true (⟨fun _ => .inl rfl, fun _ => rfl⟩), C10.out⟩
        case measure => simp [intOf]; omega
      | false =>
        by_cases hs : (PX.size : Int) < q.size
        · have hs2 : (PX.size : Int) ≤ q.size := by omega
          by_cases he : q.extract 0 PX.size = PX
          · have h1 : ((q.extract 0 PX.size).toList == PX.toList) = true := by rw [he]; exact beq_self_eq_true _
            have HU : Hid (Und (numsOf xp) (numsOf q)) := (UND.out q).mpr ⟨by omega, he⟩
            clear he
            go_wp2_with (first | (refine wpList_alloc_obj rfl 32 rfl (ndL 0 emp 0 emp none 0 0 0) NZ.out ?_; intro w9 g9 b9; have G9 := Lib.hid g9; have C9 := Lib.hid (HW.out.trans (b9.mono HW.out.size)); have e1 := (AT.out.below (belT BW.out b9) HB.out).c HY.out; have d1 := e1.2.1; clear e1 g9 b9 c0 c1 c2 c3 c4 c5 d1') | (refine wpList_store_obj rfl 32 _ _ rfl wr.heap.size rfl (ndL k q mm t x L xcc c) (ndL 0 emp 0 emp none 0 0 0) rfl 32 G9.out NO.out.2 rfl (nd_one _ _ _ _ _ _ _ _) ?_; intro w10 g10 t10; have C10 := Lib.hid (C9.out.trans (t10.below HW.out.size)); have c1 := g10.get 1 rfl; clear d1; have e1 := (AT.out.below (belT B3.out C10.out) HB.out).c HY.out; have d1 : w10.cell? ⟨b, off + I * 6 + 1, none⟩ = some (.string xp) := e1.2.1; clear e1 g10 t10; go_wp2_with fail))
            go_round
            case rel => exact ⟨true, j + 1, rfl, by go_num, by omega, STEP.out true (⟨fun _ => .inr HU.out, fun _ => rfl⟩), C10.out⟩
            case measure => simp [intOf]; omega
          · have h1 := bytes_neq he
            have HU : Hid (¬ Und (numsOf xp) (numsOf q)) := fun h => he ((UND.out q).mp h).2
            clear he
            go_wp2_with (first | (refine wpList_alloc_obj rfl 32 rfl (ndL 0 emp 0 emp none 0 0 0) NZ.out ?_; intro w9 g9 b9; have G9 := Lib.hid g9; have C9 := Lib.hid (HW.out.trans (b9.mono HW.out.size)); have e1 := (AT.out.below (belT BW.out b9) HB.out).c HY.out; have d1 := e1.2.1; clear e1 g9 b9 c0 c1 c2 c3 c4 c5 d1') | (refine wpList_store_obj rfl 32 _ _ rfl wr.heap.size rfl (ndL k q mm t x L xcc c) (ndL 0 emp 0 emp none 0 0 0) rfl 32 G9.out NO.out.2 rfl (nd_one _ _ _ _ _ _ _ _) ?_; intro w10 g10 t10; have C10 := Lib.hid (C9.out.trans (t10.below HW.out.size)); have c1 := g10.get 1 rfl; clear d1; have e1 := (AT.out.below (belT B3.out C10.out) HB.out).c HY.out; have d1 : w10.cell? ⟨b, off + I * 6 + 1, none⟩ = some (.string xp) := e1.2.1; clear e1 g10 t10; go_wp2_with fail))
            go_round
            case rel => exact ⟨false, j + 1, rfl, by go_num, by omega, STEP.out false (⟨fun h => absurd h (by decide), fun h => h.elim (fun h => h) (fun h => absurd h HU.out)⟩), C10.out⟩
            case measure => simp [intOf]; omega
        · have HU : Hid (¬ Und (numsOf xp) (numsOf q)) := fun h => hs (by have := ((UND.out q).mp h).1; omega)
          go_wp2_with (first | (refine wpList_alloc_obj rfl 32 rfl (ndL 0 emp 0 emp none 0 0 0) NZ.out ?_; intro w9 g9 b9; have G9 := Lib.hid g9; have C9 := Lib.hid (HW.out.trans (b9.mono HW.out.size)); have e1 := (AT.out.below (belT BW.out b9) HB.out).c HY.out; have d1 := e1.2.1; clear e1 g9 b9 c0 c1 c2 c3 c4 c5 d1') | (refine wpList_store_obj rfl 32 _ _ rfl wr.heap.size rfl (ndL k q mm t x L xcc c) (ndL 0 emp 0 emp none 0 0 0) rfl 32 G9.out NO.out.2 rfl (nd_one _ _ _ _ _ _ _ _) ?_; intro w10 g10 t10; have C10 := Lib.hid (C9.out.trans (t10.below HW.out.size)); have c1 := g10.get 1 rfl; clear d1; have e1 := (AT.out.below (belT B3.out C10.out) HB.out).c HY.out; have d1 : w10.cell? ⟨b, off + I * 6 + 1, none⟩ = some (.string xp) := e1.2.1; clear e1 g10 t10; go_wp2_with fail))
          go_round
          case rel => exact ⟨false, j + 1, rfl, by go_num, by omega, STEP.out false (⟨fun h => absurd h (by decide), fun h => h.elim (fun h => h) (fun h => absurd h HU.out)⟩), C10.out⟩
          case measure => simp [intOf]; omega
    · obtain rfl : j = n - 1 := by omega
      have AME := Lib.hid (AM.out.below HW.out)
      go_wp2_with fail
      obtain ⟨Q1, hQ1⟩ := named (chk (nds m)).1
      obtain ⟨Q2, hQ2⟩ := named (chk (nds m)).2
      have CM := pchk_any ma (n - 1) mc m _ (HV.out.go BW.out) AME.out
      rw [← hQ1.out, ← hQ2.out] at CM
      refine CM.mono ?_; rintro e wz' ⟨rfl, bz'⟩
      have BZ' := Lib.hid (belT BW.out bz')
      clear CM bz'
      have BAD : Hid (B = true → Q2 = 13 ∧ ∃ k : Nat, Q1 = k ∧ k < n - 1) := fun h => by
        obtain ⟨k, k1, k2⟩ := HBB.out.mp h
        obtain ⟨K, K1, K2⟩ := rem_bad VM.out ⟨nd (nds m) k, nd_mem (by rw [nds_len, ML.out]; exact k1), k2⟩
        rw [hQ1.out, hQ2.out, K2]
        exact ⟨rfl, K, rfl, by rw [nds_len, ML.out] at K1; exact K1⟩
      have GOOD : Hid (B = false → Q1 = ((n - 1 : Nat) : Int) ∧ Q2 = 0) := fun h => by
        have hv := rem_ok VM.out (fun z hz hu => by
          obtain ⟨k, k1, k2⟩ := nd_of hz
          have := HBB.out.mpr ⟨k, by rw [nds_len, ML.out] at k1; exact k1, by rw [k2]; exact hu⟩
          rw [h] at this; cases this)
        rw [hQ1.out, hQ2.out, chk_val hv, nds_len, ML.out]
        exact ⟨rfl, rfl⟩
      clear hQ1 hQ2 AME hPX
      go_wp2_with fail
      have wzE : ∃ wz, wz = wz' := ⟨_, rfl⟩
      obtain ⟨wz, hwz⟩ := wzE
      subst hwz
      have INW : Hid (NdsIn wz (some ⟨b, off, none⟩) ys) := (HA.out.below BZ'.out).r
      have KS : Hid (∀ w', Below wz.heap.size wz w' → (fun w' : World => w'.cell? ⟨b, off + I * 6, none⟩ = some (.int .i64 xk) ∧ w'.cell? ⟨b, off + I * 6 + 1, none⟩ = some (.string xp) ∧ w'.cell? ⟨b, off + I * 6 + 2, none⟩ = some (.int .i64 xm) ∧ w'.cell? ⟨b, off + I * 6 + 3, none⟩ = some (.string xt) ∧ w'.cell? ⟨b, off + I * 6 + 4, none⟩ = some (.slice xa XL xcap) ∧ w'.cell? ⟨b, off + I * 6 + 5, none⟩ = some (.int .i64 xc)) w') := fun w' hb => by
        have c := (AT.out.below (belT BZ'.out hb) HB.out).c HY.out
        rw [hXL.out]
        exact c
      have D0 : Hid (Below wz.heap.size wz wz.drew) := (Below.refl _ _).drew
      have FNW : Hid (∀ w', Below wz.heap.size wz w' → ∀ z ∈ ys ++ [⟨⟨xk, xp, xm, xt, xd, xc⟩, xa, xcap⟩], NdF w' z) := fun w' hb z hz => by
        rcases List.mem_append.mp hz with h | h
        · exact (HA.out.s z h).below (belT BZ'.out hb)
        · simp at h
          subst h
          exact FY.out.below (belT BZ'.out hb)
      (try simp only [Act.put, List.setIfInBounds_toArray, List.set_cons_zero, List.set_cons_succ])
      go_cut [15] from 86 to 95 (fun s15 wx => ∃ (va : Option Addr) (vc : Nat), s15 = .slice va (n + 1) vc ∧ ArgNds wx va (n + 1) vc (ys ++ [⟨⟨xk, xp, xm, xt, xd, xc⟩, xa, xcap⟩]) ∧ Below wz.heap.size wz wx)
      case first =>
        refine wp_region_held_drew (S := (fun w' : World => w'.cell? ⟨b, off + I * 6, none⟩ = some (.int .i64 xk) ∧ w'.cell? ⟨b, off + I * 6 + 1, none⟩ = some (.string xp) ∧ w'.cell? ⟨b, off + I * 6 + 2, none⟩ = some (.int .i64 xm) ∧ w'.cell? ⟨b, off + I * 6 + 3, none⟩ = some (.string xt) ∧ w'.cell? ⟨b, off + I * 6 + 4, none⟩ = some (.slice xa XL xcap) ∧ w'.cell? ⟨b, off + I * 6 + 5, none⟩ = some (.int .i64 xc))) (by kernel_rfl) (KS.out _ D0.out) (fun hHeld => ?_)
        refine wpAnyH_take (i := 1) (oi := { dst := some 87, op := Go.Op.move (Go.Operand.tmp 0), type := 22, pos := "law.go:121", after := #[], guard := none }) (v := ?_) rfl (by kernel_rfl) (by kernel_rfl) (by kernel_rfl) (fun _ _ _ h => h) (Or.inl ⟨by rfl, ?_⟩) (by assumption) ?_
        rotate_left 1
        focus ((intro wS hSw; (try dsimp only at hSw); go_simp) <;> (try with_reducible rfl))
        simp only [Act.put, List.setIfInBounds_toArray, List.set_cons_zero, List.set_cons_succ]
        refine wpAnyH_take (i := 3) (oi := { dst := some 89, op := Go.Op.move (Go.Operand.tmp 0), type := 22, pos := "law.go:121", after := #[], guard := none }) (v := ?_) rfl (by kernel_rfl) (by kernel_rfl) (by kernel_rfl) (fun _ _ _ h => h) (Or.inl ⟨by rfl, ?_⟩) (by assumption) ?_
        rotate_left 1
        focus ((intro wS hSw; (try dsimp only at hSw); go_simp) <;> (try with_reducible rfl))
        simp only [Act.put, List.setIfInBounds_toArray, List.set_cons_zero, List.set_cons_succ]
        refine wpAnyH_take (i := 4) (oi := { dst := some 90, op := Go.Op.move (Go.Operand.tmp 7), type := 3, pos := "law.go:121", after := #[], guard := none }) (v := ?_) rfl (by kernel_rfl) (by kernel_rfl) (by kernel_rfl) (fun _ _ _ h => h) (Or.inl ⟨by rfl, ?_⟩) (by assumption) ?_
        rotate_left 1
        focus ((intro wS hSw; (try dsimp only at hSw); go_simp) <;> (try with_reducible rfl))
        simp only [Act.put, List.setIfInBounds_toArray, List.set_cons_zero, List.set_cons_succ]
        refine wpAnyH_take (i := 5) (oi := { dst := some 91, op := Go.Op.indexAddr 22 (Go.Operand.tmp 89) (Go.Operand.tmp 90), type := 0, pos := "law.go:121", after := #[{ on := 3, ground := Go.Ground.data }, { on := 4, ground := Go.Ground.data }], guard := none }) (v := ?_) rfl (by kernel_rfl) (by kernel_rfl) (by kernel_rfl) (fun _ _ _ h => h) (Or.inl ⟨by rfl, ?_⟩) (by assumption) ?_
        rotate_left 1
        focus ((intro wS hSw; (try dsimp only at hSw); go_simp) <;> (try with_reducible rfl))
        simp only [Act.put, List.setIfInBounds_toArray, List.set_cons_zero, List.set_cons_succ]
        refine wpAnyH_take (i := 6) (oi := { dst := some 92, op := Go.Op.load 32 (Go.Operand.tmp 91), type := 32, pos := "law.go:121", after := #[{ on := 5, ground := Go.Ground.data }], guard := none }) (v := ?_) rfl (by kernel_rfl) (by kernel_rfl) (by kernel_rfl) (fun _ _ _ h => h) (Or.inl ⟨by rfl, ?_⟩) (by assumption) ?_
        rotate_left 1
        focus ((intro wS hSw; (try dsimp only at hSw); go_simp) <;> (try with_reducible rfl))
        simp only [Act.put, List.setIfInBounds_toArray, List.set_cons_zero, List.set_cons_succ]
        refine wpAnyH_ready (rs := [0, 7]) (by kernel_rfl) (by simp) ?_
        refine AllReadyH.cons (o := { dst := some 86, op := Go.Op.buildSlice 22 0 #[], type := 22, pos := "law.go:121", after := #[], guard := none }) rfl (fun K hK => ?_) (AllReadyH.cons (o := { dst := some 93, op := Go.Op.buildSlice 22 1 #[(0, Go.Operand.tmp 92)], type := 22, pos := "law.go:121", after := #[{ on := 6, ground := Go.Ground.data }], guard := none }) rfl (fun K hK => ?_) AllReadyH.nil)
        · refine step_lit_nd0 rfl 22 32 rfl Tryd.underlying22 _ I6.out ?_
          intro z101 o101 b101
          have O101 : Hid (z101.ownsRow wz.heap.size 32 6 (.slice (some ⟨wz.heap.size, 0, none⟩) 0 0) 0 (ndCells [])) := own_base6 o101 (D0.out.size)
          have D101 : Hid (Below wz.heap.size wz z101) := D0.out.trans (b101.mono D0.out.size)
          have SO101 : Hid (wz.heap.size < z101.heap.size) := by
            rcases o101.2 with ⟨h, _⟩ | ⟨g, _, _, hv, _, hh, _⟩
            · cases h
            · cases hv; exact (Array.getElem?_eq_some_iff.1 hh).1
          clear o101 b101
          refine hK.out _ _ (KS.out _ D101.out) (fun hHeld => ?_)
          clear hK K
          (try simp only [Act.put, List.setIfInBounds_toArray, List.set_cons_zero, List.set_cons_succ])
          refine wpAnyH_ready (rs := [2, 7]) (by kernel_rfl) (by simp) ?_
          refine AllReadyH.cons (o := { dst := some 88, op := Go.Op.call { callee := Go.Callee.builtin Go.Builtin.append, args := #[Go.Operand.tmp 86, Go.Operand.tmp 87], argTypes := #[22, 22] }, type := 22, pos := "law.go:121", after := #[{ on := 0, ground := Go.Ground.data }, { on := 1, ground := Go.Ground.data }], guard := none }) rfl (fun K hK => ?_) (AllReadyH.cons (o := { dst := some 93, op := Go.Op.buildSlice 22 1 #[(0, Go.Operand.tmp 92)], type := 22, pos := "law.go:121", after := #[{ on := 6, ground := Go.Ground.data }], guard := none }) rfl (fun K hK => ?_) AllReadyH.nil)
          · refine step_append_nds rfl (.tmp 86) (.tmp 87) 22 rfl wz.heap.size 32 i0 _ Tryd.underlying22 HI0 rfl (.slice (some ⟨wz.heap.size, 0, none⟩) 0 0) 0 [] rfl O101.out (some ⟨b, off, none⟩) n cap ys rfl (INW.out.below D101.out) HN.out (by have := N40.out; omega) D101.out.size ?_
            intro v102 z102 o102 b102 k102
            have O102 : Hid (z102.ownsRow wz.heap.size 32 6 v102 (0 + n) (ndCells ([] ++ ys))) := o102
            have D102 : Hid (Below wz.heap.size wz z102) := D101.out.trans b102
            clear o102 b102 k102
            refine hK.out _ _ (KS.out _ D102.out) (fun hHeld => ?_)
            clear hK K
            (try simp only [Act.put, List.setIfInBounds_toArray, List.set_cons_zero, List.set_cons_succ])
            refine wpAnyH_ready (rs := [7]) (by kernel_rfl) (by simp) ?_
            refine AllReadyH.cons (o := { dst := some 93, op := Go.Op.buildSlice 22 1 #[(0, Go.Operand.tmp 92)], type := 22, pos := "law.go:121", after := #[{ on := 6, ground := Go.Ground.data }], guard := none }) rfl (fun K hK => ?_) AllReadyH.nil
            · refine step_lit_nd1 rfl 22 32 (.tmp 92) rfl Tryd.underlying22 _ I6.out ⟨⟨xk, xp, xm, xt, xd, xc⟩, xa, xcap⟩ (by show _ = Value.agg (ndL xk xp xm xt xa xd.length xcap xc).toArray; rw [← hXL.out]; rfl) ?_
              intro z103 l103 b103
              have L103 : Hid (ObjAt z103 z102.heap.size 32 (ndCells [⟨⟨xk, xp, xm, xt, xd, xc⟩, xa, xcap⟩])) := l103
              have D103 : Hid (Below wz.heap.size wz z103) := D102.out.trans (b103.mono D102.out.size)
              have S103 : Hid (z102.heap.size < z103.heap.size) := l103.lt
              have O103 := Lib.hid (own_stay' O102.out b103 (Nat.le_refl _))
              clear l103 b103
              refine hK.out _ _ (KS.out _ D103.out) (fun hHeld => ?_)
              clear hK K
              (try simp only [Act.put, List.setIfInBounds_toArray, List.set_cons_zero, List.set_cons_succ])
              refine wpAnyH_ready (rs := [8]) (by kernel_rfl) (by simp) ?_
              refine AllReadyH.cons (o := { dst := some 94, op := Go.Op.call { callee := Go.Callee.builtin Go.Builtin.append, args := #[Go.Operand.tmp 88, Go.Operand.tmp 93], argTypes := #[22, 22] }, type := 22, pos := "law.go:121", after := #[{ on := 2, ground := Go.Ground.data }, { on := 7, ground := Go.Ground.data }, { on := 2, ground := Go.Ground.chain }], guard := none }) rfl (fun K hK => ?_) AllReadyH.nil
              · refine step_append_nds rfl (.tmp 88) (.tmp 93) 22 rfl wz.heap.size 32 i0 _ Tryd.underlying22 HI0 rfl _ (0 + n) ([] ++ ys) rfl O103.out (some ⟨z102.heap.size, 0, none⟩) 1 1 [⟨⟨xk, xp, xm, xt, xd, xc⟩, xa, xcap⟩] rfl (obj_nds L103.out) rfl (by have := N40.out; omega) D103.out.size ?_
                intro v104 z104 o104 b104 _
                have O104 : Hid (z104.ownsRow wz.heap.size 32 6 v104 (n + 1) (ndCells (ys ++ [⟨⟨xk, xp, xm, xt, xd, xc⟩, xa, xcap⟩]))) := by
                  show World.ownsRow _ _ _ _ _ _ _
                  rw [Nat.zero_add, List.nil_append] at o104
                  exact o104
                have D104 : Hid (Below wz.heap.size wz z104) := D103.out.trans b104
                clear o104 b104
                refine hK.out _ _ (KS.out _ D104.out) (fun hHeld => ?_)
                clear hK K
                (try simp only [Act.put, List.setIfInBounds_toArray, List.set_cons_zero, List.set_cons_succ])
                refine wpAnyH_take (i := 9) (oi := { dst := some 15, op := Go.Op.assign (Go.Operand.tmp 94), type := 22, pos := "law.go:121", after := #[{ on := 8, ground := Go.Ground.data }, { on := 8, ground := Go.Ground.chain }, { on := 0, ground := Go.Ground.phase }, { on := 1, ground := Go.Ground.phase }, { on := 2, ground := Go.Ground.phase }, { on := 3, ground := Go.Ground.phase }, { on := 4, ground := Go.Ground.phase }, { on := 5, ground := Go.Ground.phase }, { on := 6, ground := Go.Ground.phase }, { on := 7, ground := Go.Ground.phase }, { on := 8, ground := Go.Ground.phase }], guard := none }) (v := ?_) rfl (by kernel_rfl) (by kernel_rfl) (by kernel_rfl) (fun _ _ _ h => h) (Or.inl ⟨by rfl, ?_⟩) (by assumption) ?_
                rotate_left 1
                focus ((intro wS hSw; (try dsimp only at hSw); go_simp) <;> (try with_reducible rfl))
                simp only [Act.put, List.setIfInBounds_toArray, List.set_cons_zero, List.set_cons_succ]
                refine wpAnyH_done (by kernel_rfl) ?_ _
                go_wp2_with fail
                go_meet
                obtain ⟨va, vc, hva, hr⟩ := ArgNds.of_own O104.out (FNW.out _ D104.out)
                exact ⟨va, vc, by rw [hva], hr, D104.out⟩
              
            
          · refine step_lit_nd1 rfl 22 32 (.tmp 92) rfl Tryd.underlying22 _ I6.out ⟨⟨xk, xp, xm, xt, xd, xc⟩, xa, xcap⟩ (by show _ = Value.agg (ndL xk xp xm xt xa xd.length xcap xc).toArray; rw [← hXL.out]; rfl) ?_
            intro z105 l105 b105
            have L105 : Hid (ObjAt z105 z101.heap.size 32 (ndCells [⟨⟨xk, xp, xm, xt, xd, xc⟩, xa, xcap⟩])) := l105
            have D105 : Hid (Below wz.heap.size wz z105) := D101.out.trans (b105.mono D101.out.size)
            have S105 : Hid (z101.heap.size < z105.heap.size) := l105.lt
            have O105 := Lib.hid (own_stay' O101.out b105 (Nat.le_refl _))
            have G105 : Hid (z101.heap.size ≠ wz.heap.size) := Nat.ne_of_gt SO101.out
            clear l105 b105
            refine hK.out _ _ (KS.out _ D105.out) (fun hHeld => ?_)
            clear hK K
            (try simp only [Act.put, List.setIfInBounds_toArray, List.set_cons_zero, List.set_cons_succ])
            refine wpAnyH_ready (rs := [2]) (by kernel_rfl) (by simp) ?_
            refine AllReadyH.cons (o := { dst := some 88, op := Go.Op.call { callee := Go.Callee.builtin Go.Builtin.append, args := #[Go.Operand.tmp 86, Go.Operand.tmp 87], argTypes := #[22, 22] }, type := 22, pos := "law.go:121", after := #[{ on := 0, ground := Go.Ground.data }, { on := 1, ground := Go.Ground.data }], guard := none }) rfl (fun K hK => ?_) AllReadyH.nil
            · refine step_append_nds rfl (.tmp 86) (.tmp 87) 22 rfl wz.heap.size 32 i0 _ Tryd.underlying22 HI0 rfl (.slice (some ⟨wz.heap.size, 0, none⟩) 0 0) 0 [] rfl O105.out (some ⟨b, off, none⟩) n cap ys rfl (INW.out.below D105.out) HN.out (by have := N40.out; omega) D105.out.size ?_
              intro v106 z106 o106 b106 k106
              have O106 : Hid (z106.ownsRow wz.heap.size 32 6 v106 (0 + n) (ndCells ([] ++ ys))) := o106
              have D106 : Hid (Below wz.heap.size wz z106) := D105.out.trans b106
              have L106 : Hid (ObjAt z106 z101.heap.size 32 (ndCells [⟨⟨xk, xp, xm, xt, xd, xc⟩, xa, xcap⟩])) := L105.out.block (k106 _ S105.out (fun e => G105.out (by simpa [Value.ownBlock] using e)))
              have W106 : Hid (z101.heap.size < z106.heap.size) := Nat.lt_of_lt_of_le S105.out b106.size
              clear o106 b106 k106
              refine hK.out _ _ (KS.out _ D106.out) (fun hHeld => ?_)
              clear hK K
              (try simp only [Act.put, List.setIfInBounds_toArray, List.set_cons_zero, List.set_cons_succ])
              refine wpAnyH_ready (rs := [8]) (by kernel_rfl) (by simp) ?_
              refine AllReadyH.cons (o := { dst := some 94, op := Go.Op.call { callee := Go.Callee.builtin Go.Builtin.append, args := #[Go.Operand.tmp 88, Go.Operand.tmp 93], argTypes := #[22, 22] }, type := 22, pos := "law.go:121", after := #[{ on := 2, ground := Go.Ground.data }, { on := 7, ground := Go.Ground.data }, { on := 2, ground := Go.Ground.chain }], guard := none }) rfl (fun K hK => ?_) AllReadyH.nil
              · refine step_append_nds rfl (.tmp 88) (.tmp 93) 22 rfl wz.heap.size 32 i0 _ Tryd.underlying22 HI0 rfl _ (0 + n) ([] ++ ys) rfl O106.out (some ⟨z101.heap.size, 0, none⟩) 1 1 [⟨⟨xk, xp, xm, xt, xd, xc⟩, xa, xcap⟩] rfl (obj_nds L106.out) rfl (by have := N40.out; omega) D106.out.size ?_
                intro v107 z107 o107 b107 _
                have O107 : Hid (z107.ownsRow wz.heap.size 32 6 v107 (n + 1) (ndCells (ys ++ [⟨⟨xk, xp, xm, xt, xd, xc⟩, xa, xcap⟩]))) := by
                  show World.ownsRow _ _ _ _ _ _ _
                  rw [Nat.zero_add, List.nil_append] at o107
                  exact o107
                have D107 : Hid (Below wz.heap.size wz z107) := D106.out.trans b107
                clear o107 b107
                refine hK.out _ _ (KS.out _ D107.out) (fun hHeld => ?_)
                clear hK K
                (try simp only [Act.put, List.setIfInBounds_toArray, List.set_cons_zero, List.set_cons_succ])
                refine wpAnyH_take (i := 9) (oi := { dst := some 15, op := Go.Op.assign (Go.Operand.tmp 94), type := 22, pos := "law.go:121", after := #[{ on := 8, ground := Go.Ground.data }, { on := 8, ground := Go.Ground.chain }, { on := 0, ground := Go.Ground.phase }, { on := 1, ground := Go.Ground.phase }, { on := 2, ground := Go.Ground.phase }, { on := 3, ground := Go.Ground.phase }, { on := 4, ground := Go.Ground.phase }, { on := 5, ground := Go.Ground.phase }, { on := 6, ground := Go.Ground.phase }, { on := 7, ground := Go.Ground.phase }, { on := 8, ground := Go.Ground.phase }], guard := none }) (v := ?_) rfl (by kernel_rfl) (by kernel_rfl) (by kernel_rfl) (fun _ _ _ h => h) (Or.inl ⟨by rfl, ?_⟩) (by assumption) ?_
                rotate_left 1
                focus ((intro wS hSw; (try dsimp only at hSw); go_simp) <;> (try with_reducible rfl))
                simp only [Act.put, List.setIfInBounds_toArray, List.set_cons_zero, List.set_cons_succ]
                refine wpAnyH_done (by kernel_rfl) ?_ _
                go_wp2_with fail
                go_meet
                obtain ⟨va, vc, hva, hr⟩ := ArgNds.of_own O107.out (FNW.out _ D107.out)
                exact ⟨va, vc, by rw [hva], hr, D107.out⟩
              
            
          
        · refine step_lit_nd1 rfl 22 32 (.tmp 92) rfl Tryd.underlying22 _ I6.out ⟨⟨xk, xp, xm, xt, xd, xc⟩, xa, xcap⟩ (by show _ = Value.agg (ndL xk xp xm xt xa xd.length xcap xc).toArray; rw [← hXL.out]; rfl) ?_
          intro z108 l108 b108
          have L108 : Hid (ObjAt z108 wz.heap.size 32 (ndCells [⟨⟨xk, xp, xm, xt, xd, xc⟩, xa, xcap⟩])) := l108
          have D108 : Hid (Below wz.heap.size wz z108) := D0.out.trans (b108.mono D0.out.size)
          have S108 : Hid (wz.heap.size < z108.heap.size) := l108.lt
          clear l108 b108
          refine hK.out _ _ (KS.out _ D108.out) (fun hHeld => ?_)
          clear hK K
          (try simp only [Act.put, List.setIfInBounds_toArray, List.set_cons_zero, List.set_cons_succ])
          refine wpAnyH_ready (rs := [0]) (by kernel_rfl) (by simp) ?_
          refine AllReadyH.cons (o := { dst := some 86, op := Go.Op.buildSlice 22 0 #[], type := 22, pos := "law.go:121", after := #[], guard := none }) rfl (fun K hK => ?_) AllReadyH.nil
          · refine step_lit_nd0 rfl 22 32 rfl Tryd.underlying22 _ I6.out ?_
            intro z109 o109 b109
            have O109 : Hid (z109.ownsRow wz.heap.size 32 6 (.slice (some ⟨z108.heap.size, 0, none⟩) 0 0) 0 (ndCells [])) := own_base6 o109 (D108.out.size)
            have D109 : Hid (Below wz.heap.size wz z109) := D108.out.trans (b109.mono D108.out.size)
            have SO109 : Hid (z108.heap.size < z109.heap.size) := by
              rcases o109.2 with ⟨h, _⟩ | ⟨g, _, _, hv, _, hh, _⟩
              · cases h
              · cases hv; exact (Array.getElem?_eq_some_iff.1 hh).1
            have L109 : Hid (ObjAt z109 wz.heap.size 32 (ndCells [⟨⟨xk, xp, xm, xt, xd, xc⟩, xa, xcap⟩])) := L108.out.below b109 S108.out
            have G109 : Hid (wz.heap.size ≠ z108.heap.size ∧ wz.heap.size < z109.heap.size) := ⟨Nat.ne_of_lt S108.out, Nat.lt_of_lt_of_le S108.out b109.size⟩
            clear o109 b109
            refine hK.out _ _ (KS.out _ D109.out) (fun hHeld => ?_)
            clear hK K
            (try simp only [Act.put, List.setIfInBounds_toArray, List.set_cons_zero, List.set_cons_succ])
            refine wpAnyH_ready (rs := [2]) (by kernel_rfl) (by simp) ?_
            refine AllReadyH.cons (o := { dst := some 88, op := Go.Op.call { callee := Go.Callee.builtin Go.Builtin.append, args := #[Go.Operand.tmp 86, Go.Operand.tmp 87], argTypes := #[22, 22] }, type := 22, pos := "law.go:121", after := #[{ on := 0, ground := Go.Ground.data }, { on := 1, ground := Go.Ground.data }], guard := none }) rfl (fun K hK => ?_) AllReadyH.nil
            · refine step_append_nds rfl (.tmp 86) (.tmp 87) 22 rfl wz.heap.size 32 i0 _ Tryd.underlying22 HI0 rfl (.slice (some ⟨z108.heap.size, 0, none⟩) 0 0) 0 [] rfl O109.out (some ⟨b, off, none⟩) n cap ys rfl (INW.out.below D109.out) HN.out (by have := N40.out; omega) D109.out.size ?_
              intro v110 z110 o110 b110 k110
              have O110 : Hid (z110.ownsRow wz.heap.size 32 6 v110 (0 + n) (ndCells ([] ++ ys))) := o110
              have D110 : Hid (Below wz.heap.size wz z110) := D109.out.trans b110
              have L110 : Hid (ObjAt z110 wz.heap.size 32 (ndCells [⟨⟨xk, xp, xm, xt, xd, xc⟩, xa, xcap⟩])) := L109.out.block (k110 _ G109.out.2 (fun e => G109.out.1 (by simpa [Value.ownBlock] using e)))
              have W110 : Hid (wz.heap.size < z110.heap.size) := Nat.lt_of_lt_of_le G109.out.2 b110.size
              clear o110 b110 k110
              refine hK.out _ _ (KS.out _ D110.out) (fun hHeld => ?_)
              clear hK K
              (try simp only [Act.put, List.setIfInBounds_toArray, List.set_cons_zero, List.set_cons_succ])
              refine wpAnyH_ready (rs := [8]) (by kernel_rfl) (by simp) ?_
              refine AllReadyH.cons (o := { dst := some 94, op := Go.Op.call { callee := Go.Callee.builtin Go.Builtin.append, args := #[Go.Operand.tmp 88, Go.Operand.tmp 93], argTypes := #[22, 22] }, type := 22, pos := "law.go:121", after := #[{ on := 2, ground := Go.Ground.data }, { on := 7, ground := Go.Ground.data }, { on := 2, ground := Go.Ground.chain }], guard := none }) rfl (fun K hK => ?_) AllReadyH.nil
              · refine step_append_nds rfl (.tmp 88) (.tmp 93) 22 rfl wz.heap.size 32 i0 _ Tryd.underlying22 HI0 rfl _ (0 + n) ([] ++ ys) rfl O110.out (some ⟨wz.heap.size, 0, none⟩) 1 1 [⟨⟨xk, xp, xm, xt, xd, xc⟩, xa, xcap⟩] rfl (obj_nds L110.out) rfl (by have := N40.out; omega) D110.out.size ?_
                intro v111 z111 o111 b111 _
                have O111 : Hid (z111.ownsRow wz.heap.size 32 6 v111 (n + 1) (ndCells (ys ++ [⟨⟨xk, xp, xm, xt, xd, xc⟩, xa, xcap⟩]))) := by
                  show World.ownsRow _ _ _ _ _ _ _
                  rw [Nat.zero_add, List.nil_append] at o111
                  exact o111
                have D111 : Hid (Below wz.heap.size wz z111) := D110.out.trans b111
                clear o111 b111
                refine hK.out _ _ (KS.out _ D111.out) (fun hHeld => ?_)
                clear hK K
                (try simp only [Act.put, List.setIfInBounds_toArray, List.set_cons_zero, List.set_cons_succ])
                refine wpAnyH_take (i := 9) (oi := { dst := some 15, op := Go.Op.assign (Go.Operand.tmp 94), type := 22, pos := "law.go:121", after := #[{ on := 8, ground := Go.Ground.data }, { on := 8, ground := Go.Ground.chain }, { on := 0, ground := Go.Ground.phase }, { on := 1, ground := Go.Ground.phase }, { on := 2, ground := Go.Ground.phase }, { on := 3, ground := Go.Ground.phase }, { on := 4, ground := Go.Ground.phase }, { on := 5, ground := Go.Ground.phase }, { on := 6, ground := Go.Ground.phase }, { on := 7, ground := Go.Ground.phase }, { on := 8, ground := Go.Ground.phase }], guard := none }) (v := ?_) rfl (by kernel_rfl) (by kernel_rfl) (by kernel_rfl) (fun _ _ _ h => h) (Or.inl ⟨by rfl, ?_⟩) (by assumption) ?_
                rotate_left 1
                focus ((intro wS hSw; (try dsimp only at hSw); go_simp) <;> (try with_reducible rfl))
                simp only [Act.put, List.setIfInBounds_toArray, List.set_cons_zero, List.set_cons_succ]
                refine wpAnyH_done (by kernel_rfl) ?_ _
                go_wp2_with fail
                go_meet
                obtain ⟨va, vc, hva, hr⟩ := ArgNds.of_own O111.out (FNW.out _ D111.out)
                exact ⟨va, vc, by rw [hva], hr, D111.out⟩
              
            
          
      case rest =>
        obtain ⟨va, vc, rfl, hvi, hb'⟩ := hcut
        have BC := Lib.hid (belT BZ'.out hb')
        have CT := pchk_any va (n + 1) vc _ _ (HV.out.go BC.out) hvi
        rw [TWICE.out] at CT
        have CTH := Lib.hid CT
        clear CT hb' hvi
        go_wp2_with fail
        refine CTH.out.mono ?_; rintro e w20 ⟨rfl, b20⟩
        have B20 := Lib.hid (belT BC.out b20)
        clear b20 CTH
        cases B with
        | true =>
          obtain ⟨rfl, K, rfl, hK⟩ := BAD.out rfl
          have hKi : (K : Int) < ((n - 1 : Nat) : Int) := by omega
          clear BAD GOOD
          go_wp2_with fail
          refine (Tre.alive_any _ (HV.out.go B20.out)).mono ?_; rintro e w21 ⟨rfl, b21⟩
          have B21 := Lib.hid (belT B20.out b21)
          clear b21
          go_wp2_with fail
          go_ret
          exact ⟨rfl, B21.out⟩
        | false =>
          obtain ⟨rfl, rfl⟩ := GOOD.out rfl
          clear BAD GOOD
          go_wp2_with fail
          refine (Tre.alive_any _ (HV.out.go B20.out)).mono ?_; rintro e w21 ⟨rfl, b21⟩
          have B21 := Lib.hid (belT B20.out b21)
          clear b21
          go_wp2_with fail
          go_ret
          exact ⟨rfl, B21.out⟩
end Go.Proofs.YtaobokboakkjjaaDoor
