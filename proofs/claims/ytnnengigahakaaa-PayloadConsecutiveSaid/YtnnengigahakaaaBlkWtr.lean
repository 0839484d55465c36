/-
  Layer 6: the walks of Write, Pad, Zeros.
-/
import Derived.Test.YtnnengigahakaaaBlkObj
import Derived.Test.YtnnengigahakaaaSnkAll
import Derived.Test.YtnnengigahakaaaBlkWw
import Derived.Test.YtnnengigahakaaaSwitch
namespace Go.Proofs.Ytnnengigahakaaa
open Go.RowKit

/-- how many bytes up to the next block -/
theorem miss_any {q : Nat} {T : TypeId} {o : Nat} {err : Int} {p : Value} (w : World) (h : ObjAt w q T [.int .i64 o, .int .i64 err, p]) (ho : o ≤ 200000000000000) :
    Calls Try.prog 35 #[.pointer (some ⟨q, 0, none⟩)] w fun x w' => x = .returned (.int .i64 (padN o)) ∧ w = w' := by
  have c0 := h.get 0 rfl
  have ho' : (o : Int) ≤ 200000000000000 := by omega
  obtain ⟨d, hd⟩ := named (padN o)
  have hpi : ((512 : Int) - (o : Int) % 512) % 512 = (d : Int) := by rw [hd.out]; unfold padN; omega
  rw [← hd.out]
  clear h ho
  go_enter Try.func35, Try.ntmps35
  go_wp2
  go_ret
  exact ⟨by first | rfl | exact congrArg (fun z => Ending.returned (.int .i64 z)) hpi, rfl⟩

theorem wrapI {z : Int} (h1 : 0 ≤ z) (h2 : z ≤ 9223372036854775807) : IntKind.i64.wrap z = z := by
  have hb : IntKind.i64.bits = 64 := rfl
  have hs : IntKind.i64.signed = true := rfl
  unfold IntKind.wrap
  simp only [hb, hs, Bool.true_and]
  have e : (2 : Int) ^ 64 = 18446744073709551616 := by decide
  have e' : (2 : Int) ^ (64 - 1) = 9223372036854775808 := by decide
  rw [e, e', Int.emod_eq_of_lt h1 (by omega), if_neg (by simp; omega)]

set_option maxRecDepth 100000 in
set_option maxHeartbeats 8000000 in
theorem wtr_write {S : Nat → Prop} {q m : Nat} {ys : List Int} {F : Int} {o : Nat} {err : Int} (a : Option Addr) (n cap : Nat) (bs : List Int) (w : World) (h : Wtr w S q m ys F o err) (hb : BytesIn w a bs) (hl : bs.length = n) (hnc : n ≤ cap) (hn : ys.length + n ≤ 100000000) (hF : F ≤ 9223372036854775807)
    (hd : ∀ x, a = some x → bs = [] ∨ ¬ S x.block) :
    Calls Try.prog 29 #[.pointer (some ⟨q, 0, none⟩), .slice a n cap] w fun e w' => e = .returned (.int .i64 (wwE F ys.length n err)) ∧
      Wtr w' (Grow S w w') q m (ys ++ bs.take (wwK F ys.length n err)) F (o + wwK F ys.length n err) (wwE F ys.length n err) ∧ Only S w w' := by
  have H := Lib.hid h
  obtain ⟨S', cs, r, h1, h2, h3, h4, h5, h6, h7⟩ := h
  have c1 := h1.get 1 rfl
  have c2 := h1.get 2 rfl
  by_cases he : err = 0
  · subst he
    have e1 : wwK F ys.length n 0 = allK F ys.length n := if_pos rfl
    have e2 : wwE F ys.length n 0 = allE F ys.length n := if_pos rfl
    rw [e1, e2]
    obtain ⟨L, hL⟩ := named ys.length
    have H2 := Lib.hid h2
    have H1 := Lib.hid h1; have H3 := Lib.hid h3; have H4 := Lib.hid h4; have H5 := Lib.hid h5; have H6 := Lib.hid h6; have H7 := Lib.hid h7
    have HB := Lib.hid hb; have HL := Lib.hid hl; have HN := Lib.hid hn
    have HD : Hid (∀ x, a = some x → bs = [] ∨ ¬ S' x.block) := fun x hx => (hd x hx).imp id fun h h' => h (h3 _ h')
    rw [← hL.out]
    obtain ⟨K, hK⟩ := named (allK F L n)
    obtain ⟨E, hE⟩ := named (allE F L n)
    rw [← hK.out, ← hE.out]
    clear h1 h2 h3 h4 h5 h6 h7 hb hl hd e1 e2 hn
    go_enter Try.func29, Try.ntmps29
    go_wp2_with fail
    refine (slen_any w H2.out).mono ?_; rintro e w1 ⟨rfl, rfl⟩
    rw [← hL.out]
    go_wp2_with fail
    refine (snk_all a n cap bs w H2.out HB.out HL.out hnc HN.out hF HD.out).mono ?_; rintro e w2 ⟨rfl, s2, o2⟩
    rw [← hL.out] at s2
    rw [← hL.out]
    rw [← hK.out] at s2
    rw [← hE.out]
    have OB2 := Lib.hid (H1.out.only o2 H5.out)
    have S2 := Lib.hid s2; have Q2 := Lib.hid o2
    have KL : Hid ((ys ++ bs.take K).length = L + K ∧ L + K ≤ 100000000 ∧ K ≤ n) := by
      show _ ∧ _ ∧ _
      have hk : K ≤ n := by rw [hK.out]; unfold allK; split <;> omega
      rw [List.length_append, List.length_take, HL.out]
      have := HN.out; have := hL.out
      omega
    have hk8 : (L : Int) + K ≤ 100000000 := by have := KL.out.2.1; omega
    have c2 := OB2.out.get 2 rfl
    clear s2 o2 c1
    go_wp2_with fail
    have NL : Hid (∀ w' : World, Below w2.heap.size w2 w' → Calls Try.prog 21 #[.pointer (some ⟨m, 0, none⟩)] w' fun e w'' => e = .returned (.int .i64 ((L : Int) + K)) ∧ w' = w'') := fun w' hb => (slen_any w' (S2.out.below hb)).mono fun e w'' ⟨h1, h2⟩ => ⟨by rw [h1, KL.out.1]; rfl, h2⟩
    have evk : IntKind.i64.wrap ((L : Int) + K - L) = (K : Nat) := by rw [show (L : Int) + K - L = (K : Nat) by omega]; exact wrapI (by omega) (by omega)
    have NA : Hid (∀ w' : World, Below w2.heap.size w2 w' → Calls Try.prog 34 #[.pointer (some ⟨q, 0, none⟩), .int .i64 K, .int .i64 E] w' fun x w'' => x = .returned (.int .i64 E) ∧
      ObjAt w'' q 81 [.int .i64 ((o + K : Nat) : Int), .int .i64 E, .pointer (some ⟨m, 0, none⟩)] ∧ Out q (q + 1) w' w'' ∧ w''.heap.size = w'.heap.size) := fun w' hb => adv_any E w' (OB2.out.below hb OB2.out.lt) (by have := H7.out; have := hL.out; have := KL.out; omega)
    have K1 : Hid (∀ w', Below w2.heap.size w2 w' → w'.cell? ⟨q, 2, none⟩ = some (.pointer (some ⟨m, 0, none⟩))) := fun w' hb => (OB2.out.below hb OB2.out.lt).get 2 rfl
    refine wp_region_held_drew (S := (fun w' => w'.cell? ⟨q, 2, none⟩ = some (.pointer (some ⟨m, 0, none⟩)))) (by kernel_rfl) (K1.out _ (Below.refl _ _).drew) (fun hHeld => ?_)
    refine wpAnyH_take (i := 0) (oi := { dst := some 33, op := Go.Op.move (Go.Operand.tmp 0), type := 48, pos := "block.go:102", after := #[], guard := none }) (v := ?_) rfl (by kernel_rfl) (by kernel_rfl) (by kernel_rfl) (fun _ _ _ h => h) (Or.inl ⟨by rfl, ?_⟩) (by assumption) ?_
    rotate_left 1
    focus ((intro wS hSw; (try dsimp only at hSw); go_simp) <;> (try with_reducible rfl))
    simp only [Act.put, List.setIfInBounds_toArray, List.set_cons_zero, List.set_cons_succ]
    refine wpAnyH_take (i := 1) (oi := { dst := some 34, op := Go.Op.nilCheck (Go.Operand.tmp 33), type := 0, pos := "block.go:102", after := #[{ on := 0, ground := Go.Ground.data }], guard := none }) (v := ?_) rfl (by kernel_rfl) (by kernel_rfl) (by kernel_rfl) (fun _ _ _ h => h) (Or.inl ⟨by rfl, ?_⟩) (by assumption) ?_
    rotate_left 1
    focus ((intro wS hSw; (try dsimp only at hSw); go_simp) <;> (try with_reducible rfl))
    simp only [Act.put, List.setIfInBounds_toArray, List.set_cons_zero, List.set_cons_succ]
    refine wpAnyH_take (i := 2) (oi := { dst := some 35, op := Go.Op.fieldAddr 81 (Go.Operand.tmp 34) 0, type := 0, pos := "block.go:102", after := #[{ on := 1, ground := Go.Ground.data }], guard := none }) (v := ?_) rfl (by kernel_rfl) (by kernel_rfl) (by kernel_rfl) (fun _ _ _ h => h) (Or.inl ⟨by rfl, ?_⟩) (by assumption) ?_
    rotate_left 1
    focus ((intro wS hSw; (try dsimp only at hSw); go_simp) <;> (try with_reducible rfl))
    simp only [Act.put, List.setIfInBounds_toArray, List.set_cons_zero, List.set_cons_succ]
    refine wpAnyH_take (i := 3) (oi := { dst := some 36, op := Go.Op.move (Go.Operand.tmp 0), type := 48, pos := "block.go:102", after := #[], guard := none }) (v := ?_) rfl (by kernel_rfl) (by kernel_rfl) (by kernel_rfl) (fun _ _ _ h => h) (Or.inl ⟨by rfl, ?_⟩) (by assumption) ?_
    rotate_left 1
    focus ((intro wS hSw; (try dsimp only at hSw); go_simp) <;> (try with_reducible rfl))
    simp only [Act.put, List.setIfInBounds_toArray, List.set_cons_zero, List.set_cons_succ]
    refine wpAnyH_take (i := 4) (oi := { dst := some 37, op := Go.Op.nilCheck (Go.Operand.tmp 36), type := 0, pos := "block.go:102", after := #[{ on := 3, ground := Go.Ground.data }], guard := none }) (v := ?_) rfl (by kernel_rfl) (by kernel_rfl) (by kernel_rfl) (fun _ _ _ h => h) (Or.inl ⟨by rfl, ?_⟩) (by assumption) ?_
    rotate_left 1
    focus ((intro wS hSw; (try dsimp only at hSw); go_simp) <;> (try with_reducible rfl))
    simp only [Act.put, List.setIfInBounds_toArray, List.set_cons_zero, List.set_cons_succ]
    refine wpAnyH_take (i := 5) (oi := { dst := some 38, op := Go.Op.fieldAddr 81 (Go.Operand.tmp 37) 1, type := 0, pos := "block.go:102", after := #[{ on := 4, ground := Go.Ground.data }], guard := none }) (v := ?_) rfl (by kernel_rfl) (by kernel_rfl) (by kernel_rfl) (fun _ _ _ h => h) (Or.inl ⟨by rfl, ?_⟩) (by assumption) ?_
    rotate_left 1
    focus ((intro wS hSw; (try dsimp only at hSw); go_simp) <;> (try with_reducible rfl))
    simp only [Act.put, List.setIfInBounds_toArray, List.set_cons_zero, List.set_cons_succ]
    refine wpAnyH_take (i := 6) (oi := { dst := some 39, op := Go.Op.load 45 (Go.Operand.tmp 38), type := 45, pos := "block.go:102", after := #[{ on := 5, ground := Go.Ground.data }], guard := none }) (v := ?_) rfl (by kernel_rfl) (by kernel_rfl) (by kernel_rfl) (fun _ _ _ h => h) (Or.inl ⟨by rfl, ?_⟩) (by assumption) ?_
    rotate_left 1
    focus ((intro wS hSw; (try dsimp only at hSw); go_simp) <;> (try with_reducible rfl))
    simp only [Act.put, List.setIfInBounds_toArray, List.set_cons_zero, List.set_cons_succ]
    refine wpAnyH_take (i := 8) (oi := { dst := some 41, op := Go.Op.move (Go.Operand.tmp 5), type := 2, pos := "block.go:102", after := #[], guard := none }) (v := ?_) rfl (by kernel_rfl) (by kernel_rfl) (by kernel_rfl) (fun _ _ _ h => h) (Or.inl ⟨by rfl, ?_⟩) (by assumption) ?_
    rotate_left 1
    focus ((intro wS hSw; (try dsimp only at hSw); go_simp) <;> (try with_reducible rfl))
    simp only [Act.put, List.setIfInBounds_toArray, List.set_cons_zero, List.set_cons_succ]
    refine wpAnyH_take (i := 10) (oi := { dst := some 43, op := Go.Op.move (Go.Operand.tmp 6), type := 37, pos := "block.go:102", after := #[], guard := none }) (v := ?_) rfl (by kernel_rfl) (by kernel_rfl) (by kernel_rfl) (fun _ _ _ h => h) (Or.inl ⟨by rfl, ?_⟩) (by assumption) ?_
    rotate_left 1
    focus ((intro wS hSw; (try dsimp only at hSw); go_simp) <;> (try with_reducible rfl))
    simp only [Act.put, List.setIfInBounds_toArray, List.set_cons_zero, List.set_cons_succ]
    refine wpAnyH_ready (rs := [7]) (by kernel_rfl) (by simp) ?_
    refine AllReadyH.cons (o := { dst := some 40, op := Go.Op.call { callee := Go.Callee.value (Go.Operand.func 21), args := #[Go.Operand.tmp 39], argTypes := #[45] }, type := 2, pos := "block.go:102", after := #[{ on := 6, ground := Go.Ground.data }], guard := none }) rfl (fun K hK => ?_) AllReadyH.nil
    go_simp
    refine (NL.out _ (Below.refl _ _).drew).mono ?_; rintro e w3 ⟨rfl, rfl⟩
    go_wp2_with fail
    refine hK.out _ _ (K1.out _ (Below.refl _ _).drew) (fun hHeld => ?_)
    clear hK K
    (try simp only [Act.put, List.setIfInBounds_toArray, List.set_cons_zero, List.set_cons_succ])
    refine wpAnyH_take (i := 9) (oi := { dst := some 42, op := Go.Op.binOp Go.BinOp.sub 2 (Go.Operand.tmp 40) (Go.Operand.tmp 41) 2, type := 2, pos := "block.go:102", after := #[{ on := 7, ground := Go.Ground.data }, { on := 8, ground := Go.Ground.data }], guard := none }) (v := ?_) rfl (by kernel_rfl) (by kernel_rfl) (by kernel_rfl) (fun _ _ _ h => h) (Or.inl ⟨by rfl, ?_⟩) (by assumption) ?_
    rotate_left 1
    focus ((intro wS hSw; (try dsimp only at hSw); go_simp) <;> (try with_reducible rfl))
    simp only [Act.put, List.setIfInBounds_toArray, List.set_cons_zero, List.set_cons_succ]
    refine wpAnyH_ready (rs := [11]) (by kernel_rfl) (by simp) ?_
    refine AllReadyH.cons (o := { dst := some 44, op := Go.Op.call { callee := Go.Callee.value (Go.Operand.func 34), args := #[Go.Operand.tmp 35, Go.Operand.tmp 42, Go.Operand.tmp 43], argTypes := #[58, 2, 37] }, type := 37, pos := "block.go:102", after := #[{ on := 2, ground := Go.Ground.data }, { on := 9, ground := Go.Ground.data }, { on := 10, ground := Go.Ground.data }, { on := 7, ground := Go.Ground.chain }], guard := none }) rfl (fun K hK => ?_) AllReadyH.nil
    go_simp
    refine (NA.out _ (Below.refl _ _).drew).mono ?_; rintro e w4 ⟨rfl, ob4, u4, z4⟩
    have OB4 := Lib.hid ob4; have U4 := Lib.hid u4; have Z4 := Lib.hid z4; clear ob4 u4 z4
    go_wp2_with fail
    refine hK.out _ _ (OB4.out.get 2 rfl) (fun hHeld => ?_)
    clear hK K
    (try simp only [Act.put, List.setIfInBounds_toArray, List.set_cons_zero, List.set_cons_succ])
    refine wpAnyH_take (i := 12) (oi := { dst := some 4, op := Go.Op.assign (Go.Operand.tmp 44), type := 37, pos := "block.go:102", after := #[{ on := 11, ground := Go.Ground.data }, { on := 11, ground := Go.Ground.chain }, { on := 0, ground := Go.Ground.phase }, { on := 1, ground := Go.Ground.phase }, { on := 2, ground := Go.Ground.phase }, { on := 3, ground := Go.Ground.phase }, { on := 4, ground := Go.Ground.phase }, { on := 5, ground := Go.Ground.phase }, { on := 6, ground := Go.Ground.phase }, { on := 7, ground := Go.Ground.phase }, { on := 8, ground := Go.Ground.phase }, { on := 9, ground := Go.Ground.phase }, { on := 10, ground := Go.Ground.phase }, { on := 11, ground := Go.Ground.phase }], guard := none }) (v := ?_) rfl (by kernel_rfl) (by kernel_rfl) (by kernel_rfl) (fun _ _ _ h => h) (Or.inl ⟨by rfl, ?_⟩) (by assumption) ?_
    rotate_left 1
    focus ((intro wS hSw; (try dsimp only at hSw); go_simp) <;> (try with_reducible rfl))
    simp only [Act.put, List.setIfInBounds_toArray, List.set_cons_zero, List.set_cons_succ]
    refine wpAnyH_done (by kernel_rfl) ?_ _
    all_goals
      go_wp2_with fail
      go_ret
      have z4 : w4.heap.size = w2.heap.size := Z4.out
      have ox : Only (fun k => k = q) w2 w4 := by
        have d : Only (fun k => k = q) w2 w2.drew := .of_below (Below.refl _ _).drew (Nat.le_refl _)
        have u := U4.out
        exact d.trans ⟨u.os, u.tape, u.output, u.size, fun k hk hj => u.block k hk (by omega)⟩
      have hq2 : ∀ k, Grow S' w w2 k → k ≠ q := fun k hk h => hk.elim (fun h' => H5.out (h ▸ h')) (fun h' => by have := H6.out q H4.out; omega)
      have sx := S2.out.only ox hq2
      have z2 := Q2.out.size
      refine ⟨rfl, ⟨Grow S' w w2, cs, _, OB4.out, sx, fun k hk => hk.imp (H3.out k) (fun h => ⟨h.1, by omega⟩), .inl H4.out, fun h => hq2 q h rfl, fun k hk => hk.elim (fun h => by have := H6.out k h; omega) (fun h => h.2), by rw [KL.out.1]; have := H7.out; have := hL.out; omega⟩, ?_⟩
      exact (Q2.out.mono (fun k _ hk => H3.out k hk)).trans (ox.mono (fun k _ hk => hk ▸ H4.out))
  · have e1 : wwK F ys.length n err = 0 := if_neg he
    have e2 : wwE F ys.length n err = err := if_neg he
    have hne : (err != 0) = true := by simp [he]
    rw [e1, e2, List.take_zero, List.append_nil, Nat.add_zero]
    clear h1 h2 h3 h4 h5 h6 h7 hb hl hd e1 e2 c2
    go_enter Try.func29, Try.ntmps29
    go_wp2
    go_ret
    exact ⟨rfl, H.out.stay (Below.refl _ _)⟩

set_option maxHeartbeats 4000000 in
theorem wtr_pad {S : Nat → Prop} {q m : Nat} {ys : List Int} {F : Int} {o : Nat} {err : Int} (w : World) (h : Wtr w S q m ys F o err) (hn : ys.length ≤ 90000000) (hF : F ≤ 9223372036854775807) :
    Calls Try.prog 30 #[.pointer (some ⟨q, 0, none⟩)] w fun e w' => e = .returned (.int .i64 (wwE F ys.length (padN o) err)) ∧
      Wtr w' (Grow S w w') q m (ys ++ (zeros (padN o)).take (wwK F ys.length (padN o) err)) F (o + wwK F ys.length (padN o) err) (wwE F ys.length (padN o) err) ∧ Only S w w' := by
  have H := Lib.hid h
  obtain ⟨S', cs, r, h1, h2, h3, h4, h5, h6, h7⟩ := h
  have H1 := Lib.hid h1
  have ho : Hid (o ≤ 200000000000000) := by show _ ≤ _; omega
  obtain ⟨p, hp⟩ := named (padN o)
  have hp5 : p < 512 := by rw [hp.out]; unfold padN; omega
  obtain ⟨i0, HI⟩ := info_u8 (P := Try.prog) (e := 5) (by kernel_rfl)
  have HN := Lib.hid hn
  rw [← hp.out]
  clear h1 h2 h3 h4 h5 h6 h7 hn
  go_enter Try.func30, Try.ntmps30
  go_wp2_with fail
  refine (miss_any w H1.out ho.out).mono ?_; rintro e w1 ⟨rfl, rfl⟩
  rw [← hp.out]
  go_wp2_with (refine wpList_make_arr rfl _ _ 22 5 rfl Try.underlying22 i0 HI p rfl rfl (by omega) ?_; intro w2 h2 b2; have H2 := Lib.hid h2; have B2 := Lib.hid b2; clear h2 b2)
  obtain ⟨Z, hZ⟩ := named (zeros p)
  rw [← hZ.out] at H2
  have hlt := H.out.lt.1
  refine (wtr_write (some ⟨w.heap.size, 0, none⟩) p p Z w2 (H.out.below B2.out) H2.out.bytes (by rw [hZ.out, zeros_length]) (Nat.le_refl _) (by have := HN.out; omega) hF (fun x hx => .inr (by cases hx; intro h; have := hlt _ h; simp at this))).mono ?_; rintro e w3 ⟨rfl, s3, o3⟩
  go_wp2_with fail
  go_ret
  rw [← hZ.out]
  exact ⟨rfl, s3.wide B2.out.size hlt o3.size, (Only.of_below B2.out (Nat.le_refl _)).trans o3⟩

end Go.Proofs.Ytnnengigahakaaa
