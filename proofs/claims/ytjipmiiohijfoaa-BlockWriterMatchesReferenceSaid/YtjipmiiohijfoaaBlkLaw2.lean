/-
  BlockWriterMatchesReference, walked.
-/
import Derived.Test.YtjipmiiohijfoaaBlkAlive
import Derived.Test.YtjipmiiohijfoaaStructArg
import Derived.Test.YtjipmiiohijfoaaActsArg
import Derived.Test.YtjipmiiohijfoaaSwitch
namespace Go.Proofs.Ytjipmiiohijfoaa
open Go.RowKit

theorem RWr.told {w : World} {S : Nat → Prop} {q m : Nat} {ys : List Int} {F : Int} {o : Nat} {err : Int} (h : RWr w S q m ys F o err) (N : Nat) (hN : ys.length = N) (SZ : ByteArray) (hZ : SZ = strOfNums ys) :
    ∃ da dc, ∀ w', Below w.heap.size w w' → w'.cell? ⟨q, 1, none⟩ = some (.int .i64 o) ∧ w'.cell? ⟨m, 0, none⟩ = some (.slice da N dc) ∧ (convert 22 9 (.slice da N dc)).run Try.prog w' = .ok (.string SZ) w' := by
  obtain ⟨S', cs, r, g1, ⟨da, dc, sa, sc, h1, h2, _⟩, _⟩ := h
  refine ⟨da, dc, fun w' hb => ⟨(g1.below hb g1.lt).get 1 rfl, ?_, ?_⟩⟩
  · rw [← hN]; exact (h1.below hb h1.lt).get 0 rfl
  · rw [hZ]; exact run_str_in (P := Try.prog) Try.underlying22 Try.underlying5 Try.underlying9 (h2.below hb) N dc hN
theorem Wtr.le_F {w : World} {S : Nat → Prop} {q m : Nat} {ys : List Int} {F : Int} {o : Nat} {err : Int} (h : Wtr w S q m ys F o err) : 0 ≤ F → (ys.length : Int) ≤ F := by
  obtain ⟨S', cs, r, hs, _⟩ := h.sink
  exact hs.bytes.2.2.2.2
theorem wwK_le {F : Int} {L n : Nat} {err : Int} (hL : 0 ≤ F → (L : Int) ≤ F) : wwK F L n err ≤ n := by
  unfold wwK
  split
  · exact (allK_le F L n hL).1
  · exact Nat.zero_le _
theorem padN_lt (o : Nat) : padN o < 512 := by unfold padN; omega

set_option maxRecDepth 100000 in
set_option maxHeartbeats 16000000 in
theorem walk_BlockWriterMatchesReference (ca : Option Addr) (cl cc : Nat) (cs : List Int) (F : Int) (a : Option Addr) (len cap : Nat) (acts : List ActRow) (w : World) (hc : ArgInts .i64 w ca cl cc cs) (hwf : (Lit.int .i64 F).wf = true) (ha : ArgActs .i64 .i64 w a len cap acts) :
    Calls Try.prog 4 #[.agg #[.slice ca cl cc, .int .i64 F], .slice a len cap] w fun e w' => e = .returned (.bool true) ∧ Below w.heap.size w w' := by
  have HA := Lib.hid ha; have HI := Lib.hid hc.inK; have HCL := Lib.hid hc.1
  have hFF := (bounds_i64 hwf).2
  clear ha hc hwf
  by_cases h50 : (50 : Int) < len
  · go_enter Try.func4, Try.ntmps4
    go_wp2_with (first | (refine wpList_box_obj rfl 25 _ rfl [.slice ca cl cc, .int .i64 F] rfl ?_; intro w1 h1 b1; have H1 := Lib.hid h1; have B1 := Lib.hid b1; have c0 := h1.get 0 rfl; have c1 := h1.get 1 rfl; clear h1 b1))
    refine (alive_any _).mono ?_; rintro e w2 ⟨rfl, b2⟩
    go_wp2
    go_ret
    exact ⟨rfl, B1.out.trans (b2.mono B1.out.size)⟩
  · by_cases h300 : (300 : Int) < cl
    · go_enter Try.func4, Try.ntmps4
      go_wp2_with (first | (refine wpList_box_obj rfl 25 _ rfl [.slice ca cl cc, .int .i64 F] rfl ?_; intro w1 h1 b1; have H1 := Lib.hid h1; have B1 := Lib.hid b1; have c0 := h1.get 0 rfl; have c1 := h1.get 1 rfl; clear h1 b1))
      refine (alive_any _).mono ?_; rintro e w2 ⟨rfl, b2⟩
      go_wp2
      go_ret
      exact ⟨rfl, B1.out.trans (b2.mono B1.out.size)⟩
    · have hz : (Try.prog.info? 54).map (·.zero) = some (some (.agg [Value.int .i64 0, .slice none 0 0, .int .i64 0].toArray)) := by kernel_rfl
      have hs : (Try.prog.info? 54).map (·.size) = some 3 := by kernel_rfl
      have HZ := Lib.hid hz; have HZS := Lib.hid hs
      clear hz hs
      go_enter Try.func4, Try.ntmps4
      go_wp2_with (first | (refine wpList_box_obj rfl 25 _ rfl [.slice ca cl cc, .int .i64 F] rfl ?_; intro w1 h1 b1; have H1 := Lib.hid h1; have B1 := Lib.hid b1; have c0 := h1.get 0 rfl; have c1 := h1.get 1 rfl; clear h1 b1))
      have K0 : Hid (∀ w', Below w1.heap.size w1 w' → w'.cell? ⟨w.heap.size, 0, none⟩ = some (.slice ca cl cc) ∧ w'.cell? ⟨w.heap.size, 1, none⟩ = some (.int .i64 F)) := fun w' hb => ⟨(H1.out.below hb H1.out.lt).get 0 rfl, (H1.out.below hb H1.out.lt).get 1 rfl⟩
      have HA1 := Lib.hid (HA.out.below B1.out)
      clear c0 c1
      refine wp_region_held_drew (S := (fun w' => w'.cell? ⟨w.heap.size, 0, none⟩ = some (.slice ca cl cc) ∧ w'.cell? ⟨w.heap.size, 1, none⟩ = some (.int .i64 F))) (by kernel_rfl) (K0.out _ (Below.refl _ _).drew) (fun hHeld => ?_)
      refine wpAnyH_take (i := 0) (oi := { dst := some 23, op := Go.Op.load 25 (Go.Operand.tmp 2), type := 25, pos := "law.go:58", after := #[], guard := none }) (v := ?_) rfl (by kernel_rfl) (by kernel_rfl) (by kernel_rfl) (fun _ _ _ h => h) (Or.inl ⟨by rfl, ?_⟩) (by assumption) ?_
      rotate_left 1
      focus ((intro wS hSw; (try dsimp only at hSw); go_simp) <;> (try with_reducible rfl))
      simp only [Act.put, List.setIfInBounds_toArray, List.set_cons_zero, List.set_cons_succ]
      refine wpAnyH_take (i := 2) (oi := { dst := some 25, op := Go.Op.load 25 (Go.Operand.tmp 2), type := 25, pos := "law.go:58", after := #[], guard := none }) (v := ?_) rfl (by kernel_rfl) (by kernel_rfl) (by kernel_rfl) (fun _ _ _ h => h) (Or.inl ⟨by rfl, ?_⟩) (by assumption) ?_
      rotate_left 1
      focus ((intro wS hSw; (try dsimp only at hSw); go_simp) <;> (try with_reducible rfl))
      simp only [Act.put, List.setIfInBounds_toArray, List.set_cons_zero, List.set_cons_succ]
      refine wpAnyH_ready (rs := [1]) (by kernel_rfl) (by simp) ?_
      refine AllReadyH.cons (o := { dst := some 24, op := Go.Op.call { callee := Go.Callee.value (Go.Operand.func 16), args := #[Go.Operand.tmp 23], argTypes := #[25] }, type := 44, pos := "law.go:58", after := #[{ on := 0, ground := Go.Ground.data }], guard := none }) rfl (fun K hK => ?_) AllReadyH.nil
      go_simp
      refine (snk_new ca cl cc cs F _ ((HI.out.below B1.out).below (Below.refl _ _).drew) HCL.out (by omega)).mono ?_; rintro e w3 ⟨m, rfl, s3, b3⟩; have S3 := Lib.hid s3; have B3 := Lib.hid ((Below.refl w1.heap.size w1).drew.trans b3); clear s3 b3
      go_wp2_with fail
      refine hK.out _ _ (K0.out _ B3.out) (fun hHeld => ?_)
      clear hK K
      (try simp only [Act.put, List.setIfInBounds_toArray, List.set_cons_zero, List.set_cons_succ])
      refine wpAnyH_ready (rs := [3]) (by kernel_rfl) (by simp) ?_
      refine AllReadyH.cons (o := { dst := some 26, op := Go.Op.call { callee := Go.Callee.value (Go.Operand.func 17), args := #[Go.Operand.tmp 25], argTypes := #[25] }, type := 46, pos := "law.go:58", after := #[{ on := 2, ground := Go.Ground.data }, { on := 1, ground := Go.Ground.chain }], guard := none }) rfl (fun K hK => ?_) AllReadyH.nil
      go_simp
      refine (rsk_new ca cl cc cs F _ ((HI.out.below B1.out).below B3.out) HCL.out (by omega)).mono ?_; rintro e w4 ⟨t, rfl, s4, b4⟩; have R4 := Lib.hid s4; have B4 := Lib.hid b4; clear s4 b4
      go_wp2_with fail
      refine hK.out _ _ (K0.out _ (B3.out.trans (B4.out.mono B3.out.size))) (fun hHeld => ?_)
      clear hK K
      (try simp only [Act.put, List.setIfInBounds_toArray, List.set_cons_zero, List.set_cons_succ])
      refine wpAnyH_take (i := 4) (oi := { dst := some 5, op := Go.Op.assign (Go.Operand.tmp 24), type := 44, pos := "law.go:58", after := #[{ on := 1, ground := Go.Ground.data }, { on := 3, ground := Go.Ground.chain }, { on := 0, ground := Go.Ground.phase }, { on := 1, ground := Go.Ground.phase }, { on := 2, ground := Go.Ground.textOnly Go.Departure.lateStores }, { on := 3, ground := Go.Ground.textOnly Go.Departure.lateStoresUnsure }], guard := none }) (v := ?_) rfl (by kernel_rfl) (by kernel_rfl) (by kernel_rfl) (fun _ _ _ h => h) (Or.inl ⟨by rfl, ?_⟩) (by assumption) ?_
      rotate_left 1
      focus ((intro wS hSw; (try dsimp only at hSw); go_simp) <;> (try with_reducible rfl))
      simp only [Act.put, List.setIfInBounds_toArray, List.set_cons_zero, List.set_cons_succ]
      refine wpAnyH_take (i := 5) (oi := { dst := some 6, op := Go.Op.assign (Go.Operand.tmp 26), type := 46, pos := "law.go:58", after := #[{ on := 3, ground := Go.Ground.data }, { on := 4, ground := Go.Ground.chain }, { on := 0, ground := Go.Ground.phase }, { on := 1, ground := Go.Ground.phase }, { on := 2, ground := Go.Ground.phase }, { on := 3, ground := Go.Ground.phase }, { on := 4, ground := Go.Ground.phase }], guard := none }) (v := ?_) rfl (by kernel_rfl) (by kernel_rfl) (by kernel_rfl) (fun _ _ _ h => h) (Or.inl ⟨by rfl, ?_⟩) (by assumption) ?_
      rotate_left 1
      focus ((intro wS hSw; (try dsimp only at hSw); go_simp) <;> (try with_reducible rfl))
      simp only [Act.put, List.setIfInBounds_toArray, List.set_cons_zero, List.set_cons_succ]
      refine wpAnyH_done (by kernel_rfl) ?_ _
      have S4 := Lib.hid (S3.out.below B4.out)
      have Z3 := Lib.hid B3.out.size; have Z4 := Lib.hid B4.out.size
      have B14 := Lib.hid (B3.out.trans (B4.out.mono B3.out.size))
      go_wp2_with fail
      refine (wtr_new w4 S4.out).mono ?_; rintro e w5 ⟨g, rfl, s5, b5⟩
      have R5 := Lib.hid (R4.out.only (T := fun _ => False) (.of_below b5 (Nat.le_refl _)) (fun _ _ h => h))
      have W5 := Lib.hid s5; have B5 := Lib.hid b5
      clear s5 b5 R4 S4
      go_wp2_with (first | (refine wpList_box_obj rfl 52 _ rfl [.pointer (some ⟨t, 0, none⟩), .int .i64 0, .int .i64 0] rfl ?_; intro w6 h6 b6; have H6 := Lib.hid h6; have B6 := Lib.hid b6; clear h6 b6))
      obtain ⟨p, hp⟩ := named w5.heap.size
      rw [← hp.out]
      have hA1 : ∀ k, Grow (fun k => w1.heap.size ≤ k ∧ k < w3.heap.size) w4 w5 k → w1.heap.size ≤ k ∧ ¬ ((w3.heap.size ≤ k ∧ k < w4.heap.size) ∨ k = p) := fun k hk => by
        have z3 := Z3.out; have z4 := Z4.out; have hp' := hp.out
        have z5 := B5.out.size
        rcases hk with h | h
        · have h2 : w1.heap.size ≤ k ∧ k < w3.heap.size := h
          exact ⟨h2.1, fun h' => by omega⟩
        · have h2 : w4.heap.size ≤ k ∧ k < w5.heap.size := h
          exact ⟨by omega, fun h' => by omega⟩
      obtain ⟨S10, hS10⟩ := named (Grow (fun k => w1.heap.size ≤ k ∧ k < w3.heap.size) w4 w5)
      obtain ⟨S20, hS20⟩ := named (fun k => (w3.heap.size ≤ k ∧ k < w4.heap.size) ∨ k = p)
      have HS10 : Hid (∀ k, S10 k → w1.heap.size ≤ k ∧ ¬ S20 k) := by show ∀ _, _; rw [hS10.out, hS20.out]; exact hA1
      have HS20 : Hid (∀ k, S20 k → w1.heap.size ≤ k) := by
        show ∀ _, _
        rw [hS20.out]
        intro k hk
        have := Z3.out; have := Z4.out; have := B5.out.size; have := hp.out
        omega
      have W6 : Hid (Wtr w6 S10 g m [] F 0 0) := by show Wtr _ _ _ _ _ _ _ _; rw [hS10.out]; exact W5.out.below B6.out
      have R6 : Hid (RWr w6 S20 p t [] F 0 0) := by
        show RWr _ _ _ _ _ _ _ _
        rw [hS20.out, hp.out]
        have r6 := R5.out.only (T := fun _ => False) (.of_below B6.out (Nat.le_refl _)) (fun _ _ h => h)
        have l6 := H6.out.lt
        refine ⟨_, cs, 0, H6.out, r6, fun k hk => .inl hk, .inr rfl, fun h => ?_, fun k hk => ?_, Nat.le_refl _⟩
        · have h2 : w5.heap.size < w4.heap.size := h.2
          have := B5.out.size; omega
        · have z5 := B5.out.size
          rcases hk with h | h
          · have h2 : k < w4.heap.size := h.2
            omega
          · have h2 : k = w5.heap.size := h
            omega
      have B16 : Hid (Below w1.heap.size w1 w6) := by
        have b1 := B14.out.trans (B5.out.mono B14.out.size)
        exact b1.trans (B6.out.mono b1.size)
      clear hA1 hS10 hS20 R5 W5
      go_wp2_with fail
      go_loopw [40] (fun i wr => ∃ (S1 S2 : Nat → Prop) (ys : List Int) (o : Nat) (err : Int) (j : Nat), j ≤ len ∧ i = .int .i64 j ∧ ys.length ≤ 5000 * j ∧ (∀ k, S1 k → w1.heap.size ≤ k ∧ ¬ S2 k) ∧ (∀ k, S2 k → w1.heap.size ≤ k) ∧ Wtr wr S1 g m ys F o err ∧ RWr wr S2 p t ys F o err ∧ Below w1.heap.size w1 wr) (fun i _ => len - (intOf i).toNat)
      case atStart => exact ⟨S10, S20, [], 0, 0, 0, Nat.zero_le _, rfl, Nat.le_refl _, HS10.out, HS20.out, W6.out, R6.out, B16.out⟩
      case round =>
        obtain ⟨S1, S2, ys, o, err, j, hj, rfl, hyl, hS1, hS2, hw, hr, hbel⟩ := hrel
        have HS1 := Lib.hid hS1; have HS2 := Lib.hid hS2; have SS := Lib.hid hw; have RR := Lib.hid hr; have BR := Lib.hid hbel
        clear hS1 hS2 hw hr hbel
        by_cases hlt : j < len
        · obtain ⟨b, off, y, rfl, hb, hy, hmem, hact, c0, c1, c2⟩ := (HA1.out.below BR.out).get j hlt
          have hlt' : (j : Int) < len := by omega
          obtain ⟨kk, ⟨ba, bl, bc, bs⟩, nn⟩ := y
          have HBL : Hid (bs.length = bl) := hact.2.1.1
          have HBC : Hid (bl ≤ bc) := hact.2.1.2.1
          have HYA : Hid (∀ x, ba = some x → bs = [] ∨ x.block < w1.heap.size) := by
            obtain ⟨_, _, _, h4, _⟩ := HA1.out
            intro x hx
            rcases (h4 _ hmem).2.1.bytes with h | ⟨b', off', h1, h2, _⟩
            · exact .inl h
            · simp only at h1; rw [h1] at hx; cases hx; exact .inr h2
          have YBA : Hid (∀ w', Below w1.heap.size w1 w' → BytesIn w' ba bs) := by
            obtain ⟨_, _, _, h4, _⟩ := HA1.out
            exact fun w' hb => (h4 _ hmem).2.1.bytes.below hb
          have hys : ys.length ≤ 300000 := by omega
          have HYL := Lib.hid hyl
          clear hact hmem hy hyl
          by_cases hbl : 2000 < bl
          · have hbl' : (2000 : Int) < bl := by omega
            go_wp2_with fail
            have bb : ∀ ob, Below wr.heap.size wr (wr.alloc ob) := fun ob => (Below.refl _ _).alloc (Nat.le_refl _) _
            go_roundw
            case rel => exact ⟨S1, S2, ys, o, err, j + 1, Nat.succ_le_of_lt hlt, by go_num, Nat.le_trans HYL.out (Nat.mul_le_mul_left _ (Nat.le_succ j)), HS1.out, HS2.out, SS.out.below (bb _), RR.out.below (bb _), BR.out.trans ((bb _).mono BR.out.size)⟩
            case measure => clear hys; simp [intOf]; omega
          · have hbl' : ¬ (2000 : Int) < bl := by omega
            by_cases h9 : 9 < nn
            · by_cases h1024 : nn ≤ 1024
              · skip
                go_wp2_with fail
                have bb : ∀ ob, Below wr.heap.size wr (wr.alloc ob) := fun ob => (Below.refl _ _).alloc (Nat.le_refl _) _
                go_roundw
                case rel => exact ⟨S1, S2, ys, o, err, j + 1, Nat.succ_le_of_lt hlt, by go_num, Nat.le_trans HYL.out (Nat.mul_le_mul_left _ (Nat.le_succ j)), HS1.out, HS2.out, SS.out.below (bb _), RR.out.below (bb _), BR.out.trans ((bb _).mono BR.out.size)⟩
                case measure => clear hys; simp [intOf]; omega
              · skip
                by_cases hk0 : kk = 0
                · subst hk0
                  go_wp2_with (first | (refine wpList_alloc_obj rfl 54 rfl [.int .i64 0, .slice none 0 0, .int .i64 0] HZ.out ?_; intro v4 h4 b4; have H4 := Lib.hid h4; have B4' := Lib.hid b4; clear h4 b4) | (refine wpList_store_obj rfl 54 _ _ rfl wr.heap.size rfl [.int .i64 0, .slice ba bl bc, .int .i64 nn] [.int .i64 0, .slice none 0 0, .int .i64 0] rfl 54 H4.out HZS.out rfl (by intro v hv; simp at hv; rcases hv with rfl | rfl | rfl <;> rfl) ?_; intro v5 h5 t5; have OB5 := Lib.hid h5; have T5 := Lib.hid t5; have d0 := h5.get 0 rfl; have d1 := h5.get 1 rfl; have d2 := h5.get 2 rfl; clear h5 t5))
                  have bb : Below wr.heap.size wr v5 := B4'.out.trans (T5.out.below (Nat.le_refl _))
                  have WW5 := Lib.hid (SS.out.below bb); have RR5 := Lib.hid (RR.out.below bb)
                  have B45 := Lib.hid (BR.out.trans (bb.mono BR.out.size))
                  have hga : Hid (¬ S1 wr.heap.size ∧ ¬ S2 wr.heap.size) := ⟨fun h => Nat.lt_irrefl _ (SS.out.lt.1 _ h), fun h => Nat.lt_irrefl _ (RR.out.lt.1 _ h)⟩
                  clear bb d0 d1 d2 c0 c1 c2
                  obtain ⟨xs, hxs⟩ : ∃ xs, Hid (xs = bs) := ⟨_, rfl⟩
                  have XL : Hid (xs.length = bl) := by show _ = _; rw [hxs.out]; exact HBL.out
                  have hn5 : bl ≤ 5000 := by omega
                  rw [← hxs.out] at YBA HYA
                  obtain ⟨KB, hKB⟩ := named (wwK F ys.length bl err)
                  obtain ⟨V, hV⟩ := named (wwE F ys.length bl err)
                  have KBN : Hid (KB ≤ bl) := by show _ ≤ _; rw [hKB.out]; exact wwK_le SS.out.le_F
                  obtain ⟨O, hO⟩ : ∃ O, Hid (O = o + KB) := ⟨_, rfl⟩
                  refine wp_region_held_drew (S := (fun w' => w'.cell? ⟨wr.heap.size, 1, none⟩ = some (.slice ba bl bc))) (by kernel_rfl) ((OB5.out : ObjAt v5.drew wr.heap.size _ _).get 1 rfl) (fun hHeld => ?_)
                  refine wpAnyH_take (i := 0) (oi := { dst := some 71, op := Go.Op.move (Go.Operand.tmp 7), type := 48, pos := "law.go:70", after := #[], guard := none }) (v := ?_) rfl (by kernel_rfl) (by kernel_rfl) (by kernel_rfl) (fun _ _ _ h => h) (Or.inl ⟨by rfl, ?_⟩) (by assumption) ?_
                  rotate_left 1
                  focus ((intro wS hSw; (try dsimp only at hSw); go_simp) <;> (try with_reducible rfl))
                  simp only [Act.put, List.setIfInBounds_toArray, List.set_cons_zero, List.set_cons_succ]
                  refine wpAnyH_take (i := 1) (oi := { dst := some 72, op := Go.Op.fieldAddr 54 (Go.Operand.tmp 10) 1, type := 0, pos := "law.go:70", after := #[], guard := none }) (v := ?_) rfl (by kernel_rfl) (by kernel_rfl) (by kernel_rfl) (fun _ _ _ h => h) (Or.inl ⟨by rfl, ?_⟩) (by assumption) ?_
                  rotate_left 1
                  focus ((intro wS hSw; (try dsimp only at hSw); go_simp) <;> (try with_reducible rfl))
                  simp only [Act.put, List.setIfInBounds_toArray, List.set_cons_zero, List.set_cons_succ]
                  refine wpAnyH_take (i := 2) (oi := { dst := some 73, op := Go.Op.load 22 (Go.Operand.tmp 72), type := 22, pos := "law.go:70", after := #[{ on := 1, ground := Go.Ground.data }], guard := none }) (v := ?_) rfl (by kernel_rfl) (by kernel_rfl) (by kernel_rfl) (fun _ _ _ h => h) (Or.inl ⟨by rfl, ?_⟩) (by assumption) ?_
                  rotate_left 1
                  focus ((intro wS hSw; (try dsimp only at hSw); go_simp) <;> (try with_reducible rfl))
                  simp only [Act.put, List.setIfInBounds_toArray, List.set_cons_zero, List.set_cons_succ]
                  refine wpAnyH_take (i := 4) (oi := { dst := some 75, op := Go.Op.move (Go.Operand.tmp 8), type := 50, pos := "law.go:70", after := #[], guard := none }) (v := ?_) rfl (by kernel_rfl) (by kernel_rfl) (by kernel_rfl) (fun _ _ _ h => h) (Or.inl ⟨by rfl, ?_⟩) (by assumption) ?_
                  rotate_left 1
                  focus ((intro wS hSw; (try dsimp only at hSw); go_simp) <;> (try with_reducible rfl))
                  simp only [Act.put, List.setIfInBounds_toArray, List.set_cons_zero, List.set_cons_succ]
                  refine wpAnyH_take (i := 5) (oi := { dst := some 76, op := Go.Op.fieldAddr 54 (Go.Operand.tmp 10) 1, type := 0, pos := "law.go:70", after := #[], guard := none }) (v := ?_) rfl (by kernel_rfl) (by kernel_rfl) (by kernel_rfl) (fun _ _ _ h => h) (Or.inl ⟨by rfl, ?_⟩) (by assumption) ?_
                  rotate_left 1
                  focus ((intro wS hSw; (try dsimp only at hSw); go_simp) <;> (try with_reducible rfl))
                  simp only [Act.put, List.setIfInBounds_toArray, List.set_cons_zero, List.set_cons_succ]
                  refine wpAnyH_take (i := 6) (oi := { dst := some 77, op := Go.Op.load 22 (Go.Operand.tmp 76), type := 22, pos := "law.go:70", after := #[{ on := 5, ground := Go.Ground.data }], guard := none }) (v := ?_) rfl (by kernel_rfl) (by kernel_rfl) (by kernel_rfl) (fun _ _ _ h => h) (Or.inl ⟨by rfl, ?_⟩) (by assumption) ?_
                  rotate_left 1
                  focus ((intro wS hSw; (try dsimp only at hSw); go_simp) <;> (try with_reducible rfl))
                  simp only [Act.put, List.setIfInBounds_toArray, List.set_cons_zero, List.set_cons_succ]
                  refine wpAnyH_ready (rs := [3]) (by kernel_rfl) (by simp) ?_
                  refine AllReadyH.cons (o := { dst := some 74, op := Go.Op.call { callee := Go.Callee.value (Go.Operand.func 19), args := #[Go.Operand.tmp 71, Go.Operand.tmp 73], argTypes := #[48, 22] }, type := 36, pos := "law.go:70", after := #[{ on := 0, ground := Go.Ground.data }, { on := 2, ground := Go.Ground.data }], guard := none }) rfl (fun K hK => ?_) AllReadyH.nil
                  go_simp
                  refine (wtr_write ba bl bc xs _ (WW5.out.below (Below.refl _ _).drew) (YBA.out _ (B45.out.trans (Below.refl _ _).drew)) XL.out HBC.out (by omega) hFF (fun x hx => (HYA.out x hx).imp id fun h hs => by have := (HS1.out _ hs).1; omega)).mono ?_; rintro e v6 ⟨rfl, s5, o5⟩; rw [← hKB.out, ← hV.out, ← hO.out] at s5; rw [← hV.out]; have W5 : Hid (Wtr v6 (Grow S1 v5 v6) g m (ys ++ xs.take KB) F O V) := s5; have o5' := (Only.of_below (S := S1) (Below.refl _ _).drew (Nat.le_refl _)).trans o5; have R5 := Lib.hid (RR5.out.only o5' (fun k hk h => (HS1.out k h).2 hk)); have B5 := Lib.hid (B45.out.trans (o5'.below (B := w1.heap.size) (fun k hk => (HS1.out k hk).1) B45.out.size)); have OB := Lib.hid (OB5.out.only o5' (fun h => hga.out.1 h)); clear s5 o5 o5'
                  go_wp2_with fail
                  refine hK.out _ _ (OB.out.get 1 rfl) (fun hHeld => ?_)
                  clear hK K
                  (try simp only [Act.put, List.setIfInBounds_toArray, List.set_cons_zero, List.set_cons_succ])
                  refine wpAnyH_ready (rs := [7]) (by kernel_rfl) (by simp) ?_
                  refine AllReadyH.cons (o := { dst := some 78, op := Go.Op.call { callee := Go.Callee.value (Go.Operand.func 20), args := #[Go.Operand.tmp 75, Go.Operand.tmp 77], argTypes := #[50, 22] }, type := 3, pos := "law.go:70", after := #[{ on := 4, ground := Go.Ground.data }, { on := 6, ground := Go.Ground.data }, { on := 3, ground := Go.Ground.chain }], guard := none }) rfl (fun K hK => ?_) AllReadyH.nil
                  go_simp
                  refine (rwr_write ba bl bc xs _ R5.out (YBA.out _ B5.out) XL.out HBC.out (by omega) hFF (fun x hx => (HYA.out x hx).imp id fun h hs => by have := HS2.out _ hs; omega)).mono ?_; rintro e v8 ⟨rfl, s6, o6⟩; rw [← hKB.out, ← hV.out, ← hO.out] at s6; rw [← hV.out]; have S6 := Lib.hid s6; have Q6 := Lib.hid o6; have OB' := Lib.hid (OB.out.only o6 (fun h => hga.out.2 h)); clear s6 o6
                  go_wp2_with fail
                  refine hK.out _ _ (OB'.out.get 1 rfl) (fun hHeld => ?_)
                  clear hK K
                  (try simp only [Act.put, List.setIfInBounds_toArray, List.set_cons_zero, List.set_cons_succ])
                  refine wpAnyH_take (i := 8) (oi := { dst := some 11, op := Go.Op.assign (Go.Operand.tmp 74), type := 36, pos := "law.go:70", after := #[{ on := 3, ground := Go.Ground.data }, { on := 7, ground := Go.Ground.chain }, { on := 0, ground := Go.Ground.phase }, { on := 1, ground := Go.Ground.phase }, { on := 2, ground := Go.Ground.phase }, { on := 3, ground := Go.Ground.phase }, { on := 4, ground := Go.Ground.textOnly Go.Departure.lateStores }, { on := 5, ground := Go.Ground.textOnly Go.Departure.lateStores }, { on := 6, ground := Go.Ground.textOnly Go.Departure.lateStores }, { on := 7, ground := Go.Ground.textOnly Go.Departure.lateStoresUnsure }], guard := none }) (v := ?_) rfl (by kernel_rfl) (by kernel_rfl) (by kernel_rfl) (fun _ _ _ h => h) (Or.inl ⟨by rfl, ?_⟩) (by assumption) ?_
                  rotate_left 1
                  focus ((intro wS hSw; (try dsimp only at hSw); go_simp) <;> (try with_reducible rfl))
                  simp only [Act.put, List.setIfInBounds_toArray, List.set_cons_zero, List.set_cons_succ]
                  refine wpAnyH_take (i := 9) (oi := { dst := some 12, op := Go.Op.assign (Go.Operand.tmp 78), type := 3, pos := "law.go:70", after := #[{ on := 7, ground := Go.Ground.data }, { on := 8, ground := Go.Ground.chain }, { on := 0, ground := Go.Ground.phase }, { on := 1, ground := Go.Ground.phase }, { on := 2, ground := Go.Ground.phase }, { on := 3, ground := Go.Ground.phase }, { on := 4, ground := Go.Ground.phase }, { on := 5, ground := Go.Ground.phase }, { on := 6, ground := Go.Ground.phase }, { on := 7, ground := Go.Ground.phase }, { on := 8, ground := Go.Ground.phase }], guard := none }) (v := ?_) rfl (by kernel_rfl) (by kernel_rfl) (by kernel_rfl) (fun _ _ _ h => h) (Or.inl ⟨by rfl, ?_⟩) (by assumption) ?_
                  rotate_left 1
                  focus ((intro wS hSw; (try dsimp only at hSw); go_simp) <;> (try with_reducible rfl))
                  simp only [Act.put, List.setIfInBounds_toArray, List.set_cons_zero, List.set_cons_succ]
                  refine wpAnyH_done (by kernel_rfl) ?_ _
                  have s6 := S6.out; have o6 := Q6.out
                  have hG : Hid (∀ k, Grow S1 v5 v6 k → w1.heap.size ≤ k ∧ ¬ S2 k) := fun k hk => hk.elim (HS1.out k) (fun h => ⟨Nat.le_trans B45.out.size h.1, fun h2 => by have := RR5.out.lt.1 k h2; omega⟩)
                  obtain ⟨Y, hY⟩ := named (ys ++ xs.take KB)
                  rw [← hY.out] at s6 W5
                  have R8 := Lib.hid s6
                  have W8 := Lib.hid (W5.out.only o6 (fun k hk h => (hG.out k hk).2 h))
                  have B8 := Lib.hid (B5.out.trans (o6.below (B := w1.heap.size) HS2.out B5.out.size))
                  obtain ⟨T1, hT1⟩ := named (Grow S1 v5 v6)
                  obtain ⟨T2, hT2⟩ := named (Grow S2 v6 v8)
                  have HT1 : Hid (∀ k, T1 k → w1.heap.size ≤ k ∧ ¬ T2 k) := by
                    show ∀ _, _
                    rw [hT1.out, hT2.out]
                    exact fun k hk => ⟨(hG.out k hk).1, fun h => h.elim (hG.out k hk).2 (fun h => by have := W5.out.lt.1 k hk; omega)⟩
                  have HT2 : Hid (∀ k, T2 k → w1.heap.size ≤ k) := by
                    show ∀ _, _
                    rw [hT2.out]
                    exact fun k hk => hk.elim (HS2.out k) (fun h => Nat.le_trans B5.out.size h.1)
                  rw [← hT1.out] at W8
                  rw [← hT2.out] at R8
                  have YN : Hid (Y.length ≤ 5000 * (j + 1)) := by
                    show _ ≤ _
                    have h1 : (xs.take KB).length ≤ 5000 := Nat.le_trans (by rw [List.length_take]; exact Nat.min_le_left _ _) (Nat.le_trans KBN.out hn5)
                    rw [hY.out, List.length_append, Nat.mul_succ]
                    exact Nat.add_le_add HYL.out h1
                  clear s6 o6
                  obtain ⟨N, hN⟩ : ∃ N, Hid (N = Y.length) := ⟨_, rfl⟩
                  have YL : Hid (Y.length = N) := hN.out.symm
                  obtain ⟨S', cs', r', hs', _, _⟩ := W8.out.sink
                  have SX := Lib.hid hs'
                  have YB : Hid (Bytes Y) := hs'.bytes.1
                  obtain ⟨SZ, hSZ⟩ := named (strOfNums Y)
                  obtain ⟨da, dc, k8⟩ := R8.out.told N YL.out SZ hSZ.out
                  have K8 := Lib.hid k8
                  have N8 : (N : Int) ≤ 100000000 := by have := SX.out.bytes.2.1; have := YL.out; omega
                  clear hs' k8
                  go_wp2_with fail
                  refine wp_region_held_drew (S := (fun w' => w'.cell? ⟨p, 1, none⟩ = some (.int .i64 O) ∧ w'.cell? ⟨t, 0, none⟩ = some (.slice da N dc) ∧ (convert 22 9 (.slice da N dc)).run Try.prog w' = .ok (.string SZ) w')) (by kernel_rfl) (K8.out _ (Below.refl _ _).drew) (fun hHeld => ?_)
                  refine wpAnyH_take (i := 0) (oi := { dst := some 87, op := Go.Op.move (Go.Operand.tmp 11), type := 36, pos := "law.go:76", after := #[], guard := none }) (v := ?_) rfl (by kernel_rfl) (by kernel_rfl) (by kernel_rfl) (fun _ _ _ h => h) (Or.inl ⟨by rfl, ?_⟩) (by assumption) ?_
                  rotate_left 1
                  focus ((intro wS hSw; (try dsimp only at hSw); go_simp) <;> (try with_reducible rfl))
                  simp only [Act.put, List.setIfInBounds_toArray, List.set_cons_zero, List.set_cons_succ]
                  refine wpAnyH_take (i := 1) (oi := { dst := some 88, op := Go.Op.move (Go.Operand.tmp 12), type := 3, pos := "law.go:76", after := #[], guard := none }) (v := ?_) rfl (by kernel_rfl) (by kernel_rfl) (by kernel_rfl) (fun _ _ _ h => h) (Or.inl ⟨by rfl, ?_⟩) (by assumption) ?_
                  rotate_left 1
                  focus ((intro wS hSw; (try dsimp only at hSw); go_simp) <;> (try with_reducible rfl))
                  simp only [Act.put, List.setIfInBounds_toArray, List.set_cons_zero, List.set_cons_succ]
                  refine wpAnyH_take (i := 2) (oi := { dst := some 89, op := Go.Op.binOp Go.BinOp.neq 3 (Go.Operand.tmp 87) (Go.Operand.tmp 88) 3, type := 4, pos := "law.go:76", after := #[{ on := 0, ground := Go.Ground.data }, { on := 1, ground := Go.Ground.data }], guard := none }) (v := ?_) rfl (by kernel_rfl) (by kernel_rfl) (by kernel_rfl) (fun _ _ _ h => h) (Or.inl ⟨by rfl, ?_⟩) (by assumption) ?_
                  rotate_left 1
                  focus ((intro wS hSw; (try dsimp only at hSw); go_simp) <;> (try with_reducible rfl))
                  simp only [Act.put, List.setIfInBounds_toArray, List.set_cons_zero, List.set_cons_succ]
                  refine wpAnyH_take (i := 3) (oi := { dst := some 90, op := Go.Op.move (Go.Operand.tmp 89), type := 4, pos := "law.go:76", after := #[{ on := 2, ground := Go.Ground.data }], guard := none }) (v := ?_) rfl (by kernel_rfl) (by kernel_rfl) (by kernel_rfl) (fun _ _ _ h => h) (Or.inl ⟨by rfl, ?_⟩) (by assumption) ?_
                  rotate_left 1
                  focus ((intro wS hSw; (try dsimp only at hSw); go_simp) <;> (try with_reducible rfl))
                  simp only [Act.put, List.setIfInBounds_toArray, List.set_cons_zero, List.set_cons_succ]
                  refine wpAnyH_take (i := 4) (oi := { dst := some 91, op := Go.Op.move (Go.Operand.tmp 7), type := 48, pos := "law.go:76", after := #[{ on := 3, ground := Go.Ground.guard }], guard := some (3, false) }) (v := ?_) rfl (by kernel_rfl) (by kernel_rfl) (by kernel_rfl) (fun _ _ _ h => h) (Or.inl ⟨by rfl, ?_⟩) (by assumption) ?_
                  rotate_left 1
                  focus ((intro wS hSw; (try dsimp only at hSw); go_simp) <;> (try with_reducible rfl))
                  simp only [Act.put, List.setIfInBounds_toArray, List.set_cons_zero, List.set_cons_succ]
                  refine wpAnyH_take (i := 6) (oi := { dst := some 93, op := Go.Op.move (Go.Operand.tmp 8), type := 50, pos := "law.go:76", after := #[{ on := 3, ground := Go.Ground.guard }], guard := some (3, false) }) (v := ?_) rfl (by kernel_rfl) (by kernel_rfl) (by kernel_rfl) (fun _ _ _ h => h) (Or.inl ⟨by rfl, ?_⟩) (by assumption) ?_
                  rotate_left 1
                  focus ((intro wS hSw; (try dsimp only at hSw); go_simp) <;> (try with_reducible rfl))
                  simp only [Act.put, List.setIfInBounds_toArray, List.set_cons_zero, List.set_cons_succ]
                  refine wpAnyH_take (i := 7) (oi := { dst := some 94, op := Go.Op.nilCheck (Go.Operand.tmp 93), type := 0, pos := "law.go:76", after := #[{ on := 6, ground := Go.Ground.data }, { on := 3, ground := Go.Ground.guard }], guard := some (3, false) }) (v := ?_) rfl (by kernel_rfl) (by kernel_rfl) (by kernel_rfl) (fun _ _ _ h => h) (Or.inl ⟨by rfl, ?_⟩) (by assumption) ?_
                  rotate_left 1
                  focus ((intro wS hSw; (try dsimp only at hSw); go_simp) <;> (try with_reducible rfl))
                  simp only [Act.put, List.setIfInBounds_toArray, List.set_cons_zero, List.set_cons_succ]
                  refine wpAnyH_take (i := 8) (oi := { dst := some 95, op := Go.Op.fieldAddr 52 (Go.Operand.tmp 94) 1, type := 0, pos := "law.go:76", after := #[{ on := 7, ground := Go.Ground.data }, { on := 3, ground := Go.Ground.guard }], guard := some (3, false) }) (v := ?_) rfl (by kernel_rfl) (by kernel_rfl) (by kernel_rfl) (fun _ _ _ h => h) (Or.inl ⟨by rfl, ?_⟩) (by assumption) ?_
                  rotate_left 1
                  focus ((intro wS hSw; (try dsimp only at hSw); go_simp) <;> (try with_reducible rfl))
                  simp only [Act.put, List.setIfInBounds_toArray, List.set_cons_zero, List.set_cons_succ]
                  refine wpAnyH_take (i := 9) (oi := { dst := some 96, op := Go.Op.load 2 (Go.Operand.tmp 95), type := 2, pos := "law.go:76", after := #[{ on := 8, ground := Go.Ground.data }, { on := 3, ground := Go.Ground.guard }], guard := some (3, false) }) (v := ?_) rfl (by kernel_rfl) (by kernel_rfl) (by kernel_rfl) (fun _ _ _ h => h) (Or.inl ⟨by rfl, ?_⟩) (by assumption) ?_
                  rotate_left 1
                  focus ((intro wS hSw; (try dsimp only at hSw); go_simp) <;> (try with_reducible rfl))
                  simp only [Act.put, List.setIfInBounds_toArray, List.set_cons_zero, List.set_cons_succ]
                  refine wpAnyH_ready (rs := [5]) (by kernel_rfl) (by simp) ?_
                  refine AllReadyH.cons (o := { dst := some 92, op := Go.Op.call { callee := Go.Callee.value (Go.Operand.func 25), args := #[Go.Operand.tmp 91], argTypes := #[48] }, type := 2, pos := "law.go:76", after := #[{ on := 4, ground := Go.Ground.data }, { on := 3, ground := Go.Ground.chain }, { on := 3, ground := Go.Ground.guard }], guard := some (3, false) }) rfl (fun K hK => ?_) AllReadyH.nil
                  go_simp
                  refine (wtr_off v8.drew (W8.out.below (Below.refl _ _).drew)).mono ?_; rintro e w9 ⟨rfl, rfl⟩
                  go_wp2_with fail
                  refine hK.out _ _ (K8.out _ (Below.refl _ _).drew) (fun hHeld => ?_)
                  clear hK K
                  (try simp only [Act.put, List.setIfInBounds_toArray, List.set_cons_zero, List.set_cons_succ])
                  refine wpAnyH_take (i := 10) (oi := { dst := some 97, op := Go.Op.binOp Go.BinOp.neq 2 (Go.Operand.tmp 92) (Go.Operand.tmp 96) 2, type := 4, pos := "law.go:76", after := #[{ on := 5, ground := Go.Ground.data }, { on := 9, ground := Go.Ground.data }, { on := 3, ground := Go.Ground.guard }], guard := some (3, false) }) (v := ?_) rfl (by kernel_rfl) (by kernel_rfl) (by kernel_rfl) (fun _ _ _ h => h) (Or.inl ⟨by rfl, ?_⟩) (by assumption) ?_
                  rotate_left 1
                  focus ((intro wS hSw; (try dsimp only at hSw); go_simp) <;> (try with_reducible rfl))
                  simp only [Act.put, List.setIfInBounds_toArray, List.set_cons_zero, List.set_cons_succ]
                  refine wpAnyH_take (i := 11) (oi := { dst := some 98, op := Go.Op.pick (Go.Operand.tmp 90) (Go.Operand.const (Go.Value.bool true)) (Go.Operand.tmp 97), type := 4, pos := "law.go:76", after := #[{ on := 3, ground := Go.Ground.data }, { on := 10, ground := Go.Ground.data }], guard := none }) (v := ?_) rfl (by kernel_rfl) (by kernel_rfl) (by kernel_rfl) (fun _ _ _ h => h) (Or.inl ⟨by rfl, ?_⟩) (by assumption) ?_
                  rotate_left 1
                  focus ((intro wS hSw; (try dsimp only at hSw); go_simp) <;> (try with_reducible rfl))
                  simp only [Act.put, List.setIfInBounds_toArray, List.set_cons_zero, List.set_cons_succ]
                  refine wpAnyH_take (i := 12) (oi := { dst := some 99, op := Go.Op.move (Go.Operand.tmp 98), type := 4, pos := "law.go:76", after := #[{ on := 11, ground := Go.Ground.data }, { on := 5, ground := Go.Ground.chain }], guard := none }) (v := ?_) rfl (by kernel_rfl) (by kernel_rfl) (by kernel_rfl) (fun _ _ _ h => h) (Or.inl ⟨by rfl, ?_⟩) (by assumption) ?_
                  rotate_left 1
                  focus ((intro wS hSw; (try dsimp only at hSw); go_simp) <;> (try with_reducible rfl))
                  simp only [Act.put, List.setIfInBounds_toArray, List.set_cons_zero, List.set_cons_succ]
                  refine wpAnyH_take (i := 13) (oi := { dst := some 100, op := Go.Op.move (Go.Operand.tmp 5), type := 44, pos := "law.go:76", after := #[{ on := 12, ground := Go.Ground.guard }], guard := some (12, false) }) (v := ?_) rfl (by kernel_rfl) (by kernel_rfl) (by kernel_rfl) (fun _ _ _ h => h) (Or.inl ⟨by rfl, ?_⟩) (by assumption) ?_
                  rotate_left 1
                  focus ((intro wS hSw; (try dsimp only at hSw); go_simp) <;> (try with_reducible rfl))
                  simp only [Act.put, List.setIfInBounds_toArray, List.set_cons_zero, List.set_cons_succ]
                  refine wpAnyH_take (i := 16) (oi := { dst := some 103, op := Go.Op.move (Go.Operand.tmp 6), type := 46, pos := "law.go:76", after := #[{ on := 12, ground := Go.Ground.guard }], guard := some (12, false) }) (v := ?_) rfl (by kernel_rfl) (by kernel_rfl) (by kernel_rfl) (fun _ _ _ h => h) (Or.inl ⟨by rfl, ?_⟩) (by assumption) ?_
                  rotate_left 1
                  focus ((intro wS hSw; (try dsimp only at hSw); go_simp) <;> (try with_reducible rfl))
                  simp only [Act.put, List.setIfInBounds_toArray, List.set_cons_zero, List.set_cons_succ]
                  refine wpAnyH_take (i := 17) (oi := { dst := some 104, op := Go.Op.nilCheck (Go.Operand.tmp 103), type := 0, pos := "law.go:76", after := #[{ on := 16, ground := Go.Ground.data }, { on := 12, ground := Go.Ground.guard }], guard := some (12, false) }) (v := ?_) rfl (by kernel_rfl) (by kernel_rfl) (by kernel_rfl) (fun _ _ _ h => h) (Or.inl ⟨by rfl, ?_⟩) (by assumption) ?_
                  rotate_left 1
                  focus ((intro wS hSw; (try dsimp only at hSw); go_simp) <;> (try with_reducible rfl))
                  simp only [Act.put, List.setIfInBounds_toArray, List.set_cons_zero, List.set_cons_succ]
                  refine wpAnyH_take (i := 18) (oi := { dst := some 105, op := Go.Op.fieldAddr 63 (Go.Operand.tmp 104) 0, type := 0, pos := "law.go:76", after := #[{ on := 17, ground := Go.Ground.data }, { on := 12, ground := Go.Ground.guard }], guard := some (12, false) }) (v := ?_) rfl (by kernel_rfl) (by kernel_rfl) (by kernel_rfl) (fun _ _ _ h => h) (Or.inl ⟨by rfl, ?_⟩) (by assumption) ?_
                  rotate_left 1
                  focus ((intro wS hSw; (try dsimp only at hSw); go_simp) <;> (try with_reducible rfl))
                  simp only [Act.put, List.setIfInBounds_toArray, List.set_cons_zero, List.set_cons_succ]
                  refine wpAnyH_take (i := 19) (oi := { dst := some 106, op := Go.Op.load 22 (Go.Operand.tmp 105), type := 22, pos := "law.go:76", after := #[{ on := 18, ground := Go.Ground.data }, { on := 12, ground := Go.Ground.guard }], guard := some (12, false) }) (v := ?_) rfl (by kernel_rfl) (by kernel_rfl) (by kernel_rfl) (fun _ _ _ h => h) (Or.inl ⟨by rfl, ?_⟩) (by assumption) ?_
                  rotate_left 1
                  focus ((intro wS hSw; (try dsimp only at hSw); go_simp) <;> (try with_reducible rfl))
                  simp only [Act.put, List.setIfInBounds_toArray, List.set_cons_zero, List.set_cons_succ]
                  refine wpAnyH_take (i := 20) (oi := { dst := some 107, op := Go.Op.convert 22 9 (Go.Operand.tmp 106), type := 9, pos := "law.go:76", after := #[{ on := 19, ground := Go.Ground.data }, { on := 12, ground := Go.Ground.guard }], guard := some (12, false) }) (v := ?_) rfl (by kernel_rfl) (by kernel_rfl) (by kernel_rfl) (fun _ _ _ h => h) (Or.inl ⟨by rfl, ?_⟩) (by assumption) ?_
                  rotate_left 1
                  focus ((intro wS hSw; (try dsimp only at hSw); go_simp) <;> (try with_reducible rfl))
                  simp only [Act.put, List.setIfInBounds_toArray, List.set_cons_zero, List.set_cons_succ]
                  refine wpAnyH_ready (rs := [14]) (by kernel_rfl) (by simp) ?_
                  refine AllReadyH.cons (o := { dst := some 101, op := Go.Op.call { callee := Go.Callee.value (Go.Operand.func 26), args := #[Go.Operand.tmp 100], argTypes := #[44] }, type := 22, pos := "law.go:76", after := #[{ on := 13, ground := Go.Ground.data }, { on := 12, ground := Go.Ground.chain }, { on := 12, ground := Go.Ground.guard }], guard := some (12, false) }) rfl (fun K hK => ?_) AllReadyH.nil
                  go_simp
                  refine (sbytes_any v8.drew (SX.out.below (Below.refl _ _).drew)).mono ?_; rintro e v9 ⟨vv, rfl, o9, k9⟩; rw [YL.out] at o9; obtain ⟨a9, c9, rfl, x9, _⟩ := own_bytes o9 YB.out; have V9 := Lib.hid ((Below.refl v8.heap.size v8).drew.trans k9); have HC9 := Lib.hid (run_str_in (P := Try.prog) Try.underlying22 Try.underlying5 Try.underlying9 x9 N c9 YL.out); rw [← hSZ.out] at HC9; clear o9 k9 x9
                  go_wp2_with fail
                  refine hK.out _ _ (K8.out _ V9.out) (fun hHeld => ?_)
                  clear hK K
                  (try simp only [Act.put, List.setIfInBounds_toArray, List.set_cons_zero, List.set_cons_succ])
                  refine wpAnyH_switch (S2 := (fun w' => (convert 22 9 (.slice a9 N c9)).run Try.prog w' = .ok (.string SZ) w' ∧ w'.cell? ⟨p, 1, none⟩ = some (.int .i64 O) ∧ w'.cell? ⟨t, 0, none⟩ = some (.slice da N dc) ∧ (convert 22 9 (.slice da N dc)).run Try.prog w' = .ok (.string SZ) w')) (fun _ h => h.2) ?_
                  have hHeld : ((fun w' => (convert 22 9 (.slice a9 N c9)).run Try.prog w' = .ok (.string SZ) w' ∧ w'.cell? ⟨p, 1, none⟩ = some (.int .i64 O) ∧ w'.cell? ⟨t, 0, none⟩ = some (.slice da N dc) ∧ (convert 22 9 (.slice da N dc)).run Try.prog w' = .ok (.string SZ) w')) _ := ⟨HC9.out, K8.out _ V9.out⟩
                  refine wpAnyH_take (i := 15) (oi := { dst := some 102, op := Go.Op.convert 22 9 (Go.Operand.tmp 101), type := 9, pos := "law.go:76", after := #[{ on := 14, ground := Go.Ground.data }, { on := 12, ground := Go.Ground.guard }], guard := some (12, false) }) (v := ?_) rfl (by kernel_rfl) (by kernel_rfl) (by kernel_rfl) (fun _ _ _ h => h) (Or.inl ⟨by rfl, ?_⟩) (by assumption) ?_
                  rotate_left 1
                  focus ((intro wS hSw; (try dsimp only at hSw); go_simp) <;> (try with_reducible rfl))
                  simp only [Act.put, List.setIfInBounds_toArray, List.set_cons_zero, List.set_cons_succ]
                  refine wpAnyH_take (i := 21) (oi := { dst := some 108, op := Go.Op.binOp Go.BinOp.neq 9 (Go.Operand.tmp 102) (Go.Operand.tmp 107) 9, type := 4, pos := "law.go:76", after := #[{ on := 15, ground := Go.Ground.data }, { on := 20, ground := Go.Ground.data }, { on := 12, ground := Go.Ground.guard }], guard := some (12, false) }) (v := ?_) rfl (by kernel_rfl) (by kernel_rfl) (by kernel_rfl) (fun _ _ _ h => h) (Or.inl ⟨by rfl, ?_⟩) (by assumption) ?_
                  rotate_left 1
                  focus ((intro wS hSw; (try dsimp only at hSw); go_simp) <;> (try with_reducible rfl))
                  simp only [Act.put, List.setIfInBounds_toArray, List.set_cons_zero, List.set_cons_succ]
                  refine wpAnyH_take (i := 22) (oi := { dst := some 109, op := Go.Op.pick (Go.Operand.tmp 99) (Go.Operand.const (Go.Value.bool true)) (Go.Operand.tmp 108), type := 4, pos := "law.go:76", after := #[{ on := 12, ground := Go.Ground.data }, { on := 21, ground := Go.Ground.data }], guard := none }) (v := ?_) rfl (by kernel_rfl) (by kernel_rfl) (by kernel_rfl) (fun _ _ _ h => h) (Or.inl ⟨by rfl, ?_⟩) (by assumption) ?_
                  rotate_left 1
                  focus ((intro wS hSw; (try dsimp only at hSw); go_simp) <;> (try with_reducible rfl))
                  simp only [Act.put, List.setIfInBounds_toArray, List.set_cons_zero, List.set_cons_succ]
                  refine wpAnyH_done (by kernel_rfl) ?_ _
                  go_wp2_with fail
                  go_roundw
                  case rel => exact ⟨T1, T2, Y, O, V, j + 1, Nat.succ_le_of_lt hlt, by go_num, YN.out, HT1.out, HT2.out, W8.out.below V9.out, R8.out.below V9.out, B8.out.trans (V9.out.mono B8.out.size)⟩
                  case measure => clear hys; simp [intOf]; omega
                · by_cases hk1 : kk = 1
                  · subst hk1
                    go_wp2_with (first | (refine wpList_alloc_obj rfl 54 rfl [.int .i64 0, .slice none 0 0, .int .i64 0] HZ.out ?_; intro v4 h4 b4; have H4 := Lib.hid h4; have B4' := Lib.hid b4; clear h4 b4) | (refine wpList_store_obj rfl 54 _ _ rfl wr.heap.size rfl [.int .i64 1, .slice ba bl bc, .int .i64 nn] [.int .i64 0, .slice none 0 0, .int .i64 0] rfl 54 H4.out HZS.out rfl (by intro v hv; simp at hv; rcases hv with rfl | rfl | rfl <;> rfl) ?_; intro v5 h5 t5; have OB5 := Lib.hid h5; have T5 := Lib.hid t5; have d0 := h5.get 0 rfl; have d1 := h5.get 1 rfl; have d2 := h5.get 2 rfl; clear h5 t5))
                    have bb : Below wr.heap.size wr v5 := B4'.out.trans (T5.out.below (Nat.le_refl _))
                    have WW5 := Lib.hid (SS.out.below bb); have RR5 := Lib.hid (RR.out.below bb)
                    have B45 := Lib.hid (BR.out.trans (bb.mono BR.out.size))
                    have hga : Hid (¬ S1 wr.heap.size ∧ ¬ S2 wr.heap.size) := ⟨fun h => Nat.lt_irrefl _ (SS.out.lt.1 _ h), fun h => Nat.lt_irrefl _ (RR.out.lt.1 _ h)⟩
                    clear bb d0 d1 d2 c0 c1 c2
                    obtain ⟨n, hn⟩ : ∃ n : Nat, n = padN o := ⟨_, rfl⟩
                    obtain ⟨xs, hxs⟩ : ∃ xs, Hid (xs = zeros n) := ⟨_, rfl⟩
                    have XL : Hid (xs.length = n) := by show _ = _; rw [hxs.out]; exact zeros_length _
                    have hn5 : n ≤ 5000 := by have := padN_lt o; omega
                    obtain ⟨KB, hKB⟩ := named (wwK F ys.length n err)
                    obtain ⟨V, hV⟩ := named (wwE F ys.length n err)
                    have KBN : Hid (KB ≤ n) := by show _ ≤ _; rw [hKB.out]; exact wwK_le SS.out.le_F
                    obtain ⟨O, hO⟩ : ∃ O, Hid (O = o + KB) := ⟨_, rfl⟩
                    refine (wtr_pad v5 WW5.out (by omega) hFF).mono ?_; rintro e v6 ⟨rfl, s5, o5⟩
                    rw [← hn] at s5 ⊢
                    rw [← hxs.out] at s5
                    rw [← hKB.out, ← hV.out, ← hO.out] at s5
                    rw [← hV.out]
                    have W5 := Lib.hid s5; have Q5 := Lib.hid o5
                    have R5 := Lib.hid (RR5.out.only o5 (fun k hk h => (HS1.out k h).2 hk))
                    have B5 := Lib.hid (B45.out.trans (o5.below (B := w1.heap.size) (fun k hk => (HS1.out k hk).1) B45.out.size))
                    have OB := Lib.hid (OB5.out.only o5 (fun h => hga.out.1 h))
                    clear s5 o5
                    go_wp2_with fail
                    refine (rwr_pad v6 R5.out (by omega) hFF).mono ?_; rintro e v8 ⟨rfl, s6, o6⟩
                    rw [← hn] at s6 ⊢
                    rw [← hxs.out] at s6
                    rw [← hKB.out, ← hV.out, ← hO.out] at s6
                    rw [← hV.out]
                    have Q6 := Lib.hid o6
                    have hG : Hid (∀ k, Grow S1 v5 v6 k → w1.heap.size ≤ k ∧ ¬ S2 k) := fun k hk => hk.elim (HS1.out k) (fun h => ⟨Nat.le_trans B45.out.size h.1, fun h2 => by have := RR5.out.lt.1 k h2; omega⟩)
                    obtain ⟨Y, hY⟩ := named (ys ++ xs.take KB)
                    rw [← hY.out] at s6 W5
                    have R8 := Lib.hid s6
                    have W8 := Lib.hid (W5.out.only o6 (fun k hk h => (hG.out k hk).2 h))
                    have B8 := Lib.hid (B5.out.trans (o6.below (B := w1.heap.size) HS2.out B5.out.size))
                    obtain ⟨T1, hT1⟩ := named (Grow S1 v5 v6)
                    obtain ⟨T2, hT2⟩ := named (Grow S2 v6 v8)
                    have HT1 : Hid (∀ k, T1 k → w1.heap.size ≤ k ∧ ¬ T2 k) := by
                      show ∀ _, _
                      rw [hT1.out, hT2.out]
                      exact fun k hk => ⟨(hG.out k hk).1, fun h => h.elim (hG.out k hk).2 (fun h => by have := W5.out.lt.1 k hk; omega)⟩
                    have HT2 : Hid (∀ k, T2 k → w1.heap.size ≤ k) := by
                      show ∀ _, _
                      rw [hT2.out]
                      exact fun k hk => hk.elim (HS2.out k) (fun h => Nat.le_trans B5.out.size h.1)
                    rw [← hT1.out] at W8
                    rw [← hT2.out] at R8
                    have YN : Hid (Y.length ≤ 5000 * (j + 1)) := by
                      show _ ≤ _
                      have h1 : (xs.take KB).length ≤ 5000 := Nat.le_trans (by rw [List.length_take]; exact Nat.min_le_left _ _) (Nat.le_trans KBN.out hn5)
                      rw [hY.out, List.length_append, Nat.mul_succ]
                      exact Nat.add_le_add HYL.out h1
                    clear s6 o6
                    obtain ⟨N, hN⟩ : ∃ N, Hid (N = Y.length) := ⟨_, rfl⟩
                    have YL : Hid (Y.length = N) := hN.out.symm
                    obtain ⟨S', cs', r', hs', _, _⟩ := W8.out.sink
                    have SX := Lib.hid hs'
                    have YB : Hid (Bytes Y) := hs'.bytes.1
                    obtain ⟨SZ, hSZ⟩ := named (strOfNums Y)
                    obtain ⟨da, dc, k8⟩ := R8.out.told N YL.out SZ hSZ.out
                    have K8 := Lib.hid k8
                    have N8 : (N : Int) ≤ 100000000 := by have := SX.out.bytes.2.1; have := YL.out; omega
                    clear hs' k8
                    go_wp2_with fail
                    refine wp_region_held_drew (S := (fun w' => w'.cell? ⟨p, 1, none⟩ = some (.int .i64 O) ∧ w'.cell? ⟨t, 0, none⟩ = some (.slice da N dc) ∧ (convert 22 9 (.slice da N dc)).run Try.prog w' = .ok (.string SZ) w')) (by kernel_rfl) (K8.out _ (Below.refl _ _).drew) (fun hHeld => ?_)
                    refine wpAnyH_take (i := 0) (oi := { dst := some 87, op := Go.Op.move (Go.Operand.tmp 11), type := 36, pos := "law.go:76", after := #[], guard := none }) (v := ?_) rfl (by kernel_rfl) (by kernel_rfl) (by kernel_rfl) (fun _ _ _ h => h) (Or.inl ⟨by rfl, ?_⟩) (by assumption) ?_
                    rotate_left 1
                    focus ((intro wS hSw; (try dsimp only at hSw); go_simp) <;> (try with_reducible rfl))
                    simp only [Act.put, List.setIfInBounds_toArray, List.set_cons_zero, List.set_cons_succ]
                    refine wpAnyH_take (i := 1) (oi := { dst := some 88, op := Go.Op.move (Go.Operand.tmp 12), type := 3, pos := "law.go:76", after := #[], guard := none }) (v := ?_) rfl (by kernel_rfl) (by kernel_rfl) (by kernel_rfl) (fun _ _ _ h => h) (Or.inl ⟨by rfl, ?_⟩) (by assumption) ?_
                    rotate_left 1
                    focus ((intro wS hSw; (try dsimp only at hSw); go_simp) <;> (try with_reducible rfl))
                    simp only [Act.put, List.setIfInBounds_toArray, List.set_cons_zero, List.set_cons_succ]
                    refine wpAnyH_take (i := 2) (oi := { dst := some 89, op := Go.Op.binOp Go.BinOp.neq 3 (Go.Operand.tmp 87) (Go.Operand.tmp 88) 3, type := 4, pos := "law.go:76", after := #[{ on := 0, ground := Go.Ground.data }, { on := 1, ground := Go.Ground.data }], guard := none }) (v := ?_) rfl (by kernel_rfl) (by kernel_rfl) (by kernel_rfl) (fun _ _ _ h => h) (Or.inl ⟨by rfl, ?_⟩) (by assumption) ?_
                    rotate_left 1
                    focus ((intro wS hSw; (try dsimp only at hSw); go_simp) <;> (try with_reducible rfl))
                    simp only [Act.put, List.setIfInBounds_toArray, List.set_cons_zero, List.set_cons_succ]
                    refine wpAnyH_take (i := 3) (oi := { dst := some 90, op := Go.Op.move (Go.Operand.tmp 89), type := 4, pos := "law.go:76", after := #[{ on := 2, ground := Go.Ground.data }], guard := none }) (v := ?_) rfl (by kernel_rfl) (by kernel_rfl) (by kernel_rfl) (fun _ _ _ h => h) (Or.inl ⟨by rfl, ?_⟩) (by assumption) ?_
                    rotate_left 1
                    focus ((intro wS hSw; (try dsimp only at hSw); go_simp) <;> (try with_reducible rfl))
                    simp only [Act.put, List.setIfInBounds_toArray, List.set_cons_zero, List.set_cons_succ]
                    refine wpAnyH_take (i := 4) (oi := { dst := some 91, op := Go.Op.move (Go.Operand.tmp 7), type := 48, pos := "law.go:76", after := #[{ on := 3, ground := Go.Ground.guard }], guard := some (3, false) }) (v := ?_) rfl (by kernel_rfl) (by kernel_rfl) (by kernel_rfl) (fun _ _ _ h => h) (Or.inl ⟨by rfl, ?_⟩) (by assumption) ?_
                    rotate_left 1
                    focus ((intro wS hSw; (try dsimp only at hSw); go_simp) <;> (try with_reducible rfl))
                    simp only [Act.put, List.setIfInBounds_toArray, List.set_cons_zero, List.set_cons_succ]
                    refine wpAnyH_take (i := 6) (oi := { dst := some 93, op := Go.Op.move (Go.Operand.tmp 8), type := 50, pos := "law.go:76", after := #[{ on := 3, ground := Go.Ground.guard }], guard := some (3, false) }) (v := ?_) rfl (by kernel_rfl) (by kernel_rfl) (by kernel_rfl) (fun _ _ _ h => h) (Or.inl ⟨by rfl, ?_⟩) (by assumption) ?_
                    rotate_left 1
                    focus ((intro wS hSw; (try dsimp only at hSw); go_simp) <;> (try with_reducible rfl))
                    simp only [Act.put, List.setIfInBounds_toArray, List.set_cons_zero, List.set_cons_succ]
                    refine wpAnyH_take (i := 7) (oi := { dst := some 94, op := Go.Op.nilCheck (Go.Operand.tmp 93), type := 0, pos := "law.go:76", after := #[{ on := 6, ground := Go.Ground.data }, { on := 3, ground := Go.Ground.guard }], guard := some (3, false) }) (v := ?_) rfl (by kernel_rfl) (by kernel_rfl) (by kernel_rfl) (fun _ _ _ h => h) (Or.inl ⟨by rfl, ?_⟩) (by assumption) ?_
                    rotate_left 1
                    focus ((intro wS hSw; (try dsimp only at hSw); go_simp) <;> (try with_reducible rfl))
                    simp only [Act.put, List.setIfInBounds_toArray, List.set_cons_zero, List.set_cons_succ]
                    refine wpAnyH_take (i := 8) (oi := { dst := some 95, op := Go.Op.fieldAddr 52 (Go.Operand.tmp 94) 1, type := 0, pos := "law.go:76", after := #[{ on := 7, ground := Go.Ground.data }, { on := 3, ground := Go.Ground.guard }], guard := some (3, false) }) (v := ?_) rfl (by kernel_rfl) (by kernel_rfl) (by kernel_rfl) (fun _ _ _ h => h) (Or.inl ⟨by rfl, ?_⟩) (by assumption) ?_
                    rotate_left 1
                    focus ((intro wS hSw; (try dsimp only at hSw); go_simp) <;> (try with_reducible rfl))
                    simp only [Act.put, List.setIfInBounds_toArray, List.set_cons_zero, List.set_cons_succ]
                    refine wpAnyH_take (i := 9) (oi := { dst := some 96, op := Go.Op.load 2 (Go.Operand.tmp 95), type := 2, pos := "law.go:76", after := #[{ on := 8, ground := Go.Ground.data }, { on := 3, ground := Go.Ground.guard }], guard := some (3, false) }) (v := ?_) rfl (by kernel_rfl) (by kernel_rfl) (by kernel_rfl) (fun _ _ _ h => h) (Or.inl ⟨by rfl, ?_⟩) (by assumption) ?_
                    rotate_left 1
                    focus ((intro wS hSw; (try dsimp only at hSw); go_simp) <;> (try with_reducible rfl))
                    simp only [Act.put, List.setIfInBounds_toArray, List.set_cons_zero, List.set_cons_succ]
                    refine wpAnyH_ready (rs := [5]) (by kernel_rfl) (by simp) ?_
                    refine AllReadyH.cons (o := { dst := some 92, op := Go.Op.call { callee := Go.Callee.value (Go.Operand.func 25), args := #[Go.Operand.tmp 91], argTypes := #[48] }, type := 2, pos := "law.go:76", after := #[{ on := 4, ground := Go.Ground.data }, { on := 3, ground := Go.Ground.chain }, { on := 3, ground := Go.Ground.guard }], guard := some (3, false) }) rfl (fun K hK => ?_) AllReadyH.nil
                    go_simp
                    refine (wtr_off v8.drew (W8.out.below (Below.refl _ _).drew)).mono ?_; rintro e w9 ⟨rfl, rfl⟩
                    go_wp2_with fail
                    refine hK.out _ _ (K8.out _ (Below.refl _ _).drew) (fun hHeld => ?_)
                    clear hK K
                    (try simp only [Act.put, List.setIfInBounds_toArray, List.set_cons_zero, List.set_cons_succ])
                    refine wpAnyH_take (i := 10) (oi := { dst := some 97, op := Go.Op.binOp Go.BinOp.neq 2 (Go.Operand.tmp 92) (Go.Operand.tmp 96) 2, type := 4, pos := "law.go:76", after := #[{ on := 5, ground := Go.Ground.data }, { on := 9, ground := Go.Ground.data }, { on := 3, ground := Go.Ground.guard }], guard := some (3, false) }) (v := ?_) rfl (by kernel_rfl) (by kernel_rfl) (by kernel_rfl) (fun _ _ _ h => h) (Or.inl ⟨by rfl, ?_⟩) (by assumption) ?_
                    rotate_left 1
                    focus ((intro wS hSw; (try dsimp only at hSw); go_simp) <;> (try with_reducible rfl))
                    simp only [Act.put, List.setIfInBounds_toArray, List.set_cons_zero, List.set_cons_succ]
                    refine wpAnyH_take (i := 11) (oi := { dst := some 98, op := Go.Op.pick (Go.Operand.tmp 90) (Go.Operand.const (Go.Value.bool true)) (Go.Operand.tmp 97), type := 4, pos := "law.go:76", after := #[{ on := 3, ground := Go.Ground.data }, { on := 10, ground := Go.Ground.data }], guard := none }) (v := ?_) rfl (by kernel_rfl) (by kernel_rfl) (by kernel_rfl) (fun _ _ _ h => h) (Or.inl ⟨by rfl, ?_⟩) (by assumption) ?_
                    rotate_left 1
                    focus ((intro wS hSw; (try dsimp only at hSw); go_simp) <;> (try with_reducible rfl))
                    simp only [Act.put, List.setIfInBounds_toArray, List.set_cons_zero, List.set_cons_succ]
                    refine wpAnyH_take (i := 12) (oi := { dst := some 99, op := Go.Op.move (Go.Operand.tmp 98), type := 4, pos := "law.go:76", after := #[{ on := 11, ground := Go.Ground.data }, { on := 5, ground := Go.Ground.chain }], guard := none }) (v := ?_) rfl (by kernel_rfl) (by kernel_rfl) (by kernel_rfl) (fun _ _ _ h => h) (Or.inl ⟨by rfl, ?_⟩) (by assumption) ?_
                    rotate_left 1
                    focus ((intro wS hSw; (try dsimp only at hSw); go_simp) <;> (try with_reducible rfl))
                    simp only [Act.put, List.setIfInBounds_toArray, List.set_cons_zero, List.set_cons_succ]
                    refine wpAnyH_take (i := 13) (oi := { dst := some 100, op := Go.Op.move (Go.Operand.tmp 5), type := 44, pos := "law.go:76", after := #[{ on := 12, ground := Go.Ground.guard }], guard := some (12, false) }) (v := ?_) rfl (by kernel_rfl) (by kernel_rfl) (by kernel_rfl) (fun _ _ _ h => h) (Or.inl ⟨by rfl, ?_⟩) (by assumption) ?_
                    rotate_left 1
                    focus ((intro wS hSw; (try dsimp only at hSw); go_simp) <;> (try with_reducible rfl))
                    simp only [Act.put, List.setIfInBounds_toArray, List.set_cons_zero, List.set_cons_succ]
                    refine wpAnyH_take (i := 16) (oi := { dst := some 103, op := Go.Op.move (Go.Operand.tmp 6), type := 46, pos := "law.go:76", after := #[{ on := 12, ground := Go.Ground.guard }], guard := some (12, false) }) (v := ?_) rfl (by kernel_rfl) (by kernel_rfl) (by kernel_rfl) (fun _ _ _ h => h) (Or.inl ⟨by rfl, ?_⟩) (by assumption) ?_
                    rotate_left 1
                    focus ((intro wS hSw; (try dsimp only at hSw); go_simp) <;> (try with_reducible rfl))
                    simp only [Act.put, List.setIfInBounds_toArray, List.set_cons_zero, List.set_cons_succ]
                    refine wpAnyH_take (i := 17) (oi := { dst := some 104, op := Go.Op.nilCheck (Go.Operand.tmp 103), type := 0, pos := "law.go:76", after := #[{ on := 16, ground := Go.Ground.data }, { on := 12, ground := Go.Ground.guard }], guard := some (12, false) }) (v := ?_) rfl (by kernel_rfl) (by kernel_rfl) (by kernel_rfl) (fun _ _ _ h => h) (Or.inl ⟨by rfl, ?_⟩) (by assumption) ?_
                    rotate_left 1
                    focus ((intro wS hSw; (try dsimp only at hSw); go_simp) <;> (try with_reducible rfl))
                    simp only [Act.put, List.setIfInBounds_toArray, List.set_cons_zero, List.set_cons_succ]
                    refine wpAnyH_take (i := 18) (oi := { dst := some 105, op := Go.Op.fieldAddr 63 (Go.Operand.tmp 104) 0, type := 0, pos := "law.go:76", after := #[{ on := 17, ground := Go.Ground.data }, { on := 12, ground := Go.Ground.guard }], guard := some (12, false) }) (v := ?_) rfl (by kernel_rfl) (by kernel_rfl) (by kernel_rfl) (fun _ _ _ h => h) (Or.inl ⟨by rfl, ?_⟩) (by assumption) ?_
                    rotate_left 1
                    focus ((intro wS hSw; (try dsimp only at hSw); go_simp) <;> (try with_reducible rfl))
                    simp only [Act.put, List.setIfInBounds_toArray, List.set_cons_zero, List.set_cons_succ]
                    refine wpAnyH_take (i := 19) (oi := { dst := some 106, op := Go.Op.load 22 (Go.Operand.tmp 105), type := 22, pos := "law.go:76", after := #[{ on := 18, ground := Go.Ground.data }, { on := 12, ground := Go.Ground.guard }], guard := some (12, false) }) (v := ?_) rfl (by kernel_rfl) (by kernel_rfl) (by kernel_rfl) (fun _ _ _ h => h) (Or.inl ⟨by rfl, ?_⟩) (by assumption) ?_
                    rotate_left 1
                    focus ((intro wS hSw; (try dsimp only at hSw); go_simp) <;> (try with_reducible rfl))
                    simp only [Act.put, List.setIfInBounds_toArray, List.set_cons_zero, List.set_cons_succ]
                    refine wpAnyH_take (i := 20) (oi := { dst := some 107, op := Go.Op.convert 22 9 (Go.Operand.tmp 106), type := 9, pos := "law.go:76", after := #[{ on := 19, ground := Go.Ground.data }, { on := 12, ground := Go.Ground.guard }], guard := some (12, false) }) (v := ?_) rfl (by kernel_rfl) (by kernel_rfl) (by kernel_rfl) (fun _ _ _ h => h) (Or.inl ⟨by rfl, ?_⟩) (by assumption) ?_
                    rotate_left 1
                    focus ((intro wS hSw; (try dsimp only at hSw); go_simp) <;> (try with_reducible rfl))
                    simp only [Act.put, List.setIfInBounds_toArray, List.set_cons_zero, List.set_cons_succ]
                    refine wpAnyH_ready (rs := [14]) (by kernel_rfl) (by simp) ?_
                    refine AllReadyH.cons (o := { dst := some 101, op := Go.Op.call { callee := Go.Callee.value (Go.Operand.func 26), args := #[Go.Operand.tmp 100], argTypes := #[44] }, type := 22, pos := "law.go:76", after := #[{ on := 13, ground := Go.Ground.data }, { on := 12, ground := Go.Ground.chain }, { on := 12, ground := Go.Ground.guard }], guard := some (12, false) }) rfl (fun K hK => ?_) AllReadyH.nil
                    go_simp
                    refine (sbytes_any v8.drew (SX.out.below (Below.refl _ _).drew)).mono ?_; rintro e v9 ⟨vv, rfl, o9, k9⟩; rw [YL.out] at o9; obtain ⟨a9, c9, rfl, x9, _⟩ := own_bytes o9 YB.out; have V9 := Lib.hid ((Below.refl v8.heap.size v8).drew.trans k9); have HC9 := Lib.hid (run_str_in (P := Try.prog) Try.underlying22 Try.underlying5 Try.underlying9 x9 N c9 YL.out); rw [← hSZ.out] at HC9; clear o9 k9 x9
                    go_wp2_with fail
                    refine hK.out _ _ (K8.out _ V9.out) (fun hHeld => ?_)
                    clear hK K
                    (try simp only [Act.put, List.setIfInBounds_toArray, List.set_cons_zero, List.set_cons_succ])
                    refine wpAnyH_switch (S2 := (fun w' => (convert 22 9 (.slice a9 N c9)).run Try.prog w' = .ok (.string SZ) w' ∧ w'.cell? ⟨p, 1, none⟩ = some (.int .i64 O) ∧ w'.cell? ⟨t, 0, none⟩ = some (.slice da N dc) ∧ (convert 22 9 (.slice da N dc)).run Try.prog w' = .ok (.string SZ) w')) (fun _ h => h.2) ?_
                    have hHeld : ((fun w' => (convert 22 9 (.slice a9 N c9)).run Try.prog w' = .ok (.string SZ) w' ∧ w'.cell? ⟨p, 1, none⟩ = some (.int .i64 O) ∧ w'.cell? ⟨t, 0, none⟩ = some (.slice da N dc) ∧ (convert 22 9 (.slice da N dc)).run Try.prog w' = .ok (.string SZ) w')) _ := ⟨HC9.out, K8.out _ V9.out⟩
                    refine wpAnyH_take (i := 15) (oi := { dst := some 102, op := Go.Op.convert 22 9 (Go.Operand.tmp 101), type := 9, pos := "law.go:76", after := #[{ on := 14, ground := Go.Ground.data }, { on := 12, ground := Go.Ground.guard }], guard := some (12, false) }) (v := ?_) rfl (by kernel_rfl) (by kernel_rfl) (by kernel_rfl) (fun _ _ _ h => h) (Or.inl ⟨by rfl, ?_⟩) (by assumption) ?_
                    rotate_left 1
                    focus ((intro wS hSw; (try dsimp only at hSw); go_simp) <;> (try with_reducible rfl))
                    simp only [Act.put, List.setIfInBounds_toArray, List.set_cons_zero, List.set_cons_succ]
                    refine wpAnyH_take (i := 21) (oi := { dst := some 108, op := Go.Op.binOp Go.BinOp.neq 9 (Go.Operand.tmp 102) (Go.Operand.tmp 107) 9, type := 4, pos := "law.go:76", after := #[{ on := 15, ground := Go.Ground.data }, { on := 20, ground := Go.Ground.data }, { on := 12, ground := Go.Ground.guard }], guard := some (12, false) }) (v := ?_) rfl (by kernel_rfl) (by kernel_rfl) (by kernel_rfl) (fun _ _ _ h => h) (Or.inl ⟨by rfl, ?_⟩) (by assumption) ?_
                    rotate_left 1
                    focus ((intro wS hSw; (try dsimp only at hSw); go_simp) <;> (try with_reducible rfl))
                    simp only [Act.put, List.setIfInBounds_toArray, List.set_cons_zero, List.set_cons_succ]
                    refine wpAnyH_take (i := 22) (oi := { dst := some 109, op := Go.Op.pick (Go.Operand.tmp 99) (Go.Operand.const (Go.Value.bool true)) (Go.Operand.tmp 108), type := 4, pos := "law.go:76", after := #[{ on := 12, ground := Go.Ground.data }, { on := 21, ground := Go.Ground.data }], guard := none }) (v := ?_) rfl (by kernel_rfl) (by kernel_rfl) (by kernel_rfl) (fun _ _ _ h => h) (Or.inl ⟨by rfl, ?_⟩) (by assumption) ?_
                    rotate_left 1
                    focus ((intro wS hSw; (try dsimp only at hSw); go_simp) <;> (try with_reducible rfl))
                    simp only [Act.put, List.setIfInBounds_toArray, List.set_cons_zero, List.set_cons_succ]
                    refine wpAnyH_done (by kernel_rfl) ?_ _
                    go_wp2_with fail
                    go_roundw
                    case rel => exact ⟨T1, T2, Y, O, V, j + 1, Nat.succ_le_of_lt hlt, by go_num, YN.out, HT1.out, HT2.out, W8.out.below V9.out, R8.out.below V9.out, B8.out.trans (V9.out.mono B8.out.size)⟩
                    case measure => clear hys; simp [intOf]; omega
                  · have hk0' : (kk == 0) = false := by simpa using hk0
                    have hk1' : (kk == 1) = false := by simpa using hk1
                    go_wp2_with (first | (refine wpList_alloc_obj rfl 54 rfl [.int .i64 0, .slice none 0 0, .int .i64 0] HZ.out ?_; intro v4 h4 b4; have H4 := Lib.hid h4; have B4' := Lib.hid b4; clear h4 b4) | (refine wpList_store_obj rfl 54 _ _ rfl wr.heap.size rfl [.int .i64 kk, .slice ba bl bc, .int .i64 nn] [.int .i64 0, .slice none 0 0, .int .i64 0] rfl 54 H4.out HZS.out rfl (by intro v hv; simp at hv; rcases hv with rfl | rfl | rfl <;> rfl) ?_; intro v5 h5 t5; have OB5 := Lib.hid h5; have T5 := Lib.hid t5; have d0 := h5.get 0 rfl; have d1 := h5.get 1 rfl; have d2 := h5.get 2 rfl; clear h5 t5))
                    have bb : Below wr.heap.size wr v5 := B4'.out.trans (T5.out.below (Nat.le_refl _))
                    have WW5 := Lib.hid (SS.out.below bb); have RR5 := Lib.hid (RR.out.below bb)
                    have B45 := Lib.hid (BR.out.trans (bb.mono BR.out.size))
                    have hga : Hid (¬ S1 wr.heap.size ∧ ¬ S2 wr.heap.size) := ⟨fun h => Nat.lt_irrefl _ (SS.out.lt.1 _ h), fun h => Nat.lt_irrefl _ (RR.out.lt.1 _ h)⟩
                    clear bb d0 d1 d2 c0 c1 c2
                    refine wp_region_held_drew (S := (fun w' => w'.cell? ⟨wr.heap.size, 2, none⟩ = some (.int .i64 nn))) (by kernel_rfl) ((OB5.out : ObjAt v5.drew wr.heap.size _ _).get 2 rfl) (fun hHeld => ?_)
                    refine wpAnyH_take (i := 0) (oi := { dst := some 44, op := Go.Op.move (Go.Operand.tmp 7), type := 48, pos := "law.go:74", after := #[], guard := none }) (v := ?_) rfl (by kernel_rfl) (by kernel_rfl) (by kernel_rfl) (fun _ _ _ h => h) (Or.inl ⟨by rfl, ?_⟩) (by assumption) ?_
                    rotate_left 1
                    focus ((intro wS hSw; (try dsimp only at hSw); go_simp) <;> (try with_reducible rfl))
                    simp only [Act.put, List.setIfInBounds_toArray, List.set_cons_zero, List.set_cons_succ]
                    refine wpAnyH_take (i := 1) (oi := { dst := some 45, op := Go.Op.fieldAddr 54 (Go.Operand.tmp 10) 2, type := 0, pos := "law.go:74", after := #[], guard := none }) (v := ?_) rfl (by kernel_rfl) (by kernel_rfl) (by kernel_rfl) (fun _ _ _ h => h) (Or.inl ⟨by rfl, ?_⟩) (by assumption) ?_
                    rotate_left 1
                    focus ((intro wS hSw; (try dsimp only at hSw); go_simp) <;> (try with_reducible rfl))
                    simp only [Act.put, List.setIfInBounds_toArray, List.set_cons_zero, List.set_cons_succ]
                    refine wpAnyH_take (i := 2) (oi := { dst := some 46, op := Go.Op.load 3 (Go.Operand.tmp 45), type := 3, pos := "law.go:74", after := #[{ on := 1, ground := Go.Ground.data }], guard := none }) (v := ?_) rfl (by kernel_rfl) (by kernel_rfl) (by kernel_rfl) (fun _ _ _ h => h) (Or.inl ⟨by rfl, ?_⟩) (by assumption) ?_
                    rotate_left 1
                    focus ((intro wS hSw; (try dsimp only at hSw); go_simp) <;> (try with_reducible rfl))
                    simp only [Act.put, List.setIfInBounds_toArray, List.set_cons_zero, List.set_cons_succ]
                    refine wpAnyH_take (i := 4) (oi := { dst := some 48, op := Go.Op.move (Go.Operand.tmp 8), type := 50, pos := "law.go:74", after := #[], guard := none }) (v := ?_) rfl (by kernel_rfl) (by kernel_rfl) (by kernel_rfl) (fun _ _ _ h => h) (Or.inl ⟨by rfl, ?_⟩) (by assumption) ?_
                    rotate_left 1
                    focus ((intro wS hSw; (try dsimp only at hSw); go_simp) <;> (try with_reducible rfl))
                    simp only [Act.put, List.setIfInBounds_toArray, List.set_cons_zero, List.set_cons_succ]
                    refine wpAnyH_take (i := 5) (oi := { dst := some 49, op := Go.Op.fieldAddr 54 (Go.Operand.tmp 10) 2, type := 0, pos := "law.go:74", after := #[], guard := none }) (v := ?_) rfl (by kernel_rfl) (by kernel_rfl) (by kernel_rfl) (fun _ _ _ h => h) (Or.inl ⟨by rfl, ?_⟩) (by assumption) ?_
                    rotate_left 1
                    focus ((intro wS hSw; (try dsimp only at hSw); go_simp) <;> (try with_reducible rfl))
                    simp only [Act.put, List.setIfInBounds_toArray, List.set_cons_zero, List.set_cons_succ]
                    refine wpAnyH_take (i := 6) (oi := { dst := some 50, op := Go.Op.load 3 (Go.Operand.tmp 49), type := 3, pos := "law.go:74", after := #[{ on := 5, ground := Go.Ground.data }], guard := none }) (v := ?_) rfl (by kernel_rfl) (by kernel_rfl) (by kernel_rfl) (fun _ _ _ h => h) (Or.inl ⟨by rfl, ?_⟩) (by assumption) ?_
                    rotate_left 1
                    focus ((intro wS hSw; (try dsimp only at hSw); go_simp) <;> (try with_reducible rfl))
                    simp only [Act.put, List.setIfInBounds_toArray, List.set_cons_zero, List.set_cons_succ]
                    refine wpAnyH_ready (rs := [3]) (by kernel_rfl) (by simp) ?_
                    refine AllReadyH.cons (o := { dst := some 47, op := Go.Op.call { callee := Go.Callee.value (Go.Operand.func 23), args := #[Go.Operand.tmp 44, Go.Operand.tmp 46], argTypes := #[48, 3] }, type := 36, pos := "law.go:74", after := #[{ on := 0, ground := Go.Ground.data }, { on := 2, ground := Go.Ground.data }], guard := none }) rfl (fun K hK => ?_) AllReadyH.nil
                    go_simp
                    refine (wtr_zeros_arg nn _ (WW5.out.below (Below.refl _ _).drew) (by omega)).mono ?_; rintro e v6 ⟨rfl, rfl⟩
                    go_wp2_with fail
                    refine hK.out _ _ ((OB5.out : ObjAt v5.drew wr.heap.size _ _).get 2 rfl) (fun hHeld => ?_)
                    clear hK K
                    (try simp only [Act.put, List.setIfInBounds_toArray, List.set_cons_zero, List.set_cons_succ])
                    refine wpAnyH_ready (rs := [7]) (by kernel_rfl) (by simp) ?_
                    refine AllReadyH.cons (o := { dst := some 51, op := Go.Op.call { callee := Go.Callee.value (Go.Operand.func 24), args := #[Go.Operand.tmp 48, Go.Operand.tmp 50], argTypes := #[50, 3] }, type := 3, pos := "law.go:74", after := #[{ on := 4, ground := Go.Ground.data }, { on := 6, ground := Go.Ground.data }, { on := 3, ground := Go.Ground.chain }], guard := none }) rfl (fun K hK => ?_) AllReadyH.nil
                    go_simp
                    refine (rwr_zeros_arg nn _ (RR5.out.below (Below.refl _ _).drew) (by omega)).mono ?_; rintro e v6 ⟨rfl, rfl⟩
                    go_wp2_with fail
                    refine hK.out _ _ ((OB5.out : ObjAt v5.drew wr.heap.size _ _).get 2 rfl) (fun hHeld => ?_)
                    clear hK K
                    (try simp only [Act.put, List.setIfInBounds_toArray, List.set_cons_zero, List.set_cons_succ])
                    refine wpAnyH_take (i := 8) (oi := { dst := some 11, op := Go.Op.assign (Go.Operand.tmp 47), type := 36, pos := "law.go:74", after := #[{ on := 3, ground := Go.Ground.data }, { on := 7, ground := Go.Ground.chain }, { on := 0, ground := Go.Ground.phase }, { on := 1, ground := Go.Ground.phase }, { on := 2, ground := Go.Ground.phase }, { on := 3, ground := Go.Ground.phase }, { on := 4, ground := Go.Ground.textOnly Go.Departure.lateStores }, { on := 5, ground := Go.Ground.textOnly Go.Departure.lateStores }, { on := 6, ground := Go.Ground.textOnly Go.Departure.lateStores }, { on := 7, ground := Go.Ground.textOnly Go.Departure.lateStoresUnsure }], guard := none }) (v := ?_) rfl (by kernel_rfl) (by kernel_rfl) (by kernel_rfl) (fun _ _ _ h => h) (Or.inl ⟨by rfl, ?_⟩) (by assumption) ?_
                    rotate_left 1
                    focus ((intro wS hSw; (try dsimp only at hSw); go_simp) <;> (try with_reducible rfl))
                    simp only [Act.put, List.setIfInBounds_toArray, List.set_cons_zero, List.set_cons_succ]
                    refine wpAnyH_take (i := 9) (oi := { dst := some 12, op := Go.Op.assign (Go.Operand.tmp 51), type := 3, pos := "law.go:74", after := #[{ on := 7, ground := Go.Ground.data }, { on := 8, ground := Go.Ground.chain }, { on := 0, ground := Go.Ground.phase }, { on := 1, ground := Go.Ground.phase }, { on := 2, ground := Go.Ground.phase }, { on := 3, ground := Go.Ground.phase }, { on := 4, ground := Go.Ground.phase }, { on := 5, ground := Go.Ground.phase }, { on := 6, ground := Go.Ground.phase }, { on := 7, ground := Go.Ground.phase }, { on := 8, ground := Go.Ground.phase }], guard := none }) (v := ?_) rfl (by kernel_rfl) (by kernel_rfl) (by kernel_rfl) (fun _ _ _ h => h) (Or.inl ⟨by rfl, ?_⟩) (by assumption) ?_
                    rotate_left 1
                    focus ((intro wS hSw; (try dsimp only at hSw); go_simp) <;> (try with_reducible rfl))
                    simp only [Act.put, List.setIfInBounds_toArray, List.set_cons_zero, List.set_cons_succ]
                    refine wpAnyH_done (by kernel_rfl) ?_ _
                    obtain ⟨v8, hv8⟩ : ∃ v8, v8 = v5.drew := ⟨_, rfl⟩
                    have W8 : Hid (Wtr v8 S1 g m ys F o err) := by show Wtr _ _ _ _ _ _ _ _; rw [hv8]; exact WW5.out.below (Below.refl _ _).drew
                    have R8 : Hid (RWr v8 S2 p t ys F o err) := by show RWr _ _ _ _ _ _ _ _; rw [hv8]; exact RR5.out.below (Below.refl _ _).drew
                    have B8 : Hid (Below w1.heap.size w1 v8) := by show Below _ _ _; rw [hv8]; exact B45.out.trans (Below.refl _ _).drew
                    rw [← hv8]
                    obtain ⟨T1, hT1⟩ : ∃ T1, T1 = S1 := ⟨_, rfl⟩
                    obtain ⟨T2, hT2⟩ : ∃ T2, T2 = S2 := ⟨_, rfl⟩
                    obtain ⟨Y, hY⟩ : ∃ Y, Y = ys := ⟨_, rfl⟩
                    obtain ⟨O, hO⟩ : ∃ O, O = o := ⟨_, rfl⟩
                    obtain ⟨V, hV⟩ : ∃ V, V = err := ⟨_, rfl⟩
                    rw [← hT1, ← hY, ← hO, ← hV] at W8
                    rw [← hT2, ← hY, ← hO, ← hV] at R8
                    have HT1 : Hid (∀ k, T1 k → w1.heap.size ≤ k ∧ ¬ T2 k) := by show ∀ _, _; rw [hT1, hT2]; exact HS1.out
                    have HT2 : Hid (∀ k, T2 k → w1.heap.size ≤ k) := by show ∀ _, _; rw [hT2]; exact HS2.out
                    have YN : Hid (Y.length ≤ 5000 * (j + 1)) := by show _ ≤ _; rw [hY]; exact Nat.le_trans HYL.out (Nat.mul_le_mul_left _ (Nat.le_succ j))
                    clear hv8 hT1 hT2 hY hO hV
                    obtain ⟨N, hN⟩ : ∃ N, Hid (N = Y.length) := ⟨_, rfl⟩
                    have YL : Hid (Y.length = N) := hN.out.symm
                    obtain ⟨S', cs', r', hs', _, _⟩ := W8.out.sink
                    have SX := Lib.hid hs'
                    have YB : Hid (Bytes Y) := hs'.bytes.1
                    obtain ⟨SZ, hSZ⟩ := named (strOfNums Y)
                    obtain ⟨da, dc, k8⟩ := R8.out.told N YL.out SZ hSZ.out
                    have K8 := Lib.hid k8
                    have N8 : (N : Int) ≤ 100000000 := by have := SX.out.bytes.2.1; have := YL.out; omega
                    clear hs' k8
                    go_wp2_with fail
                    refine wp_region_held_drew (S := (fun w' => w'.cell? ⟨p, 1, none⟩ = some (.int .i64 O) ∧ w'.cell? ⟨t, 0, none⟩ = some (.slice da N dc) ∧ (convert 22 9 (.slice da N dc)).run Try.prog w' = .ok (.string SZ) w')) (by kernel_rfl) (K8.out _ (Below.refl _ _).drew) (fun hHeld => ?_)
                    refine wpAnyH_take (i := 0) (oi := { dst := some 87, op := Go.Op.move (Go.Operand.tmp 11), type := 36, pos := "law.go:76", after := #[], guard := none }) (v := ?_) rfl (by kernel_rfl) (by kernel_rfl) (by kernel_rfl) (fun _ _ _ h => h) (Or.inl ⟨by rfl, ?_⟩) (by assumption) ?_
                    rotate_left 1
                    focus ((intro wS hSw; (try dsimp only at hSw); go_simp) <;> (try with_reducible rfl))
                    simp only [Act.put, List.setIfInBounds_toArray, List.set_cons_zero, List.set_cons_succ]
                    refine wpAnyH_take (i := 1) (oi := { dst := some 88, op := Go.Op.move (Go.Operand.tmp 12), type := 3, pos := "law.go:76", after := #[], guard := none }) (v := ?_) rfl (by kernel_rfl) (by kernel_rfl) (by kernel_rfl) (fun _ _ _ h => h) (Or.inl ⟨by rfl, ?_⟩) (by assumption) ?_
                    rotate_left 1
                    focus ((intro wS hSw; (try dsimp only at hSw); go_simp) <;> (try with_reducible rfl))
                    simp only [Act.put, List.setIfInBounds_toArray, List.set_cons_zero, List.set_cons_succ]
                    refine wpAnyH_take (i := 2) (oi := { dst := some 89, op := Go.Op.binOp Go.BinOp.neq 3 (Go.Operand.tmp 87) (Go.Operand.tmp 88) 3, type := 4, pos := "law.go:76", after := #[{ on := 0, ground := Go.Ground.data }, { on := 1, ground := Go.Ground.data }], guard := none }) (v := ?_) rfl (by kernel_rfl) (by kernel_rfl) (by kernel_rfl) (fun _ _ _ h => h) (Or.inl ⟨by rfl, ?_⟩) (by assumption) ?_
                    rotate_left 1
                    focus ((intro wS hSw; (try dsimp only at hSw); go_simp) <;> (try with_reducible rfl))
                    simp only [Act.put, List.setIfInBounds_toArray, List.set_cons_zero, List.set_cons_succ]
                    refine wpAnyH_take (i := 3) (oi := { dst := some 90, op := Go.Op.move (Go.Operand.tmp 89), type := 4, pos := "law.go:76", after := #[{ on := 2, ground := Go.Ground.data }], guard := none }) (v := ?_) rfl (by kernel_rfl) (by kernel_rfl) (by kernel_rfl) (fun _ _ _ h => h) (Or.inl ⟨by rfl, ?_⟩) (by assumption) ?_
                    rotate_left 1
                    focus ((intro wS hSw; (try dsimp only at hSw); go_simp) <;> (try with_reducible rfl))
                    simp only [Act.put, List.setIfInBounds_toArray, List.set_cons_zero, List.set_cons_succ]
                    refine wpAnyH_take (i := 4) (oi := { dst := some 91, op := Go.Op.move (Go.Operand.tmp 7), type := 48, pos := "law.go:76", after := #[{ on := 3, ground := Go.Ground.guard }], guard := some (3, false) }) (v := ?_) rfl (by kernel_rfl) (by kernel_rfl) (by kernel_rfl) (fun _ _ _ h => h) (Or.inl ⟨by rfl, ?_⟩) (by assumption) ?_
                    rotate_left 1
                    focus ((intro wS hSw; (try dsimp only at hSw); go_simp) <;> (try with_reducible rfl))
                    simp only [Act.put, List.setIfInBounds_toArray, List.set_cons_zero, List.set_cons_succ]
                    refine wpAnyH_take (i := 6) (oi := { dst := some 93, op := Go.Op.move (Go.Operand.tmp 8), type := 50, pos := "law.go:76", after := #[{ on := 3, ground := Go.Ground.guard }], guard := some (3, false) }) (v := ?_) rfl (by kernel_rfl) (by kernel_rfl) (by kernel_rfl) (fun _ _ _ h => h) (Or.inl ⟨by rfl, ?_⟩) (by assumption) ?_
                    rotate_left 1
                    focus ((intro wS hSw; (try dsimp only at hSw); go_simp) <;> (try with_reducible rfl))
                    simp only [Act.put, List.setIfInBounds_toArray, List.set_cons_zero, List.set_cons_succ]
                    refine wpAnyH_take (i := 7) (oi := { dst := some 94, op := Go.Op.nilCheck (Go.Operand.tmp 93), type := 0, pos := "law.go:76", after := #[{ on := 6, ground := Go.Ground.data }, { on := 3, ground := Go.Ground.guard }], guard := some (3, false) }) (v := ?_) rfl (by kernel_rfl) (by kernel_rfl) (by kernel_rfl) (fun _ _ _ h => h) (Or.inl ⟨by rfl, ?_⟩) (by assumption) ?_
                    rotate_left 1
                    focus ((intro wS hSw; (try dsimp only at hSw); go_simp) <;> (try with_reducible rfl))
                    simp only [Act.put, List.setIfInBounds_toArray, List.set_cons_zero, List.set_cons_succ]
                    refine wpAnyH_take (i := 8) (oi := { dst := some 95, op := Go.Op.fieldAddr 52 (Go.Operand.tmp 94) 1, type := 0, pos := "law.go:76", after := #[{ on := 7, ground := Go.Ground.data }, { on := 3, ground := Go.Ground.guard }], guard := some (3, false) }) (v := ?_) rfl (by kernel_rfl) (by kernel_rfl) (by kernel_rfl) (fun _ _ _ h => h) (Or.inl ⟨by rfl, ?_⟩) (by assumption) ?_
                    rotate_left 1
                    focus ((intro wS hSw; (try dsimp only at hSw); go_simp) <;> (try with_reducible rfl))
                    simp only [Act.put, List.setIfInBounds_toArray, List.set_cons_zero, List.set_cons_succ]
                    refine wpAnyH_take (i := 9) (oi := { dst := some 96, op := Go.Op.load 2 (Go.Operand.tmp 95), type := 2, pos := "law.go:76", after := #[{ on := 8, ground := Go.Ground.data }, { on := 3, ground := Go.Ground.guard }], guard := some (3, false) }) (v := ?_) rfl (by kernel_rfl) (by kernel_rfl) (by kernel_rfl) (fun _ _ _ h => h) (Or.inl ⟨by rfl, ?_⟩) (by assumption) ?_
                    rotate_left 1
                    focus ((intro wS hSw; (try dsimp only at hSw); go_simp) <;> (try with_reducible rfl))
                    simp only [Act.put, List.setIfInBounds_toArray, List.set_cons_zero, List.set_cons_succ]
                    refine wpAnyH_ready (rs := [5]) (by kernel_rfl) (by simp) ?_
                    refine AllReadyH.cons (o := { dst := some 92, op := Go.Op.call { callee := Go.Callee.value (Go.Operand.func 25), args := #[Go.Operand.tmp 91], argTypes := #[48] }, type := 2, pos := "law.go:76", after := #[{ on := 4, ground := Go.Ground.data }, { on := 3, ground := Go.Ground.chain }, { on := 3, ground := Go.Ground.guard }], guard := some (3, false) }) rfl (fun K hK => ?_) AllReadyH.nil
                    go_simp
                    refine (wtr_off v8.drew (W8.out.below (Below.refl _ _).drew)).mono ?_; rintro e w9 ⟨rfl, rfl⟩
                    go_wp2_with fail
                    refine hK.out _ _ (K8.out _ (Below.refl _ _).drew) (fun hHeld => ?_)
                    clear hK K
                    (try simp only [Act.put, List.setIfInBounds_toArray, List.set_cons_zero, List.set_cons_succ])
                    refine wpAnyH_take (i := 10) (oi := { dst := some 97, op := Go.Op.binOp Go.BinOp.neq 2 (Go.Operand.tmp 92) (Go.Operand.tmp 96) 2, type := 4, pos := "law.go:76", after := #[{ on := 5, ground := Go.Ground.data }, { on := 9, ground := Go.Ground.data }, { on := 3, ground := Go.Ground.guard }], guard := some (3, false) }) (v := ?_) rfl (by kernel_rfl) (by kernel_rfl) (by kernel_rfl) (fun _ _ _ h => h) (Or.inl ⟨by rfl, ?_⟩) (by assumption) ?_
                    rotate_left 1
                    focus ((intro wS hSw; (try dsimp only at hSw); go_simp) <;> (try with_reducible rfl))
                    simp only [Act.put, List.setIfInBounds_toArray, List.set_cons_zero, List.set_cons_succ]
                    refine wpAnyH_take (i := 11) (oi := { dst := some 98, op := Go.Op.pick (Go.Operand.tmp 90) (Go.Operand.const (Go.Value.bool true)) (Go.Operand.tmp 97), type := 4, pos := "law.go:76", after := #[{ on := 3, ground := Go.Ground.data }, { on := 10, ground := Go.Ground.data }], guard := none }) (v := ?_) rfl (by kernel_rfl) (by kernel_rfl) (by kernel_rfl) (fun _ _ _ h => h) (Or.inl ⟨by rfl, ?_⟩) (by assumption) ?_
                    rotate_left 1
                    focus ((intro wS hSw; (try dsimp only at hSw); go_simp) <;> (try with_reducible rfl))
                    simp only [Act.put, List.setIfInBounds_toArray, List.set_cons_zero, List.set_cons_succ]
                    refine wpAnyH_take (i := 12) (oi := { dst := some 99, op := Go.Op.move (Go.Operand.tmp 98), type := 4, pos := "law.go:76", after := #[{ on := 11, ground := Go.Ground.data }, { on := 5, ground := Go.Ground.chain }], guard := none }) (v := ?_) rfl (by kernel_rfl) (by kernel_rfl) (by kernel_rfl) (fun _ _ _ h => h) (Or.inl ⟨by rfl, ?_⟩) (by assumption) ?_
                    rotate_left 1
                    focus ((intro wS hSw; (try dsimp only at hSw); go_simp) <;> (try with_reducible rfl))
                    simp only [Act.put, List.setIfInBounds_toArray, List.set_cons_zero, List.set_cons_succ]
                    refine wpAnyH_take (i := 13) (oi := { dst := some 100, op := Go.Op.move (Go.Operand.tmp 5), type := 44, pos := "law.go:76", after := #[{ on := 12, ground := Go.Ground.guard }], guard := some (12, false) }) (v := ?_) rfl (by kernel_rfl) (by kernel_rfl) (by kernel_rfl) (fun _ _ _ h => h) (Or.inl ⟨by rfl, ?_⟩) (by assumption) ?_
                    rotate_left 1
                    focus ((intro wS hSw; (try dsimp only at hSw); go_simp) <;> (try with_reducible rfl))
                    simp only [Act.put, List.setIfInBounds_toArray, List.set_cons_zero, List.set_cons_succ]
                    refine wpAnyH_take (i := 16) (oi := { dst := some 103, op := Go.Op.move (Go.Operand.tmp 6), type := 46, pos := "law.go:76", after := #[{ on := 12, ground := Go.Ground.guard }], guard := some (12, false) }) (v := ?_) rfl (by kernel_rfl) (by kernel_rfl) (by kernel_rfl) (fun _ _ _ h => h) (Or.inl ⟨by rfl, ?_⟩) (by assumption) ?_
                    rotate_left 1
                    focus ((intro wS hSw; (try dsimp only at hSw); go_simp) <;> (try with_reducible rfl))
                    simp only [Act.put, List.setIfInBounds_toArray, List.set_cons_zero, List.set_cons_succ]
                    refine wpAnyH_take (i := 17) (oi := { dst := some 104, op := Go.Op.nilCheck (Go.Operand.tmp 103), type := 0, pos := "law.go:76", after := #[{ on := 16, ground := Go.Ground.data }, { on := 12, ground := Go.Ground.guard }], guard := some (12, false) }) (v := ?_) rfl (by kernel_rfl) (by kernel_rfl) (by kernel_rfl) (fun _ _ _ h => h) (Or.inl ⟨by rfl, ?_⟩) (by assumption) ?_
                    rotate_left 1
                    focus ((intro wS hSw; (try dsimp only at hSw); go_simp) <;> (try with_reducible rfl))
                    simp only [Act.put, List.setIfInBounds_toArray, List.set_cons_zero, List.set_cons_succ]
                    refine wpAnyH_take (i := 18) (oi := { dst := some 105, op := Go.Op.fieldAddr 63 (Go.Operand.tmp 104) 0, type := 0, pos := "law.go:76", after := #[{ on := 17, ground := Go.Ground.data }, { on := 12, ground := Go.Ground.guard }], guard := some (12, false) }) (v := ?_) rfl (by kernel_rfl) (by kernel_rfl) (by kernel_rfl) (fun _ _ _ h => h) (Or.inl ⟨by rfl, ?_⟩) (by assumption) ?_
                    rotate_left 1
                    focus ((intro wS hSw; (try dsimp only at hSw); go_simp) <;> (try with_reducible rfl))
                    simp only [Act.put, List.setIfInBounds_toArray, List.set_cons_zero, List.set_cons_succ]
                    refine wpAnyH_take (i := 19) (oi := { dst := some 106, op := Go.Op.load 22 (Go.Operand.tmp 105), type := 22, pos := "law.go:76", after := #[{ on := 18, ground := Go.Ground.data }, { on := 12, ground := Go.Ground.guard }], guard := some (12, false) }) (v := ?_) rfl (by kernel_rfl) (by kernel_rfl) (by kernel_rfl) (fun _ _ _ h => h) (Or.inl ⟨by rfl, ?_⟩) (by assumption) ?_
                    rotate_left 1
                    focus ((intro wS hSw; (try dsimp only at hSw); go_simp) <;> (try with_reducible rfl))
                    simp only [Act.put, List.setIfInBounds_toArray, List.set_cons_zero, List.set_cons_succ]
                    refine wpAnyH_take (i := 20) (oi := { dst := some 107, op := Go.Op.convert 22 9 (Go.Operand.tmp 106), type := 9, pos := "law.go:76", after := #[{ on := 19, ground := Go.Ground.data }, { on := 12, ground := Go.Ground.guard }], guard := some (12, false) }) (v := ?_) rfl (by kernel_rfl) (by kernel_rfl) (by kernel_rfl) (fun _ _ _ h => h) (Or.inl ⟨by rfl, ?_⟩) (by assumption) ?_
                    rotate_left 1
                    focus ((intro wS hSw; (try dsimp only at hSw); go_simp) <;> (try with_reducible rfl))
                    simp only [Act.put, List.setIfInBounds_toArray, List.set_cons_zero, List.set_cons_succ]
                    refine wpAnyH_ready (rs := [14]) (by kernel_rfl) (by simp) ?_
                    refine AllReadyH.cons (o := { dst := some 101, op := Go.Op.call { callee := Go.Callee.value (Go.Operand.func 26), args := #[Go.Operand.tmp 100], argTypes := #[44] }, type := 22, pos := "law.go:76", after := #[{ on := 13, ground := Go.Ground.data }, { on := 12, ground := Go.Ground.chain }, { on := 12, ground := Go.Ground.guard }], guard := some (12, false) }) rfl (fun K hK => ?_) AllReadyH.nil
                    go_simp
                    refine (sbytes_any v8.drew (SX.out.below (Below.refl _ _).drew)).mono ?_; rintro e v9 ⟨vv, rfl, o9, k9⟩; rw [YL.out] at o9; obtain ⟨a9, c9, rfl, x9, _⟩ := own_bytes o9 YB.out; have V9 := Lib.hid ((Below.refl v8.heap.size v8).drew.trans k9); have HC9 := Lib.hid (run_str_in (P := Try.prog) Try.underlying22 Try.underlying5 Try.underlying9 x9 N c9 YL.out); rw [← hSZ.out] at HC9; clear o9 k9 x9
                    go_wp2_with fail
                    refine hK.out _ _ (K8.out _ V9.out) (fun hHeld => ?_)
                    clear hK K
                    (try simp only [Act.put, List.setIfInBounds_toArray, List.set_cons_zero, List.set_cons_succ])
                    refine wpAnyH_switch (S2 := (fun w' => (convert 22 9 (.slice a9 N c9)).run Try.prog w' = .ok (.string SZ) w' ∧ w'.cell? ⟨p, 1, none⟩ = some (.int .i64 O) ∧ w'.cell? ⟨t, 0, none⟩ = some (.slice da N dc) ∧ (convert 22 9 (.slice da N dc)).run Try.prog w' = .ok (.string SZ) w')) (fun _ h => h.2) ?_
                    have hHeld : ((fun w' => (convert 22 9 (.slice a9 N c9)).run Try.prog w' = .ok (.string SZ) w' ∧ w'.cell? ⟨p, 1, none⟩ = some (.int .i64 O) ∧ w'.cell? ⟨t, 0, none⟩ = some (.slice da N dc) ∧ (convert 22 9 (.slice da N dc)).run Try.prog w' = .ok (.string SZ) w')) _ := ⟨HC9.out, K8.out _ V9.out⟩
                    refine wpAnyH_take (i := 15) (oi := { dst := some 102, op := Go.Op.convert 22 9 (Go.Operand.tmp 101), type := 9, pos := "law.go:76", after := #[{ on := 14, ground := Go.Ground.data }, { on := 12, ground := Go.Ground.guard }], guard := some (12, false) }) (v := ?_) rfl (by kernel_rfl) (by kernel_rfl) (by kernel_rfl) (fun _ _ _ h => h) (Or.inl ⟨by rfl, ?_⟩) (by assumption) ?_
                    rotate_left 1
                    focus ((intro wS hSw; (try dsimp only at hSw); go_simp) <;> (try with_reducible rfl))
                    simp only [Act.put, List.setIfInBounds_toArray, List.set_cons_zero, List.set_cons_succ]
                    refine wpAnyH_take (i := 21) (oi := { dst := some 108, op := Go.Op.binOp Go.BinOp.neq 9 (Go.Operand.tmp 102) (Go.Operand.tmp 107) 9, type := 4, pos := "law.go:76", after := #[{ on := 15, ground := Go.Ground.data }, { on := 20, ground := Go.Ground.data }, { on := 12, ground := Go.Ground.guard }], guard := some (12, false) }) (v := ?_) rfl (by kernel_rfl) (by kernel_rfl) (by kernel_rfl) (fun _ _ _ h => h) (Or.inl ⟨by rfl, ?_⟩) (by assumption) ?_
                    rotate_left 1
                    focus ((intro wS hSw; (try dsimp only at hSw); go_simp) <;> (try with_reducible rfl))
                    simp only [Act.put, List.setIfInBounds_toArray, List.set_cons_zero, List.set_cons_succ]
                    refine wpAnyH_take (i := 22) (oi := { dst := some 109, op := Go.Op.pick (Go.Operand.tmp 99) (Go.Operand.const (Go.Value.bool true)) (Go.Operand.tmp 108), type := 4, pos := "law.go:76", after := #[{ on := 12, ground := Go.Ground.data }, { on := 21, ground := Go.Ground.data }], guard := none }) (v := ?_) rfl (by kernel_rfl) (by kernel_rfl) (by kernel_rfl) (fun _ _ _ h => h) (Or.inl ⟨by rfl, ?_⟩) (by assumption) ?_
                    rotate_left 1
                    focus ((intro wS hSw; (try dsimp only at hSw); go_simp) <;> (try with_reducible rfl))
                    simp only [Act.put, List.setIfInBounds_toArray, List.set_cons_zero, List.set_cons_succ]
                    refine wpAnyH_done (by kernel_rfl) ?_ _
                    go_wp2_with fail
                    go_roundw
                    case rel => exact ⟨T1, T2, Y, O, V, j + 1, Nat.succ_le_of_lt hlt, by go_num, YN.out, HT1.out, HT2.out, W8.out.below V9.out, R8.out.below V9.out, B8.out.trans (V9.out.mono B8.out.size)⟩
                    case measure => clear hys; simp [intOf]; omega
            · skip
              by_cases hk0 : kk = 0
              · subst hk0
                go_wp2_with (first | (refine wpList_alloc_obj rfl 54 rfl [.int .i64 0, .slice none 0 0, .int .i64 0] HZ.out ?_; intro v4 h4 b4; have H4 := Lib.hid h4; have B4' := Lib.hid b4; clear h4 b4) | (refine wpList_store_obj rfl 54 _ _ rfl wr.heap.size rfl [.int .i64 0, .slice ba bl bc, .int .i64 nn] [.int .i64 0, .slice none 0 0, .int .i64 0] rfl 54 H4.out HZS.out rfl (by intro v hv; simp at hv; rcases hv with rfl | rfl | rfl <;> rfl) ?_; intro v5 h5 t5; have OB5 := Lib.hid h5; have T5 := Lib.hid t5; have d0 := h5.get 0 rfl; have d1 := h5.get 1 rfl; have d2 := h5.get 2 rfl; clear h5 t5))
                have bb : Below wr.heap.size wr v5 := B4'.out.trans (T5.out.below (Nat.le_refl _))
                have WW5 := Lib.hid (SS.out.below bb); have RR5 := Lib.hid (RR.out.below bb)
                have B45 := Lib.hid (BR.out.trans (bb.mono BR.out.size))
                have hga : Hid (¬ S1 wr.heap.size ∧ ¬ S2 wr.heap.size) := ⟨fun h => Nat.lt_irrefl _ (SS.out.lt.1 _ h), fun h => Nat.lt_irrefl _ (RR.out.lt.1 _ h)⟩
                clear bb d0 d1 d2 c0 c1 c2
                obtain ⟨xs, hxs⟩ : ∃ xs, Hid (xs = bs) := ⟨_, rfl⟩
                have XL : Hid (xs.length = bl) := by show _ = _; rw [hxs.out]; exact HBL.out
                have hn5 : bl ≤ 5000 := by omega
                rw [← hxs.out] at YBA HYA
                obtain ⟨KB, hKB⟩ := named (wwK F ys.length bl err)
                obtain ⟨V, hV⟩ := named (wwE F ys.length bl err)
                have KBN : Hid (KB ≤ bl) := by show _ ≤ _; rw [hKB.out]; exact wwK_le SS.out.le_F
                obtain ⟨O, hO⟩ : ∃ O, Hid (O = o + KB) := ⟨_, rfl⟩
                refine wp_region_held_drew (S := (fun w' => w'.cell? ⟨wr.heap.size, 1, none⟩ = some (.slice ba bl bc))) (by kernel_rfl) ((OB5.out : ObjAt v5.drew wr.heap.size _ _).get 1 rfl) (fun hHeld => ?_)
                refine wpAnyH_take (i := 0) (oi := { dst := some 71, op := Go.Op.move (Go.Operand.tmp 7), type := 48, pos := "law.go:70", after := #[], guard := none }) (v := ?_) rfl (by kernel_rfl) (by kernel_rfl) (by kernel_rfl) (fun _ _ _ h => h) (Or.inl ⟨by rfl, ?_⟩) (by assumption) ?_
                rotate_left 1
                focus ((intro wS hSw; (try dsimp only at hSw); go_simp) <;> (try with_reducible rfl))
                simp only [Act.put, List.setIfInBounds_toArray, List.set_cons_zero, List.set_cons_succ]
                refine wpAnyH_take (i := 1) (oi := { dst := some 72, op := Go.Op.fieldAddr 54 (Go.Operand.tmp 10) 1, type := 0, pos := "law.go:70", after := #[], guard := none }) (v := ?_) rfl (by kernel_rfl) (by kernel_rfl) (by kernel_rfl) (fun _ _ _ h => h) (Or.inl ⟨by rfl, ?_⟩) (by assumption) ?_
                rotate_left 1
                focus ((intro wS hSw; (try dsimp only at hSw); go_simp) <;> (try with_reducible rfl))
                simp only [Act.put, List.setIfInBounds_toArray, List.set_cons_zero, List.set_cons_succ]
                refine wpAnyH_take (i := 2) (oi := { dst := some 73, op := Go.Op.load 22 (Go.Operand.tmp 72), type := 22, pos := "law.go:70", after := #[{ on := 1, ground := Go.Ground.data }], guard := none }) (v := ?_) rfl (by kernel_rfl) (by kernel_rfl) (by kernel_rfl) (fun _ _ _ h => h) (Or.inl ⟨by rfl, ?_⟩) (by assumption) ?_
                rotate_left 1
                focus ((intro wS hSw; (try dsimp only at hSw); go_simp) <;> (try with_reducible rfl))
                simp only [Act.put, List.setIfInBounds_toArray, List.set_cons_zero, List.set_cons_succ]
                refine wpAnyH_take (i := 4) (oi := { dst := some 75, op := Go.Op.move (Go.Operand.tmp 8), type := 50, pos := "law.go:70", after := #[], guard := none }) (v := ?_) rfl (by kernel_rfl) (by kernel_rfl) (by kernel_rfl) (fun _ _ _ h => h) (Or.inl ⟨by rfl, ?_⟩) (by assumption) ?_
                rotate_left 1
                focus ((intro wS hSw; (try dsimp only at hSw); go_simp) <;> (try with_reducible rfl))
                simp only [Act.put, List.setIfInBounds_toArray, List.set_cons_zero, List.set_cons_succ]
                refine wpAnyH_take (i := 5) (oi := { dst := some 76, op := Go.Op.fieldAddr 54 (Go.Operand.tmp 10) 1, type := 0, pos := "law.go:70", after := #[], guard := none }) (v := ?_) rfl (by kernel_rfl) (by kernel_rfl) (by kernel_rfl) (fun _ _ _ h => h) (Or.inl ⟨by rfl, ?_⟩) (by assumption) ?_
                rotate_left 1
                focus ((intro wS hSw; (try dsimp only at hSw); go_simp) <;> (try with_reducible rfl))
                simp only [Act.put, List.setIfInBounds_toArray, List.set_cons_zero, List.set_cons_succ]
                refine wpAnyH_take (i := 6) (oi := { dst := some 77, op := Go.Op.load 22 (Go.Operand.tmp 76), type := 22, pos := "law.go:70", after := #[{ on := 5, ground := Go.Ground.data }], guard := none }) (v := ?_) rfl (by kernel_rfl) (by kernel_rfl) (by kernel_rfl) (fun _ _ _ h => h) (Or.inl ⟨by rfl, ?_⟩) (by assumption) ?_
                rotate_left 1
                focus ((intro wS hSw; (try dsimp only at hSw); go_simp) <;> (try with_reducible rfl))
                simp only [Act.put, List.setIfInBounds_toArray, List.set_cons_zero, List.set_cons_succ]
                refine wpAnyH_ready (rs := [3]) (by kernel_rfl) (by simp) ?_
                refine AllReadyH.cons (o := { dst := some 74, op := Go.Op.call { callee := Go.Callee.value (Go.Operand.func 19), args := #[Go.Operand.tmp 71, Go.Operand.tmp 73], argTypes := #[48, 22] }, type := 36, pos := "law.go:70", after := #[{ on := 0, ground := Go.Ground.data }, { on := 2, ground := Go.Ground.data }], guard := none }) rfl (fun K hK => ?_) AllReadyH.nil
                go_simp
                refine (wtr_write ba bl bc xs _ (WW5.out.below (Below.refl _ _).drew) (YBA.out _ (B45.out.trans (Below.refl _ _).drew)) XL.out HBC.out (by omega) hFF (fun x hx => (HYA.out x hx).imp id fun h hs => by have := (HS1.out _ hs).1; omega)).mono ?_; rintro e v6 ⟨rfl, s5, o5⟩; rw [← hKB.out, ← hV.out, ← hO.out] at s5; rw [← hV.out]; have W5 : Hid (Wtr v6 (Grow S1 v5 v6) g m (ys ++ xs.take KB) F O V) := s5; have o5' := (Only.of_below (S := S1) (Below.refl _ _).drew (Nat.le_refl _)).trans o5; have R5 := Lib.hid (RR5.out.only o5' (fun k hk h => (HS1.out k h).2 hk)); have B5 := Lib.hid (B45.out.trans (o5'.below (B := w1.heap.size) (fun k hk => (HS1.out k hk).1) B45.out.size)); have OB := Lib.hid (OB5.out.only o5' (fun h => hga.out.1 h)); clear s5 o5 o5'
                go_wp2_with fail
                refine hK.out _ _ (OB.out.get 1 rfl) (fun hHeld => ?_)
                clear hK K
                (try simp only [Act.put, List.setIfInBounds_toArray, List.set_cons_zero, List.set_cons_succ])
                refine wpAnyH_ready (rs := [7]) (by kernel_rfl) (by simp) ?_
                refine AllReadyH.cons (o := { dst := some 78, op := Go.Op.call { callee := Go.Callee.value (Go.Operand.func 20), args := #[Go.Operand.tmp 75, Go.Operand.tmp 77], argTypes := #[50, 22] }, type := 3, pos := "law.go:70", after := #[{ on := 4, ground := Go.Ground.data }, { on := 6, ground := Go.Ground.data }, { on := 3, ground := Go.Ground.chain }], guard := none }) rfl (fun K hK => ?_) AllReadyH.nil
                go_simp
                refine (rwr_write ba bl bc xs _ R5.out (YBA.out _ B5.out) XL.out HBC.out (by omega) hFF (fun x hx => (HYA.out x hx).imp id fun h hs => by have := HS2.out _ hs; omega)).mono ?_; rintro e v8 ⟨rfl, s6, o6⟩; rw [← hKB.out, ← hV.out, ← hO.out] at s6; rw [← hV.out]; have S6 := Lib.hid s6; have Q6 := Lib.hid o6; have OB' := Lib.hid (OB.out.only o6 (fun h => hga.out.2 h)); clear s6 o6
                go_wp2_with fail
                refine hK.out _ _ (OB'.out.get 1 rfl) (fun hHeld => ?_)
                clear hK K
                (try simp only [Act.put, List.setIfInBounds_toArray, List.set_cons_zero, List.set_cons_succ])
                refine wpAnyH_take (i := 8) (oi := { dst := some 11, op := Go.Op.assign (Go.Operand.tmp 74), type := 36, pos := "law.go:70", after := #[{ on := 3, ground := Go.Ground.data }, { on := 7, ground := Go.Ground.chain }, { on := 0, ground := Go.Ground.phase }, { on := 1, ground := Go.Ground.phase }, { on := 2, ground := Go.Ground.phase }, { on := 3, ground := Go.Ground.phase }, { on := 4, ground := Go.Ground.textOnly Go.Departure.lateStores }, { on := 5, ground := Go.Ground.textOnly Go.Departure.lateStores }, { on := 6, ground := Go.Ground.textOnly Go.Departure.lateStores }, { on := 7, ground := Go.Ground.textOnly Go.Departure.lateStoresUnsure }], guard := none }) (v := ?_) rfl (by kernel_rfl) (by kernel_rfl) (by kernel_rfl) (fun _ _ _ h => h) (Or.inl ⟨by rfl, ?_⟩) (by assumption) ?_
                rotate_left 1
                focus ((intro wS hSw; (try dsimp only at hSw); go_simp) <;> (try with_reducible rfl))
                simp only [Act.put, List.setIfInBounds_toArray, List.set_cons_zero, List.set_cons_succ]
                refine wpAnyH_take (i := 9) (oi := { dst := some 12, op := Go.Op.assign (Go.Operand.tmp 78), type := 3, pos := "law.go:70", after := #[{ on := 7, ground := Go.Ground.data }, { on := 8, ground := Go.Ground.chain }, { on := 0, ground := Go.Ground.phase }, { on := 1, ground := Go.Ground.phase }, { on := 2, ground := Go.Ground.phase }, { on := 3, ground := Go.Ground.phase }, { on := 4, ground := Go.Ground.phase }, { on := 5, ground := Go.Ground.phase }, { on := 6, ground := Go.Ground.phase }, { on := 7, ground := Go.Ground.phase }, { on := 8, ground := Go.Ground.phase }], guard := none }) (v := ?_) rfl (by kernel_rfl) (by kernel_rfl) (by kernel_rfl) (fun _ _ _ h => h) (Or.inl ⟨by rfl, ?_⟩) (by assumption) ?_
                rotate_left 1
                focus ((intro wS hSw; (try dsimp only at hSw); go_simp) <;> (try with_reducible rfl))
                simp only [Act.put, List.setIfInBounds_toArray, List.set_cons_zero, List.set_cons_succ]
                refine wpAnyH_done (by kernel_rfl) ?_ _
                have s6 := S6.out; have o6 := Q6.out
                have hG : Hid (∀ k, Grow S1 v5 v6 k → w1.heap.size ≤ k ∧ ¬ S2 k) := fun k hk => hk.elim (HS1.out k) (fun h => ⟨Nat.le_trans B45.out.size h.1, fun h2 => by have := RR5.out.lt.1 k h2; omega⟩)
                obtain ⟨Y, hY⟩ := named (ys ++ xs.take KB)
                rw [← hY.out] at s6 W5
                have R8 := Lib.hid s6
                have W8 := Lib.hid (W5.out.only o6 (fun k hk h => (hG.out k hk).2 h))
                have B8 := Lib.hid (B5.out.trans (o6.below (B := w1.heap.size) HS2.out B5.out.size))
                obtain ⟨T1, hT1⟩ := named (Grow S1 v5 v6)
                obtain ⟨T2, hT2⟩ := named (Grow S2 v6 v8)
                have HT1 : Hid (∀ k, T1 k → w1.heap.size ≤ k ∧ ¬ T2 k) := by
                  show ∀ _, _
                  rw [hT1.out, hT2.out]
                  exact fun k hk => ⟨(hG.out k hk).1, fun h => h.elim (hG.out k hk).2 (fun h => by have := W5.out.lt.1 k hk; omega)⟩
                have HT2 : Hid (∀ k, T2 k → w1.heap.size ≤ k) := by
                  show ∀ _, _
                  rw [hT2.out]
                  exact fun k hk => hk.elim (HS2.out k) (fun h => Nat.le_trans B5.out.size h.1)
                rw [← hT1.out] at W8
                rw [← hT2.out] at R8
                have YN : Hid (Y.length ≤ 5000 * (j + 1)) := by
                  show _ ≤ _
                  have h1 : (xs.take KB).length ≤ 5000 := Nat.le_trans (by rw [List.length_take]; exact Nat.min_le_left _ _) (Nat.le_trans KBN.out hn5)
                  rw [hY.out, List.length_append, Nat.mul_succ]
                  exact Nat.add_le_add HYL.out h1
                clear s6 o6
                obtain ⟨N, hN⟩ : ∃ N, Hid (N = Y.length) := ⟨_, rfl⟩
                have YL : Hid (Y.length = N) := hN.out.symm
                obtain ⟨S', cs', r', hs', _, _⟩ := W8.out.sink
                have SX := Lib.hid hs'
                have YB : Hid (Bytes Y) := hs'.bytes.1
                obtain ⟨SZ, hSZ⟩ := named (strOfNums Y)
                obtain ⟨da, dc, k8⟩ := R8.out.told N YL.out SZ hSZ.out
                have K8 := Lib.hid k8
                have N8 : (N : Int) ≤ 100000000 := by have := SX.out.bytes.2.1; have := YL.out; omega
                clear hs' k8
                go_wp2_with fail
                refine wp_region_held_drew (S := (fun w' => w'.cell? ⟨p, 1, none⟩ = some (.int .i64 O) ∧ w'.cell? ⟨t, 0, none⟩ = some (.slice da N dc) ∧ (convert 22 9 (.slice da N dc)).run Try.prog w' = .ok (.string SZ) w')) (by kernel_rfl) (K8.out _ (Below.refl _ _).drew) (fun hHeld => ?_)
                refine wpAnyH_take (i := 0) (oi := { dst := some 87, op := Go.Op.move (Go.Operand.tmp 11), type := 36, pos := "law.go:76", after := #[], guard := none }) (v := ?_) rfl (by kernel_rfl) (by kernel_rfl) (by kernel_rfl) (fun _ _ _ h => h) (Or.inl ⟨by rfl, ?_⟩) (by assumption) ?_
                rotate_left 1
                focus ((intro wS hSw; (try dsimp only at hSw); go_simp) <;> (try with_reducible rfl))
                simp only [Act.put, List.setIfInBounds_toArray, List.set_cons_zero, List.set_cons_succ]
                refine wpAnyH_take (i := 1) (oi := { dst := some 88, op := Go.Op.move (Go.Operand.tmp 12), type := 3, pos := "law.go:76", after := #[], guard := none }) (v := ?_) rfl (by kernel_rfl) (by kernel_rfl) (by kernel_rfl) (fun _ _ _ h => h) (Or.inl ⟨by rfl, ?_⟩) (by assumption) ?_
                rotate_left 1
                focus ((intro wS hSw; (try dsimp only at hSw); go_simp) <;> (try with_reducible rfl))
                simp only [Act.put, List.setIfInBounds_toArray, List.set_cons_zero, List.set_cons_succ]
                refine wpAnyH_take (i := 2) (oi := { dst := some 89, op := Go.Op.binOp Go.BinOp.neq 3 (Go.Operand.tmp 87) (Go.Operand.tmp 88) 3, type := 4, pos := "law.go:76", after := #[{ on := 0, ground := Go.Ground.data }, { on := 1, ground := Go.Ground.data }], guard := none }) (v := ?_) rfl (by kernel_rfl) (by kernel_rfl) (by kernel_rfl) (fun _ _ _ h => h) (Or.inl ⟨by rfl, ?_⟩) (by assumption) ?_
                rotate_left 1
                focus ((intro wS hSw; (try dsimp only at hSw); go_simp) <;> (try with_reducible rfl))
                simp only [Act.put, List.setIfInBounds_toArray, List.set_cons_zero, List.set_cons_succ]
                refine wpAnyH_take (i := 3) (oi := { dst := some 90, op := Go.Op.move (Go.Operand.tmp 89), type := 4, pos := "law.go:76", after := #[{ on := 2, ground := Go.Ground.data }], guard := none }) (v := ?_) rfl (by kernel_rfl) (by kernel_rfl) (by kernel_rfl) (fun _ _ _ h => h) (Or.inl ⟨by rfl, ?_⟩) (by assumption) ?_
                rotate_left 1
                focus ((intro wS hSw; (try dsimp only at hSw); go_simp) <;> (try with_reducible rfl))
                simp only [Act.put, List.setIfInBounds_toArray, List.set_cons_zero, List.set_cons_succ]
                refine wpAnyH_take (i := 4) (oi := { dst := some 91, op := Go.Op.move (Go.Operand.tmp 7), type := 48, pos := "law.go:76", after := #[{ on := 3, ground := Go.Ground.guard }], guard := some (3, false) }) (v := ?_) rfl (by kernel_rfl) (by kernel_rfl) (by kernel_rfl) (fun _ _ _ h => h) (Or.inl ⟨by rfl, ?_⟩) (by assumption) ?_
                rotate_left 1
                focus ((intro wS hSw; (try dsimp only at hSw); go_simp) <;> (try with_reducible rfl))
                simp only [Act.put, List.setIfInBounds_toArray, List.set_cons_zero, List.set_cons_succ]
                refine wpAnyH_take (i := 6) (oi := { dst := some 93, op := Go.Op.move (Go.Operand.tmp 8), type := 50, pos := "law.go:76", after := #[{ on := 3, ground := Go.Ground.guard }], guard := some (3, false) }) (v := ?_) rfl (by kernel_rfl) (by kernel_rfl) (by kernel_rfl) (fun _ _ _ h => h) (Or.inl ⟨by rfl, ?_⟩) (by assumption) ?_
                rotate_left 1
                focus ((intro wS hSw; (try dsimp only at hSw); go_simp) <;> (try with_reducible rfl))
                simp only [Act.put, List.setIfInBounds_toArray, List.set_cons_zero, List.set_cons_succ]
                refine wpAnyH_take (i := 7) (oi := { dst := some 94, op := Go.Op.nilCheck (Go.Operand.tmp 93), type := 0, pos := "law.go:76", after := #[{ on := 6, ground := Go.Ground.data }, { on := 3, ground := Go.Ground.guard }], guard := some (3, false) }) (v := ?_) rfl (by kernel_rfl) (by kernel_rfl) (by kernel_rfl) (fun _ _ _ h => h) (Or.inl ⟨by rfl, ?_⟩) (by assumption) ?_
                rotate_left 1
                focus ((intro wS hSw; (try dsimp only at hSw); go_simp) <;> (try with_reducible rfl))
                simp only [Act.put, List.setIfInBounds_toArray, List.set_cons_zero, List.set_cons_succ]
                refine wpAnyH_take (i := 8) (oi := { dst := some 95, op := Go.Op.fieldAddr 52 (Go.Operand.tmp 94) 1, type := 0, pos := "law.go:76", after := #[{ on := 7, ground := Go.Ground.data }, { on := 3, ground := Go.Ground.guard }], guard := some (3, false) }) (v := ?_) rfl (by kernel_rfl) (by kernel_rfl) (by kernel_rfl) (fun _ _ _ h => h) (Or.inl ⟨by rfl, ?_⟩) (by assumption) ?_
                rotate_left 1
                focus ((intro wS hSw; (try dsimp only at hSw); go_simp) <;> (try with_reducible rfl))
                simp only [Act.put, List.setIfInBounds_toArray, List.set_cons_zero, List.set_cons_succ]
                refine wpAnyH_take (i := 9) (oi := { dst := some 96, op := Go.Op.load 2 (Go.Operand.tmp 95), type := 2, pos := "law.go:76", after := #[{ on := 8, ground := Go.Ground.data }, { on := 3, ground := Go.Ground.guard }], guard := some (3, false) }) (v := ?_) rfl (by kernel_rfl) (by kernel_rfl) (by kernel_rfl) (fun _ _ _ h => h) (Or.inl ⟨by rfl, ?_⟩) (by assumption) ?_
                rotate_left 1
                focus ((intro wS hSw; (try dsimp only at hSw); go_simp) <;> (try with_reducible rfl))
                simp only [Act.put, List.setIfInBounds_toArray, List.set_cons_zero, List.set_cons_succ]
                refine wpAnyH_ready (rs := [5]) (by kernel_rfl) (by simp) ?_
                refine AllReadyH.cons (o := { dst := some 92, op := Go.Op.call { callee := Go.Callee.value (Go.Operand.func 25), args := #[Go.Operand.tmp 91], argTypes := #[48] }, type := 2, pos := "law.go:76", after := #[{ on := 4, ground := Go.Ground.data }, { on := 3, ground := Go.Ground.chain }, { on := 3, ground := Go.Ground.guard }], guard := some (3, false) }) rfl (fun K hK => ?_) AllReadyH.nil
                go_simp
                refine (wtr_off v8.drew (W8.out.below (Below.refl _ _).drew)).mono ?_; rintro e w9 ⟨rfl, rfl⟩
                go_wp2_with fail
                refine hK.out _ _ (K8.out _ (Below.refl _ _).drew) (fun hHeld => ?_)
                clear hK K
                (try simp only [Act.put, List.setIfInBounds_toArray, List.set_cons_zero, List.set_cons_succ])
                refine wpAnyH_take (i := 10) (oi := { dst := some 97, op := Go.Op.binOp Go.BinOp.neq 2 (Go.Operand.tmp 92) (Go.Operand.tmp 96) 2, type := 4, pos := "law.go:76", after := #[{ on := 5, ground := Go.Ground.data }, { on := 9, ground := Go.Ground.data }, { on := 3, ground := Go.Ground.guard }], guard := some (3, false) }) (v := ?_) rfl (by kernel_rfl) (by kernel_rfl) (by kernel_rfl) (fun _ _ _ h => h) (Or.inl ⟨by rfl, ?_⟩) (by assumption) ?_
                rotate_left 1
                focus ((intro wS hSw; (try dsimp only at hSw); go_simp) <;> (try with_reducible rfl))
                simp only [Act.put, List.setIfInBounds_toArray, List.set_cons_zero, List.set_cons_succ]
                refine wpAnyH_take (i := 11) (oi := { dst := some 98, op := Go.Op.pick (Go.Operand.tmp 90) (Go.Operand.const (Go.Value.bool true)) (Go.Operand.tmp 97), type := 4, pos := "law.go:76", after := #[{ on := 3, ground := Go.Ground.data }, { on := 10, ground := Go.Ground.data }], guard := none }) (v := ?_) rfl (by kernel_rfl) (by kernel_rfl) (by kernel_rfl) (fun _ _ _ h => h) (Or.inl ⟨by rfl, ?_⟩) (by assumption) ?_
                rotate_left 1
                focus ((intro wS hSw; (try dsimp only at hSw); go_simp) <;> (try with_reducible rfl))
                simp only [Act.put, List.setIfInBounds_toArray, List.set_cons_zero, List.set_cons_succ]
                refine wpAnyH_take (i := 12) (oi := { dst := some 99, op := Go.Op.move (Go.Operand.tmp 98), type := 4, pos := "law.go:76", after := #[{ on := 11, ground := Go.Ground.data }, { on := 5, ground := Go.Ground.chain }], guard := none }) (v := ?_) rfl (by kernel_rfl) (by kernel_rfl) (by kernel_rfl) (fun _ _ _ h => h) (Or.inl ⟨by rfl, ?_⟩) (by assumption) ?_
                rotate_left 1
                focus ((intro wS hSw; (try dsimp only at hSw); go_simp) <;> (try with_reducible rfl))
                simp only [Act.put, List.setIfInBounds_toArray, List.set_cons_zero, List.set_cons_succ]
                refine wpAnyH_take (i := 13) (oi := { dst := some 100, op := Go.Op.move (Go.Operand.tmp 5), type := 44, pos := "law.go:76", after := #[{ on := 12, ground := Go.Ground.guard }], guard := some (12, false) }) (v := ?_) rfl (by kernel_rfl) (by kernel_rfl) (by kernel_rfl) (fun _ _ _ h => h) (Or.inl ⟨by rfl, ?_⟩) (by assumption) ?_
                rotate_left 1
                focus ((intro wS hSw; (try dsimp only at hSw); go_simp) <;> (try with_reducible rfl))
                simp only [Act.put, List.setIfInBounds_toArray, List.set_cons_zero, List.set_cons_succ]
                refine wpAnyH_take (i := 16) (oi := { dst := some 103, op := Go.Op.move (Go.Operand.tmp 6), type := 46, pos := "law.go:76", after := #[{ on := 12, ground := Go.Ground.guard }], guard := some (12, false) }) (v := ?_) rfl (by kernel_rfl) (by kernel_rfl) (by kernel_rfl) (fun _ _ _ h => h) (Or.inl ⟨by rfl, ?_⟩) (by assumption) ?_
                rotate_left 1
                focus ((intro wS hSw; (try dsimp only at hSw); go_simp) <;> (try with_reducible rfl))
                simp only [Act.put, List.setIfInBounds_toArray, List.set_cons_zero, List.set_cons_succ]
                refine wpAnyH_take (i := 17) (oi := { dst := some 104, op := Go.Op.nilCheck (Go.Operand.tmp 103), type := 0, pos := "law.go:76", after := #[{ on := 16, ground := Go.Ground.data }, { on := 12, ground := Go.Ground.guard }], guard := some (12, false) }) (v := ?_) rfl (by kernel_rfl) (by kernel_rfl) (by kernel_rfl) (fun _ _ _ h => h) (Or.inl ⟨by rfl, ?_⟩) (by assumption) ?_
                rotate_left 1
                focus ((intro wS hSw; (try dsimp only at hSw); go_simp) <;> (try with_reducible rfl))
                simp only [Act.put, List.setIfInBounds_toArray, List.set_cons_zero, List.set_cons_succ]
                refine wpAnyH_take (i := 18) (oi := { dst := some 105, op := Go.Op.fieldAddr 63 (Go.Operand.tmp 104) 0, type := 0, pos := "law.go:76", after := #[{ on := 17, ground := Go.Ground.data }, { on := 12, ground := Go.Ground.guard }], guard := some (12, false) }) (v := ?_) rfl (by kernel_rfl) (by kernel_rfl) (by kernel_rfl) (fun _ _ _ h => h) (Or.inl ⟨by rfl, ?_⟩) (by assumption) ?_
                rotate_left 1
                focus ((intro wS hSw; (try dsimp only at hSw); go_simp) <;> (try with_reducible rfl))
                simp only [Act.put, List.setIfInBounds_toArray, List.set_cons_zero, List.set_cons_succ]
                refine wpAnyH_take (i := 19) (oi := { dst := some 106, op := Go.Op.load 22 (Go.Operand.tmp 105), type := 22, pos := "law.go:76", after := #[{ on := 18, ground := Go.Ground.data }, { on := 12, ground := Go.Ground.guard }], guard := some (12, false) }) (v := ?_) rfl (by kernel_rfl) (by kernel_rfl) (by kernel_rfl) (fun _ _ _ h => h) (Or.inl ⟨by rfl, ?_⟩) (by assumption) ?_
                rotate_left 1
                focus ((intro wS hSw; (try dsimp only at hSw); go_simp) <;> (try with_reducible rfl))
                simp only [Act.put, List.setIfInBounds_toArray, List.set_cons_zero, List.set_cons_succ]
                refine wpAnyH_take (i := 20) (oi := { dst := some 107, op := Go.Op.convert 22 9 (Go.Operand.tmp 106), type := 9, pos := "law.go:76", after := #[{ on := 19, ground := Go.Ground.data }, { on := 12, ground := Go.Ground.guard }], guard := some (12, false) }) (v := ?_) rfl (by kernel_rfl) (by kernel_rfl) (by kernel_rfl) (fun _ _ _ h => h) (Or.inl ⟨by rfl, ?_⟩) (by assumption) ?_
                rotate_left 1
                focus ((intro wS hSw; (try dsimp only at hSw); go_simp) <;> (try with_reducible rfl))
                simp only [Act.put, List.setIfInBounds_toArray, List.set_cons_zero, List.set_cons_succ]
                refine wpAnyH_ready (rs := [14]) (by kernel_rfl) (by simp) ?_
                refine AllReadyH.cons (o := { dst := some 101, op := Go.Op.call { callee := Go.Callee.value (Go.Operand.func 26), args := #[Go.Operand.tmp 100], argTypes := #[44] }, type := 22, pos := "law.go:76", after := #[{ on := 13, ground := Go.Ground.data }, { on := 12, ground := Go.Ground.chain }, { on := 12, ground := Go.Ground.guard }], guard := some (12, false) }) rfl (fun K hK => ?_) AllReadyH.nil
                go_simp
                refine (sbytes_any v8.drew (SX.out.below (Below.refl _ _).drew)).mono ?_; rintro e v9 ⟨vv, rfl, o9, k9⟩; rw [YL.out] at o9; obtain ⟨a9, c9, rfl, x9, _⟩ := own_bytes o9 YB.out; have V9 := Lib.hid ((Below.refl v8.heap.size v8).drew.trans k9); have HC9 := Lib.hid (run_str_in (P := Try.prog) Try.underlying22 Try.underlying5 Try.underlying9 x9 N c9 YL.out); rw [← hSZ.out] at HC9; clear o9 k9 x9
                go_wp2_with fail
                refine hK.out _ _ (K8.out _ V9.out) (fun hHeld => ?_)
                clear hK K
                (try simp only [Act.put, List.setIfInBounds_toArray, List.set_cons_zero, List.set_cons_succ])
                refine wpAnyH_switch (S2 := (fun w' => (convert 22 9 (.slice a9 N c9)).run Try.prog w' = .ok (.string SZ) w' ∧ w'.cell? ⟨p, 1, none⟩ = some (.int .i64 O) ∧ w'.cell? ⟨t, 0, none⟩ = some (.slice da N dc) ∧ (convert 22 9 (.slice da N dc)).run Try.prog w' = .ok (.string SZ) w')) (fun _ h => h.2) ?_
                have hHeld : ((fun w' => (convert 22 9 (.slice a9 N c9)).run Try.prog w' = .ok (.string SZ) w' ∧ w'.cell? ⟨p, 1, none⟩ = some (.int .i64 O) ∧ w'.cell? ⟨t, 0, none⟩ = some (.slice da N dc) ∧ (convert 22 9 (.slice da N dc)).run Try.prog w' = .ok (.string SZ) w')) _ := ⟨HC9.out, K8.out _ V9.out⟩
                refine wpAnyH_take (i := 15) (oi := { dst := some 102, op := Go.Op.convert 22 9 (Go.Operand.tmp 101), type := 9, pos := "law.go:76", after := #[{ on := 14, ground := Go.Ground.data }, { on := 12, ground := Go.Ground.guard }], guard := some (12, false) }) (v := ?_) rfl (by kernel_rfl) (by kernel_rfl) (by kernel_rfl) (fun _ _ _ h => h) (Or.inl ⟨by rfl, ?_⟩) (by assumption) ?_
                rotate_left 1
                focus ((intro wS hSw; (try dsimp only at hSw); go_simp) <;> (try with_reducible rfl))
                simp only [Act.put, List.setIfInBounds_toArray, List.set_cons_zero, List.set_cons_succ]
                refine wpAnyH_take (i := 21) (oi := { dst := some 108, op := Go.Op.binOp Go.BinOp.neq 9 (Go.Operand.tmp 102) (Go.Operand.tmp 107) 9, type := 4, pos := "law.go:76", after := #[{ on := 15, ground := Go.Ground.data }, { on := 20, ground := Go.Ground.data }, { on := 12, ground := Go.Ground.guard }], guard := some (12, false) }) (v := ?_) rfl (by kernel_rfl) (by kernel_rfl) (by kernel_rfl) (fun _ _ _ h => h) (Or.inl ⟨by rfl, ?_⟩) (by assumption) ?_
                rotate_left 1
                focus ((intro wS hSw; (try dsimp only at hSw); go_simp) <;> (try with_reducible rfl))
                simp only [Act.put, List.setIfInBounds_toArray, List.set_cons_zero, List.set_cons_succ]
                refine wpAnyH_take (i := 22) (oi := { dst := some 109, op := Go.Op.pick (Go.Operand.tmp 99) (Go.Operand.const (Go.Value.bool true)) (Go.Operand.tmp 108), type := 4, pos := "law.go:76", after := #[{ on := 12, ground := Go.Ground.data }, { on := 21, ground := Go.Ground.data }], guard := none }) (v := ?_) rfl (by kernel_rfl) (by kernel_rfl) (by kernel_rfl) (fun _ _ _ h => h) (Or.inl ⟨by rfl, ?_⟩) (by assumption) ?_
                rotate_left 1
                focus ((intro wS hSw; (try dsimp only at hSw); go_simp) <;> (try with_reducible rfl))
                simp only [Act.put, List.setIfInBounds_toArray, List.set_cons_zero, List.set_cons_succ]
                refine wpAnyH_done (by kernel_rfl) ?_ _
                go_wp2_with fail
                go_roundw
                case rel => exact ⟨T1, T2, Y, O, V, j + 1, Nat.succ_le_of_lt hlt, by go_num, YN.out, HT1.out, HT2.out, W8.out.below V9.out, R8.out.below V9.out, B8.out.trans (V9.out.mono B8.out.size)⟩
                case measure => clear hys; simp [intOf]; omega
              · by_cases hk1 : kk = 1
                · subst hk1
                  go_wp2_with (first | (refine wpList_alloc_obj rfl 54 rfl [.int .i64 0, .slice none 0 0, .int .i64 0] HZ.out ?_; intro v4 h4 b4; have H4 := Lib.hid h4; have B4' := Lib.hid b4; clear h4 b4) | (refine wpList_store_obj rfl 54 _ _ rfl wr.heap.size rfl [.int .i64 1, .slice ba bl bc, .int .i64 nn] [.int .i64 0, .slice none 0 0, .int .i64 0] rfl 54 H4.out HZS.out rfl (by intro v hv; simp at hv; rcases hv with rfl | rfl | rfl <;> rfl) ?_; intro v5 h5 t5; have OB5 := Lib.hid h5; have T5 := Lib.hid t5; have d0 := h5.get 0 rfl; have d1 := h5.get 1 rfl; have d2 := h5.get 2 rfl; clear h5 t5))
                  have bb : Below wr.heap.size wr v5 := B4'.out.trans (T5.out.below (Nat.le_refl _))
                  have WW5 := Lib.hid (SS.out.below bb); have RR5 := Lib.hid (RR.out.below bb)
                  have B45 := Lib.hid (BR.out.trans (bb.mono BR.out.size))
                  have hga : Hid (¬ S1 wr.heap.size ∧ ¬ S2 wr.heap.size) := ⟨fun h => Nat.lt_irrefl _ (SS.out.lt.1 _ h), fun h => Nat.lt_irrefl _ (RR.out.lt.1 _ h)⟩
                  clear bb d0 d1 d2 c0 c1 c2
                  obtain ⟨n, hn⟩ : ∃ n : Nat, n = padN o := ⟨_, rfl⟩
                  obtain ⟨xs, hxs⟩ : ∃ xs, Hid (xs = zeros n) := ⟨_, rfl⟩
                  have XL : Hid (xs.length = n) := by show _ = _; rw [hxs.out]; exact zeros_length _
                  have hn5 : n ≤ 5000 := by have := padN_lt o; omega
                  obtain ⟨KB, hKB⟩ := named (wwK F ys.length n err)
                  obtain ⟨V, hV⟩ := named (wwE F ys.length n err)
                  have KBN : Hid (KB ≤ n) := by show _ ≤ _; rw [hKB.out]; exact wwK_le SS.out.le_F
                  obtain ⟨O, hO⟩ : ∃ O, Hid (O = o + KB) := ⟨_, rfl⟩
                  refine (wtr_pad v5 WW5.out (by omega) hFF).mono ?_; rintro e v6 ⟨rfl, s5, o5⟩
                  rw [← hn] at s5 ⊢
                  rw [← hxs.out] at s5
                  rw [← hKB.out, ← hV.out, ← hO.out] at s5
                  rw [← hV.out]
                  have W5 := Lib.hid s5; have Q5 := Lib.hid o5
                  have R5 := Lib.hid (RR5.out.only o5 (fun k hk h => (HS1.out k h).2 hk))
                  have B5 := Lib.hid (B45.out.trans (o5.below (B := w1.heap.size) (fun k hk => (HS1.out k hk).1) B45.out.size))
                  have OB := Lib.hid (OB5.out.only o5 (fun h => hga.out.1 h))
                  clear s5 o5
                  go_wp2_with fail
                  refine (rwr_pad v6 R5.out (by omega) hFF).mono ?_; rintro e v8 ⟨rfl, s6, o6⟩
                  rw [← hn] at s6 ⊢
                  rw [← hxs.out] at s6
                  rw [← hKB.out, ← hV.out, ← hO.out] at s6
                  rw [← hV.out]
                  have Q6 := Lib.hid o6
                  have hG : Hid (∀ k, Grow S1 v5 v6 k → w1.heap.size ≤ k ∧ ¬ S2 k) := fun k hk => hk.elim (HS1.out k) (fun h => ⟨Nat.le_trans B45.out.size h.1, fun h2 => by have := RR5.out.lt.1 k h2; omega⟩)
                  obtain ⟨Y, hY⟩ := named (ys ++ xs.take KB)
                  rw [← hY.out] at s6 W5
                  have R8 := Lib.hid s6
                  have W8 := Lib.hid (W5.out.only o6 (fun k hk h => (hG.out k hk).2 h))
                  have B8 := Lib.hid (B5.out.trans (o6.below (B := w1.heap.size) HS2.out B5.out.size))
                  obtain ⟨T1, hT1⟩ := named (Grow S1 v5 v6)
                  obtain ⟨T2, hT2⟩ := named (Grow S2 v6 v8)
                  have HT1 : Hid (∀ k, T1 k → w1.heap.size ≤ k ∧ ¬ T2 k) := by
                    show ∀ _, _
                    rw [hT1.out, hT2.out]
                    exact fun k hk => ⟨(hG.out k hk).1, fun h => h.elim (hG.out k hk).2 (fun h => by have := W5.out.lt.1 k hk; omega)⟩
                  have HT2 : Hid (∀ k, T2 k → w1.heap.size ≤ k) := by
                    show ∀ _, _
                    rw [hT2.out]
                    exact fun k hk => hk.elim (HS2.out k) (fun h => Nat.le_trans B5.out.size h.1)
                  rw [← hT1.out] at W8
                  rw [← hT2.out] at R8
                  have YN : Hid (Y.length ≤ 5000 * (j + 1)) := by
                    show _ ≤ _
                    have h1 : (xs.take KB).length ≤ 5000 := Nat.le_trans (by rw [List.length_take]; exact Nat.min_le_left _ _) (Nat.le_trans KBN.out hn5)
                    rw [hY.out, List.length_append, Nat.mul_succ]
                    exact Nat.add_le_add HYL.out h1
                  clear s6 o6
                  obtain ⟨N, hN⟩ : ∃ N, Hid (N = Y.length) := ⟨_, rfl⟩
                  have YL : Hid (Y.length = N) := hN.out.symm
                  obtain ⟨S', cs', r', hs', _, _⟩ := W8.out.sink
                  have SX := Lib.hid hs'
                  have YB : Hid (Bytes Y) := hs'.bytes.1
                  obtain ⟨SZ, hSZ⟩ := named (strOfNums Y)
                  obtain ⟨da, dc, k8⟩ := R8.out.told N YL.out SZ hSZ.out
                  have K8 := Lib.hid k8
                  have N8 : (N : Int) ≤ 100000000 := by have := SX.out.bytes.2.1; have := YL.out; omega
                  clear hs' k8
                  go_wp2_with fail
                  refine wp_region_held_drew (S := (fun w' => w'.cell? ⟨p, 1, none⟩ = some (.int .i64 O) ∧ w'.cell? ⟨t, 0, none⟩ = some (.slice da N dc) ∧ (convert 22 9 (.slice da N dc)).run Try.prog w' = .ok (.string SZ) w')) (by kernel_rfl) (K8.out _ (Below.refl _ _).drew) (fun hHeld => ?_)
                  refine wpAnyH_take (i := 0) (oi := { dst := some 87, op := Go.Op.move (Go.Operand.tmp 11), type := 36, pos := "law.go:76", after := #[], guard := none }) (v := ?_) rfl (by kernel_rfl) (by kernel_rfl) (by kernel_rfl) (fun _ _ _ h => h) (Or.inl ⟨by rfl, ?_⟩) (by assumption) ?_
                  rotate_left 1
                  focus ((intro wS hSw; (try dsimp only at hSw); go_simp) <;> (try with_reducible rfl))
                  simp only [Act.put, List.setIfInBounds_toArray, List.set_cons_zero, List.set_cons_succ]
                  refine wpAnyH_take (i := 1) (oi := { dst := some 88, op := Go.Op.move (Go.Operand.tmp 12), type := 3, pos := "law.go:76", after := #[], guard := none }) (v := ?_) rfl (by kernel_rfl) (by kernel_rfl) (by kernel_rfl) (fun _ _ _ h => h) (Or.inl ⟨by rfl, ?_⟩) (by assumption) ?_
                  rotate_left 1
                  focus ((intro wS hSw; (try dsimp only at hSw); go_simp) <;> (try with_reducible rfl))
                  simp only [Act.put, List.setIfInBounds_toArray, List.set_cons_zero, List.set_cons_succ]
                  refine wpAnyH_take (i := 2) (oi := { dst := some 89, op := Go.Op.binOp Go.BinOp.neq 3 (Go.Operand.tmp 87) (Go.Operand.tmp 88) 3, type := 4, pos := "law.go:76", after := #[{ on := 0, ground := Go.Ground.data }, { on := 1, ground := Go.Ground.data }], guard := none }) (v := ?_) rfl (by kernel_rfl) (by kernel_rfl) (by kernel_rfl) (fun _ _ _ h => h) (Or.inl ⟨by rfl, ?_⟩) (by assumption) ?_
                  rotate_left 1
                  focus ((intro wS hSw; (try dsimp only at hSw); go_simp) <;> (try with_reducible rfl))
                  simp only [Act.put, List.setIfInBounds_toArray, List.set_cons_zero, List.set_cons_succ]
                  refine wpAnyH_take (i := 3) (oi := { dst := some 90, op := Go.Op.move (Go.Operand.tmp 89), type := 4, pos := "law.go:76", after := #[{ on := 2, ground := Go.Ground.data }], guard := none }) (v := ?_) rfl (by kernel_rfl) (by kernel_rfl) (by kernel_rfl) (fun _ _ _ h => h) (Or.inl ⟨by rfl, ?_⟩) (by assumption) ?_
                  rotate_left 1
                  focus ((intro wS hSw; (try dsimp only at hSw); go_simp) <;> (try with_reducible rfl))
                  simp only [Act.put, List.setIfInBounds_toArray, List.set_cons_zero, List.set_cons_succ]
                  refine wpAnyH_take (i := 4) (oi := { dst := some 91, op := Go.Op.move (Go.Operand.tmp 7), type := 48, pos := "law.go:76", after := #[{ on := 3, ground := Go.Ground.guard }], guard := some (3, false) }) (v := ?_) rfl (by kernel_rfl) (by kernel_rfl) (by kernel_rfl) (fun _ _ _ h => h) (Or.inl ⟨by rfl, ?_⟩) (by assumption) ?_
                  rotate_left 1
                  focus ((intro wS hSw; (try dsimp only at hSw); go_simp) <;> (try with_reducible rfl))
                  simp only [Act.put, List.setIfInBounds_toArray, List.set_cons_zero, List.set_cons_succ]
                  refine wpAnyH_take (i := 6) (oi := { dst := some 93, op := Go.Op.move (Go.Operand.tmp 8), type := 50, pos := "law.go:76", after := #[{ on := 3, ground := Go.Ground.guard }], guard := some (3, false) }) (v := ?_) rfl (by kernel_rfl) (by kernel_rfl) (by kernel_rfl) (fun _ _ _ h => h) (Or.inl ⟨by rfl, ?_⟩) (by assumption) ?_
                  rotate_left 1
                  focus ((intro wS hSw; (try dsimp only at hSw); go_simp) <;> (try with_reducible rfl))
                  simp only [Act.put, List.setIfInBounds_toArray, List.set_cons_zero, List.set_cons_succ]
                  refine wpAnyH_take (i := 7) (oi := { dst := some 94, op := Go.Op.nilCheck (Go.Operand.tmp 93), type := 0, pos := "law.go:76", after := #[{ on := 6, ground := Go.Ground.data }, { on := 3, ground := Go.Ground.guard }], guard := some (3, false) }) (v := ?_) rfl (by kernel_rfl) (by kernel_rfl) (by kernel_rfl) (fun _ _ _ h => h) (Or.inl ⟨by rfl, ?_⟩) (by assumption) ?_
                  rotate_left 1
                  focus ((intro wS hSw; (try dsimp only at hSw); go_simp) <;> (try with_reducible rfl))
                  simp only [Act.put, List.setIfInBounds_toArray, List.set_cons_zero, List.set_cons_succ]
                  refine wpAnyH_take (i := 8) (oi := { dst := some 95, op := Go.Op.fieldAddr 52 (Go.Operand.tmp 94) 1, type := 0, pos := "law.go:76", after := #[{ on := 7, ground := Go.Ground.data }, { on := 3, ground := Go.Ground.guard }], guard := some (3, false) }) (v := ?_) rfl (by kernel_rfl) (by kernel_rfl) (by kernel_rfl) (fun _ _ _ h => h) (Or.inl ⟨by rfl, ?_⟩) (by assumption) ?_
                  rotate_left 1
                  focus ((intro wS hSw; (try dsimp only at hSw); go_simp) <;> (try with_reducible rfl))
                  simp only [Act.put, List.setIfInBounds_toArray, List.set_cons_zero, List.set_cons_succ]
                  refine wpAnyH_take (i := 9) (oi := { dst := some 96, op := Go.Op.load 2 (Go.Operand.tmp 95), type := 2, pos := "law.go:76", after := #[{ on := 8, ground := Go.Ground.data }, { on := 3, ground := Go.Ground.guard }], guard := some (3, false) }) (v := ?_) rfl (by kernel_rfl) (by kernel_rfl) (by kernel_rfl) (fun _ _ _ h => h) (Or.inl ⟨by rfl, ?_⟩) (by assumption) ?_
                  rotate_left 1
                  focus ((intro wS hSw; (try dsimp only at hSw); go_simp) <;> (try with_reducible rfl))
                  simp only [Act.put, List.setIfInBounds_toArray, List.set_cons_zero, List.set_cons_succ]
                  refine wpAnyH_ready (rs := [5]) (by kernel_rfl) (by simp) ?_
                  refine AllReadyH.cons (o := { dst := some 92, op := Go.Op.call { callee := Go.Callee.value (Go.Operand.func 25), args := #[Go.Operand.tmp 91], argTypes := #[48] }, type := 2, pos := "law.go:76", after := #[{ on := 4, ground := Go.Ground.data }, { on := 3, ground := Go.Ground.chain }, { on := 3, ground := Go.Ground.guard }], guard := some (3, false) }) rfl (fun K hK => ?_) AllReadyH.nil
                  go_simp
                  refine (wtr_off v8.drew (W8.out.below (Below.refl _ _).drew)).mono ?_; rintro e w9 ⟨rfl, rfl⟩
                  go_wp2_with fail
                  refine hK.out _ _ (K8.out _ (Below.refl _ _).drew) (fun hHeld => ?_)
                  clear hK K
                  (try simp only [Act.put, List.setIfInBounds_toArray, List.set_cons_zero, List.set_cons_succ])
                  refine wpAnyH_take (i := 10) (oi := { dst := some 97, op := Go.Op.binOp Go.BinOp.neq 2 (Go.Operand.tmp 92) (Go.Operand.tmp 96) 2, type := 4, pos := "law.go:76", after := #[{ on := 5, ground := Go.Ground.data }, { on := 9, ground := Go.Ground.data }, { on := 3, ground := Go.Ground.guard }], guard := some (3, false) }) (v := ?_) rfl (by kernel_rfl) (by kernel_rfl) (by kernel_rfl) (fun _ _ _ h => h) (Or.inl ⟨by rfl, ?_⟩) (by assumption) ?_
                  rotate_left 1
                  focus ((intro wS hSw; (try dsimp only at hSw); go_simp) <;> (try with_reducible rfl))
                  simp only [Act.put, List.setIfInBounds_toArray, List.set_cons_zero, List.set_cons_succ]
                  refine wpAnyH_take (i := 11) (oi := { dst := some 98, op := Go.Op.pick (Go.Operand.tmp 90) (Go.Operand.const (Go.Value.bool true)) (Go.Operand.tmp 97), type := 4, pos := "law.go:76", after := #[{ on := 3, ground := Go.Ground.data }, { on := 10, ground := Go.Ground.data }], guard := none }) (v := ?_) rfl (by kernel_rfl) (by kernel_rfl) (by kernel_rfl) (fun _ _ _ h => h) (Or.inl ⟨by rfl, ?_⟩) (by assumption) ?_
                  rotate_left 1
                  focus ((intro wS hSw; (try dsimp only at hSw); go_simp) <;> (try with_reducible rfl))
                  simp only [Act.put, List.setIfInBounds_toArray, List.set_cons_zero, List.set_cons_succ]
                  refine wpAnyH_take (i := 12) (oi := { dst := some 99, op := Go.Op.move (Go.Operand.tmp 98), type := 4, pos := "law.go:76", after := #[{ on := 11, ground := Go.Ground.data }, { on := 5, ground := Go.Ground.chain }], guard := none }) (v := ?_) rfl (by kernel_rfl) (by kernel_rfl) (by kernel_rfl) (fun _ _ _ h => h) (Or.inl ⟨by rfl, ?_⟩) (by assumption) ?_
                  rotate_left 1
                  focus ((intro wS hSw; (try dsimp only at hSw); go_simp) <;> (try with_reducible rfl))
                  simp only [Act.put, List.setIfInBounds_toArray, List.set_cons_zero, List.set_cons_succ]
                  refine wpAnyH_take (i := 13) (oi := { dst := some 100, op := Go.Op.move (Go.Operand.tmp 5), type := 44, pos := "law.go:76", after := #[{ on := 12, ground := Go.Ground.guard }], guard := some (12, false) }) (v := ?_) rfl (by kernel_rfl) (by kernel_rfl) (by kernel_rfl) (fun _ _ _ h => h) (Or.inl ⟨by rfl, ?_⟩) (by assumption) ?_
                  rotate_left 1
                  focus ((intro wS hSw; (try dsimp only at hSw); go_simp) <;> (try with_reducible rfl))
                  simp only [Act.put, List.setIfInBounds_toArray, List.set_cons_zero, List.set_cons_succ]
                  refine wpAnyH_take (i := 16) (oi := { dst := some 103, op := Go.Op.move (Go.Operand.tmp 6), type := 46, pos := "law.go:76", after := #[{ on := 12, ground := Go.Ground.guard }], guard := some (12, false) }) (v := ?_) rfl (by kernel_rfl) (by kernel_rfl) (by kernel_rfl) (fun _ _ _ h => h) (Or.inl ⟨by rfl, ?_⟩) (by assumption) ?_
                  rotate_left 1
                  focus ((intro wS hSw; (try dsimp only at hSw); go_simp) <;> (try with_reducible rfl))
                  simp only [Act.put, List.setIfInBounds_toArray, List.set_cons_zero, List.set_cons_succ]
                  refine wpAnyH_take (i := 17) (oi := { dst := some 104, op := Go.Op.nilCheck (Go.Operand.tmp 103), type := 0, pos := "law.go:76", after := #[{ on := 16, ground := Go.Ground.data }, { on := 12, ground := Go.Ground.guard }], guard := some (12, false) }) (v := ?_) rfl (by kernel_rfl) (by kernel_rfl) (by kernel_rfl) (fun _ _ _ h => h) (Or.inl ⟨by rfl, ?_⟩) (by assumption) ?_
                  rotate_left 1
                  focus ((intro wS hSw; (try dsimp only at hSw); go_simp) <;> (try with_reducible rfl))
                  simp only [Act.put, List.setIfInBounds_toArray, List.set_cons_zero, List.set_cons_succ]
                  refine wpAnyH_take (i := 18) (oi := { dst := some 105, op := Go.Op.fieldAddr 63 (Go.Operand.tmp 104) 0, type := 0, pos := "law.go:76", after := #[{ on := 17, ground := Go.Ground.data }, { on := 12, ground := Go.Ground.guard }], guard := some (12, false) }) (v := ?_) rfl (by kernel_rfl) (by kernel_rfl) (by kernel_rfl) (fun _ _ _ h => h) (Or.inl ⟨by rfl, ?_⟩) (by assumption) ?_
                  rotate_left 1
                  focus ((intro wS hSw; (try dsimp only at hSw); go_simp) <;> (try with_reducible rfl))
                  simp only [Act.put, List.setIfInBounds_toArray, List.set_cons_zero, List.set_cons_succ]
                  refine wpAnyH_take (i := 19) (oi := { dst := some 106, op := Go.Op.load 22 (Go.Operand.tmp 105), type := 22, pos := "law.go:76", after := #[{ on := 18, ground := Go.Ground.data }, { on := 12, ground := Go.Ground.guard }], guard := some (12, false) }) (v := ?_) rfl (by kernel_rfl) (by kernel_rfl) (by kernel_rfl) (fun _ _ _ h => h) (Or.inl ⟨by rfl, ?_⟩) (by assumption) ?_
                  rotate_left 1
                  focus ((intro wS hSw; (try dsimp only at hSw); go_simp) <;> (try with_reducible rfl))
                  simp only [Act.put, List.setIfInBounds_toArray, List.set_cons_zero, List.set_cons_succ]
                  refine wpAnyH_take (i := 20) (oi := { dst := some 107, op := Go.Op.convert 22 9 (Go.Operand.tmp 106), type := 9, pos := "law.go:76", after := #[{ on := 19, ground := Go.Ground.data }, { on := 12, ground := Go.Ground.guard }], guard := some (12, false) }) (v := ?_) rfl (by kernel_rfl) (by kernel_rfl) (by kernel_rfl) (fun _ _ _ h => h) (Or.inl ⟨by rfl, ?_⟩) (by assumption) ?_
                  rotate_left 1
                  focus ((intro wS hSw; (try dsimp only at hSw); go_simp) <;> (try with_reducible rfl))
                  simp only [Act.put, List.setIfInBounds_toArray, List.set_cons_zero, List.set_cons_succ]
                  refine wpAnyH_ready (rs := [14]) (by kernel_rfl) (by simp) ?_
                  refine AllReadyH.cons (o := { dst := some 101, op := Go.Op.call { callee := Go.Callee.value (Go.Operand.func 26), args := #[Go.Operand.tmp 100], argTypes := #[44] }, type := 22, pos := "law.go:76", after := #[{ on := 13, ground := Go.Ground.data }, { on := 12, ground := Go.Ground.chain }, { on := 12, ground := Go.Ground.guard }], guard := some (12, false) }) rfl (fun K hK => ?_) AllReadyH.nil
                  go_simp
                  refine (sbytes_any v8.drew (SX.out.below (Below.refl _ _).drew)).mono ?_; rintro e v9 ⟨vv, rfl, o9, k9⟩; rw [YL.out] at o9; obtain ⟨a9, c9, rfl, x9, _⟩ := own_bytes o9 YB.out; have V9 := Lib.hid ((Below.refl v8.heap.size v8).drew.trans k9); have HC9 := Lib.hid (run_str_in (P := Try.prog) Try.underlying22 Try.underlying5 Try.underlying9 x9 N c9 YL.out); rw [← hSZ.out] at HC9; clear o9 k9 x9
                  go_wp2_with fail
                  refine hK.out _ _ (K8.out _ V9.out) (fun hHeld => ?_)
                  clear hK K
                  (try simp only [Act.put, List.setIfInBounds_toArray, List.set_cons_zero, List.set_cons_succ])
                  refine wpAnyH_switch (S2 := (fun w' => (convert 22 9 (.slice a9 N c9)).run Try.prog w' = .ok (.string SZ) w' ∧ w'.cell? ⟨p, 1, none⟩ = some (.int .i64 O) ∧ w'.cell? ⟨t, 0, none⟩ = some (.slice da N dc) ∧ (convert 22 9 (.slice da N dc)).run Try.prog w' = .ok (.string SZ) w')) (fun _ h => h.2) ?_
                  have hHeld : ((fun w' => (convert 22 9 (.slice a9 N c9)).run Try.prog w' = .ok (.string SZ) w' ∧ w'.cell? ⟨p, 1, none⟩ = some (.int .i64 O) ∧ w'.cell? ⟨t, 0, none⟩ = some (.slice da N dc) ∧ (convert 22 9 (.slice da N dc)).run Try.prog w' = .ok (.string SZ) w')) _ := ⟨HC9.out, K8.out _ V9.out⟩
                  refine wpAnyH_take (i := 15) (oi := { dst := some 102, op := Go.Op.convert 22 9 (Go.Operand.tmp 101), type := 9, pos := "law.go:76", after := #[{ on := 14, ground := Go.Ground.data }, { on := 12, ground := Go.Ground.guard }], guard := some (12, false) }) (v := ?_) rfl (by kernel_rfl) (by kernel_rfl) (by kernel_rfl) (fun _ _ _ h => h) (Or.inl ⟨by rfl, ?_⟩) (by assumption) ?_
                  rotate_left 1
                  focus ((intro wS hSw; (try dsimp only at hSw); go_simp) <;> (try with_reducible rfl))
                  simp only [Act.put, List.setIfInBounds_toArray, List.set_cons_zero, List.set_cons_succ]
                  refine wpAnyH_take (i := 21) (oi := { dst := some 108, op := Go.Op.binOp Go.BinOp.neq 9 (Go.Operand.tmp 102) (Go.Operand.tmp 107) 9, type := 4, pos := "law.go:76", after := #[{ on := 15, ground := Go.Ground.data }, { on := 20, ground := Go.Ground.data }, { on := 12, ground := Go.Ground.guard }], guard := some (12, false) }) (v := ?_) rfl (by kernel_rfl) (by kernel_rfl) (by kernel_rfl) (fun _ _ _ h => h) (Or.inl ⟨by rfl, ?_⟩) (by assumption) ?_
                  rotate_left 1
                  focus ((intro wS hSw; (try dsimp only at hSw); go_simp) <;> (try with_reducible rfl))
                  simp only [Act.put, List.setIfInBounds_toArray, List.set_cons_zero, List.set_cons_succ]
                  refine wpAnyH_take (i := 22) (oi := { dst := some 109, op := Go.Op.pick (Go.Operand.tmp 99) (Go.Operand.const (Go.Value.bool true)) (Go.Operand.tmp 108), type := 4, pos := "law.go:76", after := #[{ on := 12, ground := Go.Ground.data }, { on := 21, ground := Go.Ground.data }], guard := none }) (v := ?_) rfl (by kernel_rfl) (by kernel_rfl) (by kernel_rfl) (fun _ _ _ h => h) (Or.inl ⟨by rfl, ?_⟩) (by assumption) ?_
                  rotate_left 1
                  focus ((intro wS hSw; (try dsimp only at hSw); go_simp) <;> (try with_reducible rfl))
                  simp only [Act.put, List.setIfInBounds_toArray, List.set_cons_zero, List.set_cons_succ]
                  refine wpAnyH_done (by kernel_rfl) ?_ _
                  go_wp2_with fail
                  go_roundw
                  case rel => exact ⟨T1, T2, Y, O, V, j + 1, Nat.succ_le_of_lt hlt, by go_num, YN.out, HT1.out, HT2.out, W8.out.below V9.out, R8.out.below V9.out, B8.out.trans (V9.out.mono B8.out.size)⟩
                  case measure => clear hys; simp [intOf]; omega
                · have hk0' : (kk == 0) = false := by simpa using hk0
                  have hk1' : (kk == 1) = false := by simpa using hk1
                  by_cases hneg : nn < 0
                  · go_wp2_with (first | (refine wpList_alloc_obj rfl 54 rfl [.int .i64 0, .slice none 0 0, .int .i64 0] HZ.out ?_; intro v4 h4 b4; have H4 := Lib.hid h4; have B4' := Lib.hid b4; clear h4 b4) | (refine wpList_store_obj rfl 54 _ _ rfl wr.heap.size rfl [.int .i64 kk, .slice ba bl bc, .int .i64 nn] [.int .i64 0, .slice none 0 0, .int .i64 0] rfl 54 H4.out HZS.out rfl (by intro v hv; simp at hv; rcases hv with rfl | rfl | rfl <;> rfl) ?_; intro v5 h5 t5; have OB5 := Lib.hid h5; have T5 := Lib.hid t5; have d0 := h5.get 0 rfl; have d1 := h5.get 1 rfl; have d2 := h5.get 2 rfl; clear h5 t5))
                    have bb : Below wr.heap.size wr v5 := B4'.out.trans (T5.out.below (Nat.le_refl _))
                    have WW5 := Lib.hid (SS.out.below bb); have RR5 := Lib.hid (RR.out.below bb)
                    have B45 := Lib.hid (BR.out.trans (bb.mono BR.out.size))
                    have hga : Hid (¬ S1 wr.heap.size ∧ ¬ S2 wr.heap.size) := ⟨fun h => Nat.lt_irrefl _ (SS.out.lt.1 _ h), fun h => Nat.lt_irrefl _ (RR.out.lt.1 _ h)⟩
                    clear bb d0 d1 d2 c0 c1 c2
                    refine wp_region_held_drew (S := (fun w' => w'.cell? ⟨wr.heap.size, 2, none⟩ = some (.int .i64 nn))) (by kernel_rfl) ((OB5.out : ObjAt v5.drew wr.heap.size _ _).get 2 rfl) (fun hHeld => ?_)
                    refine wpAnyH_take (i := 0) (oi := { dst := some 44, op := Go.Op.move (Go.Operand.tmp 7), type := 48, pos := "law.go:74", after := #[], guard := none }) (v := ?_) rfl (by kernel_rfl) (by kernel_rfl) (by kernel_rfl) (fun _ _ _ h => h) (Or.inl ⟨by rfl, ?_⟩) (by assumption) ?_
                    rotate_left 1
                    focus ((intro wS hSw; (try dsimp only at hSw); go_simp) <;> (try with_reducible rfl))
                    simp only [Act.put, List.setIfInBounds_toArray, List.set_cons_zero, List.set_cons_succ]
                    refine wpAnyH_take (i := 1) (oi := { dst := some 45, op := Go.Op.fieldAddr 54 (Go.Operand.tmp 10) 2, type := 0, pos := "law.go:74", after := #[], guard := none }) (v := ?_) rfl (by kernel_rfl) (by kernel_rfl) (by kernel_rfl) (fun _ _ _ h => h) (Or.inl ⟨by rfl, ?_⟩) (by assumption) ?_
                    rotate_left 1
                    focus ((intro wS hSw; (try dsimp only at hSw); go_simp) <;> (try with_reducible rfl))
                    simp only [Act.put, List.setIfInBounds_toArray, List.set_cons_zero, List.set_cons_succ]
                    refine wpAnyH_take (i := 2) (oi := { dst := some 46, op := Go.Op.load 3 (Go.Operand.tmp 45), type := 3, pos := "law.go:74", after := #[{ on := 1, ground := Go.Ground.data }], guard := none }) (v := ?_) rfl (by kernel_rfl) (by kernel_rfl) (by kernel_rfl) (fun _ _ _ h => h) (Or.inl ⟨by rfl, ?_⟩) (by assumption) ?_
                    rotate_left 1
                    focus ((intro wS hSw; (try dsimp only at hSw); go_simp) <;> (try with_reducible rfl))
                    simp only [Act.put, List.setIfInBounds_toArray, List.set_cons_zero, List.set_cons_succ]
                    refine wpAnyH_take (i := 4) (oi := { dst := some 48, op := Go.Op.move (Go.Operand.tmp 8), type := 50, pos := "law.go:74", after := #[], guard := none }) (v := ?_) rfl (by kernel_rfl) (by kernel_rfl) (by kernel_rfl) (fun _ _ _ h => h) (Or.inl ⟨by rfl, ?_⟩) (by assumption) ?_
                    rotate_left 1
                    focus ((intro wS hSw; (try dsimp only at hSw); go_simp) <;> (try with_reducible rfl))
                    simp only [Act.put, List.setIfInBounds_toArray, List.set_cons_zero, List.set_cons_succ]
                    refine wpAnyH_take (i := 5) (oi := { dst := some 49, op := Go.Op.fieldAddr 54 (Go.Operand.tmp 10) 2, type := 0, pos := "law.go:74", after := #[], guard := none }) (v := ?_) rfl (by kernel_rfl) (by kernel_rfl) (by kernel_rfl) (fun _ _ _ h => h) (Or.inl ⟨by rfl, ?_⟩) (by assumption) ?_
                    rotate_left 1
                    focus ((intro wS hSw; (try dsimp only at hSw); go_simp) <;> (try with_reducible rfl))
                    simp only [Act.put, List.setIfInBounds_toArray, List.set_cons_zero, List.set_cons_succ]
                    refine wpAnyH_take (i := 6) (oi := { dst := some 50, op := Go.Op.load 3 (Go.Operand.tmp 49), type := 3, pos := "law.go:74", after := #[{ on := 5, ground := Go.Ground.data }], guard := none }) (v := ?_) rfl (by kernel_rfl) (by kernel_rfl) (by kernel_rfl) (fun _ _ _ h => h) (Or.inl ⟨by rfl, ?_⟩) (by assumption) ?_
                    rotate_left 1
                    focus ((intro wS hSw; (try dsimp only at hSw); go_simp) <;> (try with_reducible rfl))
                    simp only [Act.put, List.setIfInBounds_toArray, List.set_cons_zero, List.set_cons_succ]
                    refine wpAnyH_ready (rs := [3]) (by kernel_rfl) (by simp) ?_
                    refine AllReadyH.cons (o := { dst := some 47, op := Go.Op.call { callee := Go.Callee.value (Go.Operand.func 23), args := #[Go.Operand.tmp 44, Go.Operand.tmp 46], argTypes := #[48, 3] }, type := 36, pos := "law.go:74", after := #[{ on := 0, ground := Go.Ground.data }, { on := 2, ground := Go.Ground.data }], guard := none }) rfl (fun K hK => ?_) AllReadyH.nil
                    go_simp
                    refine (wtr_zeros_arg nn _ (WW5.out.below (Below.refl _ _).drew) (by omega)).mono ?_; rintro e v6 ⟨rfl, rfl⟩
                    go_wp2_with fail
                    refine hK.out _ _ ((OB5.out : ObjAt v5.drew wr.heap.size _ _).get 2 rfl) (fun hHeld => ?_)
                    clear hK K
                    (try simp only [Act.put, List.setIfInBounds_toArray, List.set_cons_zero, List.set_cons_succ])
                    refine wpAnyH_ready (rs := [7]) (by kernel_rfl) (by simp) ?_
                    refine AllReadyH.cons (o := { dst := some 51, op := Go.Op.call { callee := Go.Callee.value (Go.Operand.func 24), args := #[Go.Operand.tmp 48, Go.Operand.tmp 50], argTypes := #[50, 3] }, type := 3, pos := "law.go:74", after := #[{ on := 4, ground := Go.Ground.data }, { on := 6, ground := Go.Ground.data }, { on := 3, ground := Go.Ground.chain }], guard := none }) rfl (fun K hK => ?_) AllReadyH.nil
                    go_simp
                    refine (rwr_zeros_arg nn _ (RR5.out.below (Below.refl _ _).drew) (by omega)).mono ?_; rintro e v6 ⟨rfl, rfl⟩
                    go_wp2_with fail
                    refine hK.out _ _ ((OB5.out : ObjAt v5.drew wr.heap.size _ _).get 2 rfl) (fun hHeld => ?_)
                    clear hK K
                    (try simp only [Act.put, List.setIfInBounds_toArray, List.set_cons_zero, List.set_cons_succ])
                    refine wpAnyH_take (i := 8) (oi := { dst := some 11, op := Go.Op.assign (Go.Operand.tmp 47), type := 36, pos := "law.go:74", after := #[{ on := 3, ground := Go.Ground.data }, { on := 7, ground := Go.Ground.chain }, { on := 0, ground := Go.Ground.phase }, { on := 1, ground := Go.Ground.phase }, { on := 2, ground := Go.Ground.phase }, { on := 3, ground := Go.Ground.phase }, { on := 4, ground := Go.Ground.textOnly Go.Departure.lateStores }, { on := 5, ground := Go.Ground.textOnly Go.Departure.lateStores }, { on := 6, ground := Go.Ground.textOnly Go.Departure.lateStores }, { on := 7, ground := Go.Ground.textOnly Go.Departure.lateStoresUnsure }], guard := none }) (v := ?_) rfl (by kernel_rfl) (by kernel_rfl) (by kernel_rfl) (fun _ _ _ h => h) (Or.inl ⟨by rfl, ?_⟩) (by assumption) ?_
                    rotate_left 1
                    focus ((intro wS hSw; (try dsimp only at hSw); go_simp) <;> (try with_reducible rfl))
                    simp only [Act.put, List.setIfInBounds_toArray, List.set_cons_zero, List.set_cons_succ]
                    refine wpAnyH_take (i := 9) (oi := { dst := some 12, op := Go.Op.assign (Go.Operand.tmp 51), type := 3, pos := "law.go:74", after := #[{ on := 7, ground := Go.Ground.data }, { on := 8, ground := Go.Ground.chain }, { on := 0, ground := Go.Ground.phase }, { on := 1, ground := Go.Ground.phase }, { on := 2, ground := Go.Ground.phase }, { on := 3, ground := Go.Ground.phase }, { on := 4, ground := Go.Ground.phase }, { on := 5, ground := Go.Ground.phase }, { on := 6, ground := Go.Ground.phase }, { on := 7, ground := Go.Ground.phase }, { on := 8, ground := Go.Ground.phase }], guard := none }) (v := ?_) rfl (by kernel_rfl) (by kernel_rfl) (by kernel_rfl) (fun _ _ _ h => h) (Or.inl ⟨by rfl, ?_⟩) (by assumption) ?_
                    rotate_left 1
                    focus ((intro wS hSw; (try dsimp only at hSw); go_simp) <;> (try with_reducible rfl))
                    simp only [Act.put, List.setIfInBounds_toArray, List.set_cons_zero, List.set_cons_succ]
                    refine wpAnyH_done (by kernel_rfl) ?_ _
                    obtain ⟨v8, hv8⟩ : ∃ v8, v8 = v5.drew := ⟨_, rfl⟩
                    have W8 : Hid (Wtr v8 S1 g m ys F o err) := by show Wtr _ _ _ _ _ _ _ _; rw [hv8]; exact WW5.out.below (Below.refl _ _).drew
                    have R8 : Hid (RWr v8 S2 p t ys F o err) := by show RWr _ _ _ _ _ _ _ _; rw [hv8]; exact RR5.out.below (Below.refl _ _).drew
                    have B8 : Hid (Below w1.heap.size w1 v8) := by show Below _ _ _; rw [hv8]; exact B45.out.trans (Below.refl _ _).drew
                    rw [← hv8]
                    obtain ⟨T1, hT1⟩ : ∃ T1, T1 = S1 := ⟨_, rfl⟩
                    obtain ⟨T2, hT2⟩ : ∃ T2, T2 = S2 := ⟨_, rfl⟩
                    obtain ⟨Y, hY⟩ : ∃ Y, Y = ys := ⟨_, rfl⟩
                    obtain ⟨O, hO⟩ : ∃ O, O = o := ⟨_, rfl⟩
                    obtain ⟨V, hV⟩ : ∃ V, V = err := ⟨_, rfl⟩
                    rw [← hT1, ← hY, ← hO, ← hV] at W8
                    rw [← hT2, ← hY, ← hO, ← hV] at R8
                    have HT1 : Hid (∀ k, T1 k → w1.heap.size ≤ k ∧ ¬ T2 k) := by show ∀ _, _; rw [hT1, hT2]; exact HS1.out
                    have HT2 : Hid (∀ k, T2 k → w1.heap.size ≤ k) := by show ∀ _, _; rw [hT2]; exact HS2.out
                    have YN : Hid (Y.length ≤ 5000 * (j + 1)) := by show _ ≤ _; rw [hY]; exact Nat.le_trans HYL.out (Nat.mul_le_mul_left _ (Nat.le_succ j))
                    clear hv8 hT1 hT2 hY hO hV
                    obtain ⟨N, hN⟩ : ∃ N, Hid (N = Y.length) := ⟨_, rfl⟩
                    have YL : Hid (Y.length = N) := hN.out.symm
                    obtain ⟨S', cs', r', hs', _, _⟩ := W8.out.sink
                    have SX := Lib.hid hs'
                    have YB : Hid (Bytes Y) := hs'.bytes.1
                    obtain ⟨SZ, hSZ⟩ := named (strOfNums Y)
                    obtain ⟨da, dc, k8⟩ := R8.out.told N YL.out SZ hSZ.out
                    have K8 := Lib.hid k8
                    have N8 : (N : Int) ≤ 100000000 := by have := SX.out.bytes.2.1; have := YL.out; omega
                    clear hs' k8
                    go_wp2_with fail
                    refine wp_region_held_drew (S := (fun w' => w'.cell? ⟨p, 1, none⟩ = some (.int .i64 O) ∧ w'.cell? ⟨t, 0, none⟩ = some (.slice da N dc) ∧ (convert 22 9 (.slice da N dc)).run Try.prog w' = .ok (.string SZ) w')) (by kernel_rfl) (K8.out _ (Below.refl _ _).drew) (fun hHeld => ?_)
                    refine wpAnyH_take (i := 0) (oi := { dst := some 87, op := Go.Op.move (Go.Operand.tmp 11), type := 36, pos := "law.go:76", after := #[], guard := none }) (v := ?_) rfl (by kernel_rfl) (by kernel_rfl) (by kernel_rfl) (fun _ _ _ h => h) (Or.inl ⟨by rfl, ?_⟩) (by assumption) ?_
                    rotate_left 1
                    focus ((intro wS hSw; (try dsimp only at hSw); go_simp) <;> (try with_reducible rfl))
                    simp only [Act.put, List.setIfInBounds_toArray, List.set_cons_zero, List.set_cons_succ]
                    refine wpAnyH_take (i := 1) (oi := { dst := some 88, op := Go.Op.move (Go.Operand.tmp 12), type := 3, pos := "law.go:76", after := #[], guard := none }) (v := ?_) rfl (by kernel_rfl) (by kernel_rfl) (by kernel_rfl) (fun _ _ _ h => h) (Or.inl ⟨by rfl, ?_⟩) (by assumption) ?_
                    rotate_left 1
                    focus ((intro wS hSw; (try dsimp only at hSw); go_simp) <;> (try with_reducible rfl))
                    simp only [Act.put, List.setIfInBounds_toArray, List.set_cons_zero, List.set_cons_succ]
                    refine wpAnyH_take (i := 2) (oi := { dst := some 89, op := Go.Op.binOp Go.BinOp.neq 3 (Go.Operand.tmp 87) (Go.Operand.tmp 88) 3, type := 4, pos := "law.go:76", after := #[{ on := 0, ground := Go.Ground.data }, { on := 1, ground := Go.Ground.data }], guard := none }) (v := ?_) rfl (by kernel_rfl) (by kernel_rfl) (by kernel_rfl) (fun _ _ _ h => h) (Or.inl ⟨by rfl, ?_⟩) (by assumption) ?_
                    rotate_left 1
                    focus ((intro wS hSw; (try dsimp only at hSw); go_simp) <;> (try with_reducible rfl))
                    simp only [Act.put, List.setIfInBounds_toArray, List.set_cons_zero, List.set_cons_succ]
                    refine wpAnyH_take (i := 3) (oi := { dst := some 90, op := Go.Op.move (Go.Operand.tmp 89), type := 4, pos := "law.go:76", after := #[{ on := 2, ground := Go.Ground.data }], guard := none }) (v := ?_) rfl (by kernel_rfl) (by kernel_rfl) (by kernel_rfl) (fun _ _ _ h => h) (Or.inl ⟨by rfl, ?_⟩) (by assumption) ?_
                    rotate_left 1
                    focus ((intro wS hSw; (try dsimp only at hSw); go_simp) <;> (try with_reducible rfl))
                    simp only [Act.put, List.setIfInBounds_toArray, List.set_cons_zero, List.set_cons_succ]
                    refine wpAnyH_take (i := 4) (oi := { dst := some 91, op := Go.Op.move (Go.Operand.tmp 7), type := 48, pos := "law.go:76", after := #[{ on := 3, ground := Go.Ground.guard }], guard := some (3, false) }) (v := ?_) rfl (by kernel_rfl) (by kernel_rfl) (by kernel_rfl) (fun _ _ _ h => h) (Or.inl ⟨by rfl, ?_⟩) (by assumption) ?_
                    rotate_left 1
                    focus ((intro wS hSw; (try dsimp only at hSw); go_simp) <;> (try with_reducible rfl))
                    simp only [Act.put, List.setIfInBounds_toArray, List.set_cons_zero, List.set_cons_succ]
                    refine wpAnyH_take (i := 6) (oi := { dst := some 93, op := Go.Op.move (Go.Operand.tmp 8), type := 50, pos := "law.go:76", after := #[{ on := 3, ground := Go.Ground.guard }], guard := some (3, false) }) (v := ?_) rfl (by kernel_rfl) (by kernel_rfl) (by kernel_rfl) (fun _ _ _ h => h) (Or.inl ⟨by rfl, ?_⟩) (by assumption) ?_
                    rotate_left 1
                    focus ((intro wS hSw; (try dsimp only at hSw); go_simp) <;> (try with_reducible rfl))
                    simp only [Act.put, List.setIfInBounds_toArray, List.set_cons_zero, List.set_cons_succ]
                    refine wpAnyH_take (i := 7) (oi := { dst := some 94, op := Go.Op.nilCheck (Go.Operand.tmp 93), type := 0, pos := "law.go:76", after := #[{ on := 6, ground := Go.Ground.data }, { on := 3, ground := Go.Ground.guard }], guard := some (3, false) }) (v := ?_) rfl (by kernel_rfl) (by kernel_rfl) (by kernel_rfl) (fun _ _ _ h => h) (Or.inl ⟨by rfl, ?_⟩) (by assumption) ?_
                    rotate_left 1
                    focus ((intro wS hSw; (try dsimp only at hSw); go_simp) <;> (try with_reducible rfl))
                    simp only [Act.put, List.setIfInBounds_toArray, List.set_cons_zero, List.set_cons_succ]
                    refine wpAnyH_take (i := 8) (oi := { dst := some 95, op := Go.Op.fieldAddr 52 (Go.Operand.tmp 94) 1, type := 0, pos := "law.go:76", after := #[{ on := 7, ground := Go.Ground.data }, { on := 3, ground := Go.Ground.guard }], guard := some (3, false) }) (v := ?_) rfl (by kernel_rfl) (by kernel_rfl) (by kernel_rfl) (fun _ _ _ h => h) (Or.inl ⟨by rfl, ?_⟩) (by assumption) ?_
                    rotate_left 1
                    focus ((intro wS hSw; (try dsimp only at hSw); go_simp) <;> (try with_reducible rfl))
                    simp only [Act.put, List.setIfInBounds_toArray, List.set_cons_zero, List.set_cons_succ]
                    refine wpAnyH_take (i := 9) (oi := { dst := some 96, op := Go.Op.load 2 (Go.Operand.tmp 95), type := 2, pos := "law.go:76", after := #[{ on := 8, ground := Go.Ground.data }, { on := 3, ground := Go.Ground.guard }], guard := some (3, false) }) (v := ?_) rfl (by kernel_rfl) (by kernel_rfl) (by kernel_rfl) (fun _ _ _ h => h) (Or.inl ⟨by rfl, ?_⟩) (by assumption) ?_
                    rotate_left 1
                    focus ((intro wS hSw; (try dsimp only at hSw); go_simp) <;> (try with_reducible rfl))
                    simp only [Act.put, List.setIfInBounds_toArray, List.set_cons_zero, List.set_cons_succ]
                    refine wpAnyH_ready (rs := [5]) (by kernel_rfl) (by simp) ?_
                    refine AllReadyH.cons (o := { dst := some 92, op := Go.Op.call { callee := Go.Callee.value (Go.Operand.func 25), args := #[Go.Operand.tmp 91], argTypes := #[48] }, type := 2, pos := "law.go:76", after := #[{ on := 4, ground := Go.Ground.data }, { on := 3, ground := Go.Ground.chain }, { on := 3, ground := Go.Ground.guard }], guard := some (3, false) }) rfl (fun K hK => ?_) AllReadyH.nil
                    go_simp
                    refine (wtr_off v8.drew (W8.out.below (Below.refl _ _).drew)).mono ?_; rintro e w9 ⟨rfl, rfl⟩
                    go_wp2_with fail
                    refine hK.out _ _ (K8.out _ (Below.refl _ _).drew) (fun hHeld => ?_)
                    clear hK K
                    (try simp only [Act.put, List.setIfInBounds_toArray, List.set_cons_zero, List.set_cons_succ])
                    refine wpAnyH_take (i := 10) (oi := { dst := some 97, op := Go.Op.binOp Go.BinOp.neq 2 (Go.Operand.tmp 92) (Go.Operand.tmp 96) 2, type := 4, pos := "law.go:76", after := #[{ on := 5, ground := Go.Ground.data }, { on := 9, ground := Go.Ground.data }, { on := 3, ground := Go.Ground.guard }], guard := some (3, false) }) (v := ?_) rfl (by kernel_rfl) (by kernel_rfl) (by kernel_rfl) (fun _ _ _ h => h) (Or.inl ⟨by rfl, ?_⟩) (by assumption) ?_
                    rotate_left 1
                    focus ((intro wS hSw; (try dsimp only at hSw); go_simp) <;> (try with_reducible rfl))
                    simp only [Act.put, List.setIfInBounds_toArray, List.set_cons_zero, List.set_cons_succ]
                    refine wpAnyH_take (i := 11) (oi := { dst := some 98, op := Go.Op.pick (Go.Operand.tmp 90) (Go.Operand.const (Go.Value.bool true)) (Go.Operand.tmp 97), type := 4, pos := "law.go:76", after := #[{ on := 3, ground := Go.Ground.data }, { on := 10, ground := Go.Ground.data }], guard := none }) (v := ?_) rfl (by kernel_rfl) (by kernel_rfl) (by kernel_rfl) (fun _ _ _ h => h) (Or.inl ⟨by rfl, ?_⟩) (by assumption) ?_
                    rotate_left 1
                    focus ((intro wS hSw; (try dsimp only at hSw); go_simp) <;> (try with_reducible rfl))
                    simp only [Act.put, List.setIfInBounds_toArray, List.set_cons_zero, List.set_cons_succ]
                    refine wpAnyH_take (i := 12) (oi := { dst := some 99, op := Go.Op.move (Go.Operand.tmp 98), type := 4, pos := "law.go:76", after := #[{ on := 11, ground := Go.Ground.data }, { on := 5, ground := Go.Ground.chain }], guard := none }) (v := ?_) rfl (by kernel_rfl) (by kernel_rfl) (by kernel_rfl) (fun _ _ _ h => h) (Or.inl ⟨by rfl, ?_⟩) (by assumption) ?_
                    rotate_left 1
                    focus ((intro wS hSw; (try dsimp only at hSw); go_simp) <;> (try with_reducible rfl))
                    simp only [Act.put, List.setIfInBounds_toArray, List.set_cons_zero, List.set_cons_succ]
                    refine wpAnyH_take (i := 13) (oi := { dst := some 100, op := Go.Op.move (Go.Operand.tmp 5), type := 44, pos := "law.go:76", after := #[{ on := 12, ground := Go.Ground.guard }], guard := some (12, false) }) (v := ?_) rfl (by kernel_rfl) (by kernel_rfl) (by kernel_rfl) (fun _ _ _ h => h) (Or.inl ⟨by rfl, ?_⟩) (by assumption) ?_
                    rotate_left 1
                    focus ((intro wS hSw; (try dsimp only at hSw); go_simp) <;> (try with_reducible rfl))
                    simp only [Act.put, List.setIfInBounds_toArray, List.set_cons_zero, List.set_cons_succ]
                    refine wpAnyH_take (i := 16) (oi := { dst := some 103, op := Go.Op.move (Go.Operand.tmp 6), type := 46, pos := "law.go:76", after := #[{ on := 12, ground := Go.Ground.guard }], guard := some (12, false) }) (v := ?_) rfl (by kernel_rfl) (by kernel_rfl) (by kernel_rfl) (fun _ _ _ h => h) (Or.inl ⟨by rfl, ?_⟩) (by assumption) ?_
                    rotate_left 1
                    focus ((intro wS hSw; (try dsimp only at hSw); go_simp) <;> (try with_reducible rfl))
                    simp only [Act.put, List.setIfInBounds_toArray, List.set_cons_zero, List.set_cons_succ]
                    refine wpAnyH_take (i := 17) (oi := { dst := some 104, op := Go.Op.nilCheck (Go.Operand.tmp 103), type := 0, pos := "law.go:76", after := #[{ on := 16, ground := Go.Ground.data }, { on := 12, ground := Go.Ground.guard }], guard := some (12, false) }) (v := ?_) rfl (by kernel_rfl) (by kernel_rfl) (by kernel_rfl) (fun _ _ _ h => h) (Or.inl ⟨by rfl, ?_⟩) (by assumption) ?_
                    rotate_left 1
                    focus ((intro wS hSw; (try dsimp only at hSw); go_simp) <;> (try with_reducible rfl))
                    simp only [Act.put, List.setIfInBounds_toArray, List.set_cons_zero, List.set_cons_succ]
                    refine wpAnyH_take (i := 18) (oi := { dst := some 105, op := Go.Op.fieldAddr 63 (Go.Operand.tmp 104) 0, type := 0, pos := "law.go:76", after := #[{ on := 17, ground := Go.Ground.data }, { on := 12, ground := Go.Ground.guard }], guard := some (12, false) }) (v := ?_) rfl (by kernel_rfl) (by kernel_rfl) (by kernel_rfl) (fun _ _ _ h => h) (Or.inl ⟨by rfl, ?_⟩) (by assumption) ?_
                    rotate_left 1
                    focus ((intro wS hSw; (try dsimp only at hSw); go_simp) <;> (try with_reducible rfl))
                    simp only [Act.put, List.setIfInBounds_toArray, List.set_cons_zero, List.set_cons_succ]
                    refine wpAnyH_take (i := 19) (oi := { dst := some 106, op := Go.Op.load 22 (Go.Operand.tmp 105), type := 22, pos := "law.go:76", after := #[{ on := 18, ground := Go.Ground.data }, { on := 12, ground := Go.Ground.guard }], guard := some (12, false) }) (v := ?_) rfl (by kernel_rfl) (by kernel_rfl) (by kernel_rfl) (fun _ _ _ h => h) (Or.inl ⟨by rfl, ?_⟩) (by assumption) ?_
                    rotate_left 1
                    focus ((intro wS hSw; (try dsimp only at hSw); go_simp) <;> (try with_reducible rfl))
                    simp only [Act.put, List.setIfInBounds_toArray, List.set_cons_zero, List.set_cons_succ]
                    refine wpAnyH_take (i := 20) (oi := { dst := some 107, op := Go.Op.convert 22 9 (Go.Operand.tmp 106), type := 9, pos := "law.go:76", after := #[{ on := 19, ground := Go.Ground.data }, { on := 12, ground := Go.Ground.guard }], guard := some (12, false) }) (v := ?_) rfl (by kernel_rfl) (by kernel_rfl) (by kernel_rfl) (fun _ _ _ h => h) (Or.inl ⟨by rfl, ?_⟩) (by assumption) ?_
                    rotate_left 1
                    focus ((intro wS hSw; (try dsimp only at hSw); go_simp) <;> (try with_reducible rfl))
                    simp only [Act.put, List.setIfInBounds_toArray, List.set_cons_zero, List.set_cons_succ]
                    refine wpAnyH_ready (rs := [14]) (by kernel_rfl) (by simp) ?_
                    refine AllReadyH.cons (o := { dst := some 101, op := Go.Op.call { callee := Go.Callee.value (Go.Operand.func 26), args := #[Go.Operand.tmp 100], argTypes := #[44] }, type := 22, pos := "law.go:76", after := #[{ on := 13, ground := Go.Ground.data }, { on := 12, ground := Go.Ground.chain }, { on := 12, ground := Go.Ground.guard }], guard := some (12, false) }) rfl (fun K hK => ?_) AllReadyH.nil
                    go_simp
                    refine (sbytes_any v8.drew (SX.out.below (Below.refl _ _).drew)).mono ?_; rintro e v9 ⟨vv, rfl, o9, k9⟩; rw [YL.out] at o9; obtain ⟨a9, c9, rfl, x9, _⟩ := own_bytes o9 YB.out; have V9 := Lib.hid ((Below.refl v8.heap.size v8).drew.trans k9); have HC9 := Lib.hid (run_str_in (P := Try.prog) Try.underlying22 Try.underlying5 Try.underlying9 x9 N c9 YL.out); rw [← hSZ.out] at HC9; clear o9 k9 x9
                    go_wp2_with fail
                    refine hK.out _ _ (K8.out _ V9.out) (fun hHeld => ?_)
                    clear hK K
                    (try simp only [Act.put, List.setIfInBounds_toArray, List.set_cons_zero, List.set_cons_succ])
                    refine wpAnyH_switch (S2 := (fun w' => (convert 22 9 (.slice a9 N c9)).run Try.prog w' = .ok (.string SZ) w' ∧ w'.cell? ⟨p, 1, none⟩ = some (.int .i64 O) ∧ w'.cell? ⟨t, 0, none⟩ = some (.slice da N dc) ∧ (convert 22 9 (.slice da N dc)).run Try.prog w' = .ok (.string SZ) w')) (fun _ h => h.2) ?_
                    have hHeld : ((fun w' => (convert 22 9 (.slice a9 N c9)).run Try.prog w' = .ok (.string SZ) w' ∧ w'.cell? ⟨p, 1, none⟩ = some (.int .i64 O) ∧ w'.cell? ⟨t, 0, none⟩ = some (.slice da N dc) ∧ (convert 22 9 (.slice da N dc)).run Try.prog w' = .ok (.string SZ) w')) _ := ⟨HC9.out, K8.out _ V9.out⟩
                    refine wpAnyH_take (i := 15) (oi := { dst := some 102, op := Go.Op.convert 22 9 (Go.Operand.tmp 101), type := 9, pos := "law.go:76", after := #[{ on := 14, ground := Go.Ground.data }, { on := 12, ground := Go.Ground.guard }], guard := some (12, false) }) (v := ?_) rfl (by kernel_rfl) (by kernel_rfl) (by kernel_rfl) (fun _ _ _ h => h) (Or.inl ⟨by rfl, ?_⟩) (by assumption) ?_
                    rotate_left 1
                    focus ((intro wS hSw; (try dsimp only at hSw); go_simp) <;> (try with_reducible rfl))
                    simp only [Act.put, List.setIfInBounds_toArray, List.set_cons_zero, List.set_cons_succ]
                    refine wpAnyH_take (i := 21) (oi := { dst := some 108, op := Go.Op.binOp Go.BinOp.neq 9 (Go.Operand.tmp 102) (Go.Operand.tmp 107) 9, type := 4, pos := "law.go:76", after := #[{ on := 15, ground := Go.Ground.data }, { on := 20, ground := Go.Ground.data }, { on := 12, ground := Go.Ground.guard }], guard := some (12, false) }) (v := ?_) rfl (by kernel_rfl) (by kernel_rfl) (by kernel_rfl) (fun _ _ _ h => h) (Or.inl ⟨by rfl, ?_⟩) (by assumption) ?_
                    rotate_left 1
                    focus ((intro wS hSw; (try dsimp only at hSw); go_simp) <;> (try with_reducible rfl))
                    simp only [Act.put, List.setIfInBounds_toArray, List.set_cons_zero, List.set_cons_succ]
                    refine wpAnyH_take (i := 22) (oi := { dst := some 109, op := Go.Op.pick (Go.Operand.tmp 99) (Go.Operand.const (Go.Value.bool true)) (Go.Operand.tmp 108), type := 4, pos := "law.go:76", after := #[{ on := 12, ground := Go.Ground.data }, { on := 21, ground := Go.Ground.data }], guard := none }) (v := ?_) rfl (by kernel_rfl) (by kernel_rfl) (by kernel_rfl) (fun _ _ _ h => h) (Or.inl ⟨by rfl, ?_⟩) (by assumption) ?_
                    rotate_left 1
                    focus ((intro wS hSw; (try dsimp only at hSw); go_simp) <;> (try with_reducible rfl))
                    simp only [Act.put, List.setIfInBounds_toArray, List.set_cons_zero, List.set_cons_succ]
                    refine wpAnyH_done (by kernel_rfl) ?_ _
                    go_wp2_with fail
                    go_roundw
                    case rel => exact ⟨T1, T2, Y, O, V, j + 1, Nat.succ_le_of_lt hlt, by go_num, YN.out, HT1.out, HT2.out, W8.out.below V9.out, R8.out.below V9.out, B8.out.trans (V9.out.mono B8.out.size)⟩
                    case measure => clear hys; simp [intOf]; omega
                  · go_wp2_with (first | (refine wpList_alloc_obj rfl 54 rfl [.int .i64 0, .slice none 0 0, .int .i64 0] HZ.out ?_; intro v4 h4 b4; have H4 := Lib.hid h4; have B4' := Lib.hid b4; clear h4 b4) | (refine wpList_store_obj rfl 54 _ _ rfl wr.heap.size rfl [.int .i64 kk, .slice ba bl bc, .int .i64 nn] [.int .i64 0, .slice none 0 0, .int .i64 0] rfl 54 H4.out HZS.out rfl (by intro v hv; simp at hv; rcases hv with rfl | rfl | rfl <;> rfl) ?_; intro v5 h5 t5; have OB5 := Lib.hid h5; have T5 := Lib.hid t5; have d0 := h5.get 0 rfl; have d1 := h5.get 1 rfl; have d2 := h5.get 2 rfl; clear h5 t5))
                    have bb : Below wr.heap.size wr v5 := B4'.out.trans (T5.out.below (Nat.le_refl _))
                    have WW5 := Lib.hid (SS.out.below bb); have RR5 := Lib.hid (RR.out.below bb)
                    have B45 := Lib.hid (BR.out.trans (bb.mono BR.out.size))
                    have hga : Hid (¬ S1 wr.heap.size ∧ ¬ S2 wr.heap.size) := ⟨fun h => Nat.lt_irrefl _ (SS.out.lt.1 _ h), fun h => Nat.lt_irrefl _ (RR.out.lt.1 _ h)⟩
                    clear bb d0 d1 d2 c0 c1 c2
                    obtain ⟨z, rfl⟩ : ∃ z : Nat, nn = z := ⟨nn.toNat, by omega⟩
                    obtain ⟨n, hn⟩ : ∃ n : Nat, n = 512 * z := ⟨_, rfl⟩
                    obtain ⟨xs, hxs⟩ : ∃ xs, Hid (xs = zeros n) := ⟨_, rfl⟩
                    have XL : Hid (xs.length = n) := by show _ = _; rw [hxs.out]; exact zeros_length _
                    have hn5 : n ≤ 5000 := by omega
                    obtain ⟨KB, hKB⟩ := named (wwK F ys.length n err)
                    obtain ⟨V, hV⟩ := named (wwE F ys.length n err)
                    have KBN : Hid (KB ≤ n) := by show _ ≤ _; rw [hKB.out]; exact wwK_le SS.out.le_F
                    obtain ⟨O, hO⟩ : ∃ O, Hid (O = o + KB) := ⟨_, rfl⟩
                    refine wp_region_held_drew (S := (fun w' => w'.cell? ⟨wr.heap.size, 2, none⟩ = some (.int .i64 z))) (by kernel_rfl) ((OB5.out : ObjAt v5.drew wr.heap.size _ _).get 2 rfl) (fun hHeld => ?_)
                    refine wpAnyH_take (i := 0) (oi := { dst := some 44, op := Go.Op.move (Go.Operand.tmp 7), type := 48, pos := "law.go:74", after := #[], guard := none }) (v := ?_) rfl (by kernel_rfl) (by kernel_rfl) (by kernel_rfl) (fun _ _ _ h => h) (Or.inl ⟨by rfl, ?_⟩) (by assumption) ?_
                    rotate_left 1
                    focus ((intro wS hSw; (try dsimp only at hSw); go_simp) <;> (try with_reducible rfl))
                    simp only [Act.put, List.setIfInBounds_toArray, List.set_cons_zero, List.set_cons_succ]
                    refine wpAnyH_take (i := 1) (oi := { dst := some 45, op := Go.Op.fieldAddr 54 (Go.Operand.tmp 10) 2, type := 0, pos := "law.go:74", after := #[], guard := none }) (v := ?_) rfl (by kernel_rfl) (by kernel_rfl) (by kernel_rfl) (fun _ _ _ h => h) (Or.inl ⟨by rfl, ?_⟩) (by assumption) ?_
                    rotate_left 1
                    focus ((intro wS hSw; (try dsimp only at hSw); go_simp) <;> (try with_reducible rfl))
                    simp only [Act.put, List.setIfInBounds_toArray, List.set_cons_zero, List.set_cons_succ]
                    refine wpAnyH_take (i := 2) (oi := { dst := some 46, op := Go.Op.load 3 (Go.Operand.tmp 45), type := 3, pos := "law.go:74", after := #[{ on := 1, ground := Go.Ground.data }], guard := none }) (v := ?_) rfl (by kernel_rfl) (by kernel_rfl) (by kernel_rfl) (fun _ _ _ h => h) (Or.inl ⟨by rfl, ?_⟩) (by assumption) ?_
                    rotate_left 1
                    focus ((intro wS hSw; (try dsimp only at hSw); go_simp) <;> (try with_reducible rfl))
                    simp only [Act.put, List.setIfInBounds_toArray, List.set_cons_zero, List.set_cons_succ]
                    refine wpAnyH_take (i := 4) (oi := { dst := some 48, op := Go.Op.move (Go.Operand.tmp 8), type := 50, pos := "law.go:74", after := #[], guard := none }) (v := ?_) rfl (by kernel_rfl) (by kernel_rfl) (by kernel_rfl) (fun _ _ _ h => h) (Or.inl ⟨by rfl, ?_⟩) (by assumption) ?_
                    rotate_left 1
                    focus ((intro wS hSw; (try dsimp only at hSw); go_simp) <;> (try with_reducible rfl))
                    simp only [Act.put, List.setIfInBounds_toArray, List.set_cons_zero, List.set_cons_succ]
                    refine wpAnyH_take (i := 5) (oi := { dst := some 49, op := Go.Op.fieldAddr 54 (Go.Operand.tmp 10) 2, type := 0, pos := "law.go:74", after := #[], guard := none }) (v := ?_) rfl (by kernel_rfl) (by kernel_rfl) (by kernel_rfl) (fun _ _ _ h => h) (Or.inl ⟨by rfl, ?_⟩) (by assumption) ?_
                    rotate_left 1
                    focus ((intro wS hSw; (try dsimp only at hSw); go_simp) <;> (try with_reducible rfl))
                    simp only [Act.put, List.setIfInBounds_toArray, List.set_cons_zero, List.set_cons_succ]
                    refine wpAnyH_take (i := 6) (oi := { dst := some 50, op := Go.Op.load 3 (Go.Operand.tmp 49), type := 3, pos := "law.go:74", after := #[{ on := 5, ground := Go.Ground.data }], guard := none }) (v := ?_) rfl (by kernel_rfl) (by kernel_rfl) (by kernel_rfl) (fun _ _ _ h => h) (Or.inl ⟨by rfl, ?_⟩) (by assumption) ?_
                    rotate_left 1
                    focus ((intro wS hSw; (try dsimp only at hSw); go_simp) <;> (try with_reducible rfl))
                    simp only [Act.put, List.setIfInBounds_toArray, List.set_cons_zero, List.set_cons_succ]
                    refine wpAnyH_ready (rs := [3]) (by kernel_rfl) (by simp) ?_
                    refine AllReadyH.cons (o := { dst := some 47, op := Go.Op.call { callee := Go.Callee.value (Go.Operand.func 23), args := #[Go.Operand.tmp 44, Go.Operand.tmp 46], argTypes := #[48, 3] }, type := 36, pos := "law.go:74", after := #[{ on := 0, ground := Go.Ground.data }, { on := 2, ground := Go.Ground.data }], guard := none }) rfl (fun K hK => ?_) AllReadyH.nil
                    go_simp
                    refine (wtr_zeros z _ (WW5.out.below (Below.refl _ _).drew) (by omega) (by omega) hFF).mono ?_; rintro e v6 ⟨rfl, s5, o5⟩; rw [← hn] at s5 ⊢; rw [← hxs.out] at s5; rw [← hKB.out, ← hV.out, ← hO.out] at s5; rw [← hV.out]; have W5 : Hid (Wtr v6 (Grow S1 v5 v6) g m (ys ++ xs.take KB) F O V) := s5; have o5' := (Only.of_below (S := S1) (Below.refl _ _).drew (Nat.le_refl _)).trans o5; have R5 := Lib.hid (RR5.out.only o5' (fun k hk h => (HS1.out k h).2 hk)); have B5 := Lib.hid (B45.out.trans (o5'.below (B := w1.heap.size) (fun k hk => (HS1.out k hk).1) B45.out.size)); have OB := Lib.hid (OB5.out.only o5' (fun h => hga.out.1 h)); clear s5 o5 o5'
                    go_wp2_with fail
                    refine hK.out _ _ (OB.out.get 2 rfl) (fun hHeld => ?_)
                    clear hK K
                    (try simp only [Act.put, List.setIfInBounds_toArray, List.set_cons_zero, List.set_cons_succ])
                    refine wpAnyH_ready (rs := [7]) (by kernel_rfl) (by simp) ?_
                    refine AllReadyH.cons (o := { dst := some 51, op := Go.Op.call { callee := Go.Callee.value (Go.Operand.func 24), args := #[Go.Operand.tmp 48, Go.Operand.tmp 50], argTypes := #[50, 3] }, type := 3, pos := "law.go:74", after := #[{ on := 4, ground := Go.Ground.data }, { on := 6, ground := Go.Ground.data }, { on := 3, ground := Go.Ground.chain }], guard := none }) rfl (fun K hK => ?_) AllReadyH.nil
                    go_simp
                    refine (rwr_zeros z _ R5.out (by omega) (by omega) hFF).mono ?_; rintro e v8 ⟨rfl, s6, o6⟩; rw [← hn] at s6 ⊢; rw [← hxs.out] at s6; rw [← hKB.out, ← hV.out, ← hO.out] at s6; rw [← hV.out]; have S6 := Lib.hid s6; have Q6 := Lib.hid o6; have OB' := Lib.hid (OB.out.only o6 (fun h => hga.out.2 h)); clear s6 o6
                    go_wp2_with fail
                    refine hK.out _ _ (OB'.out.get 2 rfl) (fun hHeld => ?_)
                    clear hK K
                    (try simp only [Act.put, List.setIfInBounds_toArray, List.set_cons_zero, List.set_cons_succ])
                    refine wpAnyH_take (i := 8) (oi := { dst := some 11, op := Go.Op.assign (Go.Operand.tmp 47), type := 36, pos := "law.go:74", after := #[{ on := 3, ground := Go.Ground.data }, { on := 7, ground := Go.Ground.chain }, { on := 0, ground := Go.Ground.phase }, { on := 1, ground := Go.Ground.phase }, { on := 2, ground := Go.Ground.phase }, { on := 3, ground := Go.Ground.phase }, { on := 4, ground := Go.Ground.textOnly Go.Departure.lateStores }, { on := 5, ground := Go.Ground.textOnly Go.Departure.lateStores }, { on := 6, ground := Go.Ground.textOnly Go.Departure.lateStores }, { on := 7, ground := Go.Ground.textOnly Go.Departure.lateStoresUnsure }], guard := none }) (v := ?_) rfl (by kernel_rfl) (by kernel_rfl) (by kernel_rfl) (fun _ _ _ h => h) (Or.inl ⟨by rfl, ?_⟩) (by assumption) ?_
                    rotate_left 1
                    focus ((intro wS hSw; (try dsimp only at hSw); go_simp) <;> (try with_reducible rfl))
                    simp only [Act.put, List.setIfInBounds_toArray, List.set_cons_zero, List.set_cons_succ]
                    refine wpAnyH_take (i := 9) (oi := { dst := some 12, op := Go.Op.assign (Go.Operand.tmp 51), type := 3, pos := "law.go:74", after := #[{ on := 7, ground := Go.Ground.data }, { on := 8, ground := Go.Ground.chain }, { on := 0, ground := Go.Ground.phase }, { on := 1, ground := Go.Ground.phase }, { on := 2, ground := Go.Ground.phase }, { on := 3, ground := Go.Ground.phase }, { on := 4, ground := Go.Ground.phase }, { on := 5, ground := Go.Ground.phase }, { on := 6, ground := Go.Ground.phase }, { on := 7, ground := Go.Ground.phase }, { on := 8, ground := Go.Ground.phase }], guard := none }) (v := ?_) rfl (by kernel_rfl) (by kernel_rfl) (by kernel_rfl) (fun _ _ _ h => h) (Or.inl ⟨by rfl, ?_⟩) (by assumption) ?_
                    rotate_left 1
                    focus ((intro wS hSw; (try dsimp only at hSw); go_simp) <;> (try with_reducible rfl))
                    simp only [Act.put, List.setIfInBounds_toArray, List.set_cons_zero, List.set_cons_succ]
                    refine wpAnyH_done (by kernel_rfl) ?_ _
                    have s6 := S6.out; have o6 := Q6.out
                    have hG : Hid (∀ k, Grow S1 v5 v6 k → w1.heap.size ≤ k ∧ ¬ S2 k) := fun k hk => hk.elim (HS1.out k) (fun h => ⟨Nat.le_trans B45.out.size h.1, fun h2 => by have := RR5.out.lt.1 k h2; omega⟩)
                    obtain ⟨Y, hY⟩ := named (ys ++ xs.take KB)
                    rw [← hY.out] at s6 W5
                    have R8 := Lib.hid s6
                    have W8 := Lib.hid (W5.out.only o6 (fun k hk h => (hG.out k hk).2 h))
                    have B8 := Lib.hid (B5.out.trans (o6.below (B := w1.heap.size) HS2.out B5.out.size))
                    obtain ⟨T1, hT1⟩ := named (Grow S1 v5 v6)
                    obtain ⟨T2, hT2⟩ := named (Grow S2 v6 v8)
                    have HT1 : Hid (∀ k, T1 k → w1.heap.size ≤ k ∧ ¬ T2 k) := by
                      show ∀ _, _
                      rw [hT1.out, hT2.out]
                      exact fun k hk => ⟨(hG.out k hk).1, fun h => h.elim (hG.out k hk).2 (fun h => by have := W5.out.lt.1 k hk; omega)⟩
                    have HT2 : Hid (∀ k, T2 k → w1.heap.size ≤ k) := by
                      show ∀ _, _
                      rw [hT2.out]
                      exact fun k hk => hk.elim (HS2.out k) (fun h => Nat.le_trans B5.out.size h.1)
                    rw [← hT1.out] at W8
                    rw [← hT2.out] at R8
                    have YN : Hid (Y.length ≤ 5000 * (j + 1)) := by
                      show _ ≤ _
                      have h1 : (xs.take KB).length ≤ 5000 := Nat.le_trans (by rw [List.length_take]; exact Nat.min_le_left _ _) (Nat.le_trans KBN.out hn5)
                      rw [hY.out, List.length_append, Nat.mul_succ]
                      exact Nat.add_le_add HYL.out h1
                    clear s6 o6
                    obtain ⟨N, hN⟩ : ∃ N, Hid (N = Y.length) := ⟨_, rfl⟩
                    have YL : Hid (Y.length = N) := hN.out.symm
                    obtain ⟨S', cs', r', hs', _, _⟩ := W8.out.sink
                    have SX := Lib.hid hs'
                    have YB : Hid (Bytes Y) := hs'.bytes.1
                    obtain ⟨SZ, hSZ⟩ := named (strOfNums Y)
                    obtain ⟨da, dc, k8⟩ := R8.out.told N YL.out SZ hSZ.out
                    have K8 := Lib.hid k8
                    have N8 : (N : Int) ≤ 100000000 := by have := SX.out.bytes.2.1; have := YL.out; omega
                    clear hs' k8
                    go_wp2_with fail
                    refine wp_region_held_drew (S := (fun w' => w'.cell? ⟨p, 1, none⟩ = some (.int .i64 O) ∧ w'.cell? ⟨t, 0, none⟩ = some (.slice da N dc) ∧ (convert 22 9 (.slice da N dc)).run Try.prog w' = .ok (.string SZ) w')) (by kernel_rfl) (K8.out _ (Below.refl _ _).drew) (fun hHeld => ?_)
                    refine wpAnyH_take (i := 0) (oi := { dst := some 87, op := Go.Op.move (Go.Operand.tmp 11), type := 36, pos := "law.go:76", after := #[], guard := none }) (v := ?_) rfl (by kernel_rfl) (by kernel_rfl) (by kernel_rfl) (fun _ _ _ h => h) (Or.inl ⟨by rfl, ?_⟩) (by assumption) ?_
                    rotate_left 1
                    focus ((intro wS hSw; (try dsimp only at hSw); go_simp) <;> (try with_reducible rfl))
                    simp only [Act.put, List.setIfInBounds_toArray, List.set_cons_zero, List.set_cons_succ]
                    refine wpAnyH_take (i := 1) (oi := { dst := some 88, op := Go.Op.move (Go.Operand.tmp 12), type := 3, pos := "law.go:76", after := #[], guard := none }) (v := ?_) rfl (by kernel_rfl) (by kernel_rfl) (by kernel_rfl) (fun _ _ _ h => h) (Or.inl ⟨by rfl, ?_⟩) (by assumption) ?_
                    rotate_left 1
                    focus ((intro wS hSw; (try dsimp only at hSw); go_simp) <;> (try with_reducible rfl))
                    simp only [Act.put, List.setIfInBounds_toArray, List.set_cons_zero, List.set_cons_succ]
                    refine wpAnyH_take (i := 2) (oi := { dst := some 89, op := Go.Op.binOp Go.BinOp.neq 3 (Go.Operand.tmp 87) (Go.Operand.tmp 88) 3, type := 4, pos := "law.go:76", after := #[{ on := 0, ground := Go.Ground.data }, { on := 1, ground := Go.Ground.data }], guard := none }) (v := ?_) rfl (by kernel_rfl) (by kernel_rfl) (by kernel_rfl) (fun _ _ _ h => h) (Or.inl ⟨by rfl, ?_⟩) (by assumption) ?_
                    rotate_left 1
                    focus ((intro wS hSw; (try dsimp only at hSw); go_simp) <;> (try with_reducible rfl))
                    simp only [Act.put, List.setIfInBounds_toArray, List.set_cons_zero, List.set_cons_succ]
                    refine wpAnyH_take (i := 3) (oi := { dst := some 90, op := Go.Op.move (Go.Operand.tmp 89), type := 4, pos := "law.go:76", after := #[{ on := 2, ground := Go.Ground.data }], guard := none }) (v := ?_) rfl (by kernel_rfl) (by kernel_rfl) (by kernel_rfl) (fun _ _ _ h => h) (Or.inl ⟨by rfl, ?_⟩) (by assumption) ?_
                    rotate_left 1
                    focus ((intro wS hSw; (try dsimp only at hSw); go_simp) <;> (try with_reducible rfl))
                    simp only [Act.put, List.setIfInBounds_toArray, List.set_cons_zero, List.set_cons_succ]
                    refine wpAnyH_take (i := 4) (oi := { dst := some 91, op := Go.Op.move (Go.Operand.tmp 7), type := 48, pos := "law.go:76", after := #[{ on := 3, ground := Go.Ground.guard }], guard := some (3, false) }) (v := ?_) rfl (by kernel_rfl) (by kernel_rfl) (by kernel_rfl) (fun _ _ _ h => h) (Or.inl ⟨by rfl, ?_⟩) (by assumption) ?_
                    rotate_left 1
                    focus ((intro wS hSw; (try dsimp only at hSw); go_simp) <;> (try with_reducible rfl))
                    simp only [Act.put, List.setIfInBounds_toArray, List.set_cons_zero, List.set_cons_succ]
                    refine wpAnyH_take (i := 6) (oi := { dst := some 93, op := Go.Op.move (Go.Operand.tmp 8), type := 50, pos := "law.go:76", after := #[{ on := 3, ground := Go.Ground.guard }], guard := some (3, false) }) (v := ?_) rfl (by kernel_rfl) (by kernel_rfl) (by kernel_rfl) (fun _ _ _ h => h) (Or.inl ⟨by rfl, ?_⟩) (by assumption) ?_
                    rotate_left 1
                    focus ((intro wS hSw; (try dsimp only at hSw); go_simp) <;> (try with_reducible rfl))
                    simp only [Act.put, List.setIfInBounds_toArray, List.set_cons_zero, List.set_cons_succ]
                    refine wpAnyH_take (i := 7) (oi := { dst := some 94, op := Go.Op.nilCheck (Go.Operand.tmp 93), type := 0, pos := "law.go:76", after := #[{ on := 6, ground := Go.Ground.data }, { on := 3, ground := Go.Ground.guard }], guard := some (3, false) }) (v := ?_) rfl (by kernel_rfl) (by kernel_rfl) (by kernel_rfl) (fun _ _ _ h => h) (Or.inl ⟨by rfl, ?_⟩) (by assumption) ?_
                    rotate_left 1
                    focus ((intro wS hSw; (try dsimp only at hSw); go_simp) <;> (try with_reducible rfl))
                    simp only [Act.put, List.setIfInBounds_toArray, List.set_cons_zero, List.set_cons_succ]
                    refine wpAnyH_take (i := 8) (oi := { dst := some 95, op := Go.Op.fieldAddr 52 (Go.Operand.tmp 94) 1, type := 0, pos := "law.go:76", after := #[{ on := 7, ground := Go.Ground.data }, { on := 3, ground := Go.Ground.guard }], guard := some (3, false) }) (v := ?_) rfl (by kernel_rfl) (by kernel_rfl) (by kernel_rfl) (fun _ _ _ h => h) (Or.inl ⟨by rfl, ?_⟩) (by assumption) ?_
                    rotate_left 1
                    focus ((intro wS hSw; (try dsimp only at hSw); go_simp) <;> (try with_reducible rfl))
                    simp only [Act.put, List.setIfInBounds_toArray, List.set_cons_zero, List.set_cons_succ]
                    refine wpAnyH_take (i := 9) (oi := { dst := some 96, op := Go.Op.load 2 (Go.Operand.tmp 95), type := 2, pos := "law.go:76", after := #[{ on := 8, ground := Go.Ground.data }, { on := 3, ground := Go.Ground.guard }], guard := some (3, false) }) (v := ?_) rfl (by kernel_rfl) (by kernel_rfl) (by kernel_rfl) (fun _ _ _ h => h) (Or.inl ⟨by rfl, ?_⟩) (by assumption) ?_
                    rotate_left 1
                    focus ((intro wS hSw; (try dsimp only at hSw); go_simp) <;> (try with_reducible rfl))
                    simp only [Act.put, List.setIfInBounds_toArray, List.set_cons_zero, List.set_cons_succ]
                    refine wpAnyH_ready (rs := [5]) (by kernel_rfl) (by simp) ?_
                    refine AllReadyH.cons (o := { dst := some 92, op := Go.Op.call { callee := Go.Callee.value (Go.Operand.func 25), args := #[Go.Operand.tmp 91], argTypes := #[48] }, type := 2, pos := "law.go:76", after := #[{ on := 4, ground := Go.Ground.data }, { on := 3, ground := Go.Ground.chain }, { on := 3, ground := Go.Ground.guard }], guard := some (3, false) }) rfl (fun K hK => ?_) AllReadyH.nil
                    go_simp
                    refine (wtr_off v8.drew (W8.out.below (Below.refl _ _).drew)).mono ?_; rintro e w9 ⟨rfl, rfl⟩
                    go_wp2_with fail
                    refine hK.out _ _ (K8.out _ (Below.refl _ _).drew) (fun hHeld => ?_)
                    clear hK K
                    (try simp only [Act.put, List.setIfInBounds_toArray, List.set_cons_zero, List.set_cons_succ])
                    refine wpAnyH_take (i := 10) (oi := { dst := some 97, op := Go.Op.binOp Go.BinOp.neq 2 (Go.Operand.tmp 92) (Go.Operand.tmp 96) 2, type := 4, pos := "law.go:76", after := #[{ on := 5, ground := Go.Ground.data }, { on := 9, ground := Go.Ground.data }, { on := 3, ground := Go.Ground.guard }], guard := some (3, false) }) (v := ?_) rfl (by kernel_rfl) (by kernel_rfl) (by kernel_rfl) (fun _ _ _ h => h) (Or.inl ⟨by rfl, ?_⟩) (by assumption) ?_
                    rotate_left 1
                    focus ((intro wS hSw; (try dsimp only at hSw); go_simp) <;> (try with_reducible rfl))
                    simp only [Act.put, List.setIfInBounds_toArray, List.set_cons_zero, List.set_cons_succ]
                    refine wpAnyH_take (i := 11) (oi := { dst := some 98, op := Go.Op.pick (Go.Operand.tmp 90) (Go.Operand.const (Go.Value.bool true)) (Go.Operand.tmp 97), type := 4, pos := "law.go:76", after := #[{ on := 3, ground := Go.Ground.data }, { on := 10, ground := Go.Ground.data }], guard := none }) (v := ?_) rfl (by kernel_rfl) (by kernel_rfl) (by kernel_rfl) (fun _ _ _ h => h) (Or.inl ⟨by rfl, ?_⟩) (by assumption) ?_
                    rotate_left 1
                    focus ((intro wS hSw; (try dsimp only at hSw); go_simp) <;> (try with_reducible rfl))
                    simp only [Act.put, List.setIfInBounds_toArray, List.set_cons_zero, List.set_cons_succ]
                    refine wpAnyH_take (i := 12) (oi := { dst := some 99, op := Go.Op.move (Go.Operand.tmp 98), type := 4, pos := "law.go:76", after := #[{ on := 11, ground := Go.Ground.data }, { on := 5, ground := Go.Ground.chain }], guard := none }) (v := ?_) rfl (by kernel_rfl) (by kernel_rfl) (by kernel_rfl) (fun _ _ _ h => h) (Or.inl ⟨by rfl, ?_⟩) (by assumption) ?_
                    rotate_left 1
                    focus ((intro wS hSw; (try dsimp only at hSw); go_simp) <;> (try with_reducible rfl))
                    simp only [Act.put, List.setIfInBounds_toArray, List.set_cons_zero, List.set_cons_succ]
                    refine wpAnyH_take (i := 13) (oi := { dst := some 100, op := Go.Op.move (Go.Operand.tmp 5), type := 44, pos := "law.go:76", after := #[{ on := 12, ground := Go.Ground.guard }], guard := some (12, false) }) (v := ?_) rfl (by kernel_rfl) (by kernel_rfl) (by kernel_rfl) (fun _ _ _ h => h) (Or.inl ⟨by rfl, ?_⟩) (by assumption) ?_
                    rotate_left 1
                    focus ((intro wS hSw; (try dsimp only at hSw); go_simp) <;> (try with_reducible rfl))
                    simp only [Act.put, List.setIfInBounds_toArray, List.set_cons_zero, List.set_cons_succ]
                    refine wpAnyH_take (i := 16) (oi := { dst := some 103, op := Go.Op.move (Go.Operand.tmp 6), type := 46, pos := "law.go:76", after := #[{ on := 12, ground := Go.Ground.guard }], guard := some (12, false) }) (v := ?_) rfl (by kernel_rfl) (by kernel_rfl) (by kernel_rfl) (fun _ _ _ h => h) (Or.inl ⟨by rfl, ?_⟩) (by assumption) ?_
                    rotate_left 1
                    focus ((intro wS hSw; (try dsimp only at hSw); go_simp) <;> (try with_reducible rfl))
                    simp only [Act.put, List.setIfInBounds_toArray, List.set_cons_zero, List.set_cons_succ]
                    refine wpAnyH_take (i := 17) (oi := { dst := some 104, op := Go.Op.nilCheck (Go.Operand.tmp 103), type := 0, pos := "law.go:76", after := #[{ on := 16, ground := Go.Ground.data }, { on := 12, ground := Go.Ground.guard }], guard := some (12, false) }) (v := ?_) rfl (by kernel_rfl) (by kernel_rfl) (by kernel_rfl) (fun _ _ _ h => h) (Or.inl ⟨by rfl, ?_⟩) (by assumption) ?_
                    rotate_left 1
                    focus ((intro wS hSw; (try dsimp only at hSw); go_simp) <;> (try with_reducible rfl))
                    simp only [Act.put, List.setIfInBounds_toArray, List.set_cons_zero, List.set_cons_succ]
                    refine wpAnyH_take (i := 18) (oi := { dst := some 105, op := Go.Op.fieldAddr 63 (Go.Operand.tmp 104) 0, type := 0, pos := "law.go:76", after := #[{ on := 17, ground := Go.Ground.data }, { on := 12, ground := Go.Ground.guard }], guard := some (12, false) }) (v := ?_) rfl (by kernel_rfl) (by kernel_rfl) (by kernel_rfl) (fun _ _ _ h => h) (Or.inl ⟨by rfl, ?_⟩) (by assumption) ?_
                    rotate_left 1
                    focus ((intro wS hSw; (try dsimp only at hSw); go_simp) <;> (try with_reducible rfl))
                    simp only [Act.put, List.setIfInBounds_toArray, List.set_cons_zero, List.set_cons_succ]
                    refine wpAnyH_take (i := 19) (oi := { dst := some 106, op := Go.Op.load 22 (Go.Operand.tmp 105), type := 22, pos := "law.go:76", after := #[{ on := 18, ground := Go.Ground.data }, { on := 12, ground := Go.Ground.guard }], guard := some (12, false) }) (v := ?_) rfl (by kernel_rfl) (by kernel_rfl) (by kernel_rfl) (fun _ _ _ h => h) (Or.inl ⟨by rfl, ?_⟩) (by assumption) ?_
                    rotate_left 1
                    focus ((intro wS hSw; (try dsimp only at hSw); go_simp) <;> (try with_reducible rfl))
                    simp only [Act.put, List.setIfInBounds_toArray, List.set_cons_zero, List.set_cons_succ]
                    refine wpAnyH_take (i := 20) (oi := { dst := some 107, op := Go.Op.convert 22 9 (Go.Operand.tmp 106), type := 9, pos := "law.go:76", after := #[{ on := 19, ground := Go.Ground.data }, { on := 12, ground := Go.Ground.guard }], guard := some (12, false) }) (v := ?_) rfl (by kernel_rfl) (by kernel_rfl) (by kernel_rfl) (fun _ _ _ h => h) (Or.inl ⟨by rfl, ?_⟩) (by assumption) ?_
                    rotate_left 1
                    focus ((intro wS hSw; (try dsimp only at hSw); go_simp) <;> (try with_reducible rfl))
                    simp only [Act.put, List.setIfInBounds_toArray, List.set_cons_zero, List.set_cons_succ]
                    refine wpAnyH_ready (rs := [14]) (by kernel_rfl) (by simp) ?_
                    refine AllReadyH.cons (o := { dst := some 101, op := Go.Op.call { callee := Go.Callee.value (Go.Operand.func 26), args := #[Go.Operand.tmp 100], argTypes := #[44] }, type := 22, pos := "law.go:76", after := #[{ on := 13, ground := Go.Ground.data }, { on := 12, ground := Go.Ground.chain }, { on := 12, ground := Go.Ground.guard }], guard := some (12, false) }) rfl (fun K hK => ?_) AllReadyH.nil
                    go_simp
                    refine (sbytes_any v8.drew (SX.out.below (Below.refl _ _).drew)).mono ?_; rintro e v9 ⟨vv, rfl, o9, k9⟩; rw [YL.out] at o9; obtain ⟨a9, c9, rfl, x9, _⟩ := own_bytes o9 YB.out; have V9 := Lib.hid ((Below.refl v8.heap.size v8).drew.trans k9); have HC9 := Lib.hid (run_str_in (P := Try.prog) Try.underlying22 Try.underlying5 Try.underlying9 x9 N c9 YL.out); rw [← hSZ.out] at HC9; clear o9 k9 x9
                    go_wp2_with fail
                    refine hK.out _ _ (K8.out _ V9.out) (fun hHeld => ?_)
                    clear hK K
                    (try simp only [Act.put, List.setIfInBounds_toArray, List.set_cons_zero, List.set_cons_succ])
                    refine wpAnyH_switch (S2 := (fun w' => (convert 22 9 (.slice a9 N c9)).run Try.prog w' = .ok (.string SZ) w' ∧ w'.cell? ⟨p, 1, none⟩ = some (.int .i64 O) ∧ w'.cell? ⟨t, 0, none⟩ = some (.slice da N dc) ∧ (convert 22 9 (.slice da N dc)).run Try.prog w' = .ok (.string SZ) w')) (fun _ h => h.2) ?_
                    have hHeld : ((fun w' => (convert 22 9 (.slice a9 N c9)).run Try.prog w' = .ok (.string SZ) w' ∧ w'.cell? ⟨p, 1, none⟩ = some (.int .i64 O) ∧ w'.cell? ⟨t, 0, none⟩ = some (.slice da N dc) ∧ (convert 22 9 (.slice da N dc)).run Try.prog w' = .ok (.string SZ) w')) _ := ⟨HC9.out, K8.out _ V9.out⟩
                    refine wpAnyH_take (i := 15) (oi := { dst := some 102, op := Go.Op.convert 22 9 (Go.Operand.tmp 101), type := 9, pos := "law.go:76", after := #[{ on := 14, ground := Go.Ground.data }, { on := 12, ground := Go.Ground.guard }], guard := some (12, false) }) (v := ?_) rfl (by kernel_rfl) (by kernel_rfl) (by kernel_rfl) (fun _ _ _ h => h) (Or.inl ⟨by rfl, ?_⟩) (by assumption) ?_
                    rotate_left 1
                    focus ((intro wS hSw; (try dsimp only at hSw); go_simp) <;> (try with_reducible rfl))
                    simp only [Act.put, List.setIfInBounds_toArray, List.set_cons_zero, List.set_cons_succ]
                    refine wpAnyH_take (i := 21) (oi := { dst := some 108, op := Go.Op.binOp Go.BinOp.neq 9 (Go.Operand.tmp 102) (Go.Operand.tmp 107) 9, type := 4, pos := "law.go:76", after := #[{ on := 15, ground := Go.Ground.data }, { on := 20, ground := Go.Ground.data }, { on := 12, ground := Go.Ground.guard }], guard := some (12, false) }) (v := ?_) rfl (by kernel_rfl) (by kernel_rfl) (by kernel_rfl) (fun _ _ _ h => h) (Or.inl ⟨by rfl, ?_⟩) (by assumption) ?_
                    rotate_left 1
                    focus ((intro wS hSw; (try dsimp only at hSw); go_simp) <;> (try with_reducible rfl))
                    simp only [Act.put, List.setIfInBounds_toArray, List.set_cons_zero, List.set_cons_succ]
                    refine wpAnyH_take (i := 22) (oi := { dst := some 109, op := Go.Op.pick (Go.Operand.tmp 99) (Go.Operand.const (Go.Value.bool true)) (Go.Operand.tmp 108), type := 4, pos := "law.go:76", after := #[{ on := 12, ground := Go.Ground.data }, { on := 21, ground := Go.Ground.data }], guard := none }) (v := ?_) rfl (by kernel_rfl) (by kernel_rfl) (by kernel_rfl) (fun _ _ _ h => h) (Or.inl ⟨by rfl, ?_⟩) (by assumption) ?_
                    rotate_left 1
                    focus ((intro wS hSw; (try dsimp only at hSw); go_simp) <;> (try with_reducible rfl))
                    simp only [Act.put, List.setIfInBounds_toArray, List.set_cons_zero, List.set_cons_succ]
                    refine wpAnyH_done (by kernel_rfl) ?_ _
                    go_wp2_with fail
                    go_roundw
                    case rel => exact ⟨T1, T2, Y, O, V, j + 1, Nat.succ_le_of_lt hlt, by go_num, YN.out, HT1.out, HT2.out, W8.out.below V9.out, R8.out.below V9.out, B8.out.trans (V9.out.mono B8.out.size)⟩
                    case measure => clear hys; simp [intOf]; omega
        · obtain rfl : len = j := by omega
          go_wp2_with fail
          refine (alive_any _).mono ?_; rintro e v6 ⟨rfl, b6⟩
          go_wp2
          go_ret
          exact ⟨rfl, B1.out.trans ((BR.out.trans (b6.mono BR.out.size)).mono B1.out.size)⟩
end Go.Proofs.Ytjipmiiohijfoaa
