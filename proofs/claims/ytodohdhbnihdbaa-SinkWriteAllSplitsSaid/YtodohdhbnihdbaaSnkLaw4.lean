/-
  SinkWriteAllSplits, walked.
-/
import Derived.Test.YtodohdhbnihdbaaSnkCat
namespace Go.Proofs.Ytodohdhbnihdbaa
open Go.RowKit

set_option maxRecDepth 100000 in
set_option maxHeartbeats 8000000 in
theorem walk_SinkWriteAllSplits (ca : Option Addr) (cl cc : Nat) (cs : List Int) (F : Int) (a : Option Addr) (len cap : Nat) (rows : List Row) (w : World) (hc : ArgInts .i64 w ca cl cc cs) (hwf : (Lit.int .i64 F).wf = true)
    (hr : ArgRows .u8 w a len cap rows) (hy : ∀ y ∈ rows, y.2.1 ≤ 140737488355328) :
    Calls Try.prog 6 #[.agg #[.slice ca cl cc, .int .i64 F], .slice a len cap] w fun e w' => e = .returned (.bool true) ∧ Below w.heap.size w w' := by
  have HR := Lib.hid hr; have HY := Lib.hid hy; have HI := Lib.hid hc.inK; have HCL := Lib.hid hc.1
  have hFF := (bounds_i64 hwf).2
  have HRL := Lib.hid hr.1
  clear hr hy hc hwf
  by_cases h100 : (100 : Int) < len
  · go_enter Try.func6, Try.ntmps6
    go_wp2_with (first | (refine wpList_box_obj rfl 24 _ rfl [.slice ca cl cc, .int .i64 F] rfl ?_; intro w1 h1 b1; have H1 := Lib.hid h1; have B1 := Lib.hid b1; have c0 := h1.get 0 rfl; have c1 := h1.get 1 rfl; clear h1 b1))
    refine (alive_any _).mono ?_; rintro e w2 ⟨rfl, b2⟩
    go_wp2
    go_ret
    exact ⟨rfl, B1.out.trans (b2.mono B1.out.size)⟩
  · by_cases h5000 : (5000 : Int) < total rows
    · go_enter Try.func6, Try.ntmps6
      go_wp2_with (first | (refine wpList_box_obj rfl 24 _ rfl [.slice ca cl cc, .int .i64 F] rfl ?_; intro w1 h1 b1; have H1 := Lib.hid h1; have B1 := Lib.hid b1; have c0 := h1.get 0 rfl; have c1 := h1.get 1 rfl; clear h1 b1))
      refine (size_any a len cap rows w1 (HR.out.below B1.out) HY.out (by omega)).mono ?_; rintro e w2 ⟨rfl, rfl⟩
      go_wp2_with fail
      refine (alive_any _).mono ?_; rintro e w2 ⟨rfl, b2⟩
      go_wp2
      go_ret
      exact ⟨rfl, B1.out.trans (b2.mono B1.out.size)⟩
    · by_cases h300 : (300 : Int) < cl
      · go_enter Try.func6, Try.ntmps6
        go_wp2_with (first | (refine wpList_box_obj rfl 24 _ rfl [.slice ca cl cc, .int .i64 F] rfl ?_; intro w1 h1 b1; have H1 := Lib.hid h1; have B1 := Lib.hid b1; have c0 := h1.get 0 rfl; have c1 := h1.get 1 rfl; clear h1 b1))
        refine (size_any a len cap rows w1 (HR.out.below B1.out) HY.out (by omega)).mono ?_; rintro e w2 ⟨rfl, rfl⟩
        go_wp2_with fail
        refine (alive_any _).mono ?_; rintro e w2 ⟨rfl, b2⟩
        go_wp2
        go_ret
        exact ⟨rfl, B1.out.trans (b2.mono B1.out.size)⟩
      · have he : (Try.prog.info? 5).map (·.size) = some 1 := by obtain ⟨i, h1, _, h2, _⟩ := u8T; simp [h1, h2]
        have HE1 := Lib.hid he; clear he
        have RB : Hid (∀ y ∈ rows, Bytes y.2.2.2 ∧ y.2.2.2.length = y.2.1) := by
          obtain ⟨_, _, _, h4, _⟩ := HR.out
          exact fun y hy => ⟨(h4 y hy).bytes.bytes, (h4 y hy).1⟩
        have T5 : Hid (total rows ≤ 5000) := by show _ ≤ _; omega
        go_enter Try.func6, Try.ntmps6
        go_wp2_with (first | (refine wpList_box_obj rfl 24 _ rfl [.slice ca cl cc, .int .i64 F] rfl ?_; intro w1 h1 b1; have H1 := Lib.hid h1; have B1 := Lib.hid b1; have c0 := h1.get 0 rfl; have c1 := h1.get 1 rfl; clear h1 b1))
        refine (size_any a len cap rows w1 (HR.out.below B1.out) HY.out (by omega)).mono ?_; rintro e w2 ⟨rfl, rfl⟩
        have HR1 := Lib.hid (HR.out.below B1.out)
        have K0 : Hid (∀ w', Below w1.heap.size w1 w' → w'.cell? ⟨w.heap.size, 0, none⟩ = some (.slice ca cl cc) ∧ w'.cell? ⟨w.heap.size, 1, none⟩ = some (.int .i64 F)) := fun w' hb => ⟨(H1.out.below hb H1.out.lt).get 0 rfl, (H1.out.below hb H1.out.lt).get 1 rfl⟩
        go_wp2_with fail
        refine wp_region_held_drew (S := (fun w' => w'.cell? ⟨w.heap.size, 0, none⟩ = some (.slice ca cl cc) ∧ w'.cell? ⟨w.heap.size, 1, none⟩ = some (.int .i64 F))) (by kernel_rfl) (K0.out _ (Below.refl _ _).drew) (fun hHeld => ?_)
        refine wpAnyH_take (i := 0) (oi := { dst := some 27, op := Go.Op.load 24 (Go.Operand.tmp 2), type := 24, pos := "law.go:123", after := #[], guard := none }) (v := ?_) rfl (by kernel_rfl) (by kernel_rfl) (by kernel_rfl) (fun _ _ _ h => h) (Or.inl ⟨by rfl, ?_⟩) (by assumption) ?_
        rotate_left 1
        focus ((intro wS hSw; (try dsimp only at hSw); go_simp) <;> (try with_reducible rfl))
        simp only [Act.put, List.setIfInBounds_toArray, List.set_cons_zero, List.set_cons_succ]
        refine wpAnyH_take (i := 2) (oi := { dst := some 29, op := Go.Op.load 24 (Go.Operand.tmp 2), type := 24, pos := "law.go:123", after := #[], guard := none }) (v := ?_) rfl (by kernel_rfl) (by kernel_rfl) (by kernel_rfl) (fun _ _ _ h => h) (Or.inl ⟨by rfl, ?_⟩) (by assumption) ?_
        rotate_left 1
        focus ((intro wS hSw; (try dsimp only at hSw); go_simp) <;> (try with_reducible rfl))
        simp only [Act.put, List.setIfInBounds_toArray, List.set_cons_zero, List.set_cons_succ]
        refine wpAnyH_ready (rs := [1]) (by kernel_rfl) (by simp) ?_
        refine AllReadyH.cons (o := { dst := some 28, op := Go.Op.call { callee := Go.Callee.value (Go.Operand.func 14), args := #[Go.Operand.tmp 27], argTypes := #[24] }, type := 27, pos := "law.go:123", after := #[{ on := 0, ground := Go.Ground.data }], guard := none }) rfl (fun K hK => ?_) AllReadyH.nil
        go_simp
        refine (snk_new ca cl cc cs F _ ((HI.out.below B1.out).below (Below.refl _ _).drew) HCL.out (by omega)).mono ?_; rintro e w3 ⟨m, rfl, s3, b3⟩; have S3 := Lib.hid s3; have B3 := Lib.hid ((Below.refl w1.heap.size w1).drew.trans b3); clear s3 b3
        go_wp2_with fail
        refine hK.out _ _ (K0.out _ B3.out) (fun hHeld => ?_)
        clear hK K
        (try simp only [Act.put, List.setIfInBounds_toArray, List.set_cons_zero, List.set_cons_succ])
        refine wpAnyH_ready (rs := [3]) (by kernel_rfl) (by simp) ?_
        refine AllReadyH.cons (o := { dst := some 30, op := Go.Op.call { callee := Go.Callee.value (Go.Operand.func 14), args := #[Go.Operand.tmp 29], argTypes := #[24] }, type := 27, pos := "law.go:123", after := #[{ on := 2, ground := Go.Ground.data }, { on := 1, ground := Go.Ground.chain }], guard := none }) rfl (fun K hK => ?_) AllReadyH.nil
        go_simp
        refine (snk_new ca cl cc cs F _ ((HI.out.below B1.out).below B3.out) HCL.out (by omega)).mono ?_; rintro e w4 ⟨p, rfl, s4, b4⟩; have S4 := Lib.hid s4; have B4 := Lib.hid b4; clear s4 b4
        go_wp2_with fail
        refine hK.out _ _ (K0.out _ (B3.out.trans (B4.out.mono B3.out.size))) (fun hHeld => ?_)
        clear hK K
        (try simp only [Act.put, List.setIfInBounds_toArray, List.set_cons_zero, List.set_cons_succ])
        refine wpAnyH_take (i := 4) (oi := { dst := some 5, op := Go.Op.assign (Go.Operand.tmp 28), type := 27, pos := "law.go:123", after := #[{ on := 1, ground := Go.Ground.data }, { on := 3, ground := Go.Ground.chain }, { on := 0, ground := Go.Ground.phase }, { on := 1, ground := Go.Ground.phase }, { on := 2, ground := Go.Ground.textOnly Go.Departure.lateStores }, { on := 3, ground := Go.Ground.textOnly Go.Departure.lateStoresUnsure }], guard := none }) (v := ?_) rfl (by kernel_rfl) (by kernel_rfl) (by kernel_rfl) (fun _ _ _ h => h) (Or.inl ⟨by rfl, ?_⟩) (by assumption) ?_
        rotate_left 1
        focus ((intro wS hSw; (try dsimp only at hSw); go_simp) <;> (try with_reducible rfl))
        simp only [Act.put, List.setIfInBounds_toArray, List.set_cons_zero, List.set_cons_succ]
        refine wpAnyH_take (i := 5) (oi := { dst := some 6, op := Go.Op.assign (Go.Operand.tmp 30), type := 27, pos := "law.go:123", after := #[{ on := 3, ground := Go.Ground.data }, { on := 4, ground := Go.Ground.chain }, { on := 0, ground := Go.Ground.phase }, { on := 1, ground := Go.Ground.phase }, { on := 2, ground := Go.Ground.phase }, { on := 3, ground := Go.Ground.phase }, { on := 4, ground := Go.Ground.phase }], guard := none }) (v := ?_) rfl (by kernel_rfl) (by kernel_rfl) (by kernel_rfl) (fun _ _ _ h => h) (Or.inl ⟨by rfl, ?_⟩) (by assumption) ?_
        rotate_left 1
        focus ((intro wS hSw; (try dsimp only at hSw); go_simp) <;> (try with_reducible rfl))
        simp only [Act.put, List.setIfInBounds_toArray, List.set_cons_zero, List.set_cons_succ]
        refine wpAnyH_done (by kernel_rfl) ?_ _
        have S3' := Lib.hid (S3.out.below B4.out)
        have Z3 := Lib.hid B3.out.size; have Z4 := Lib.hid B4.out.size
        have B14 := Lib.hid (B3.out.trans (B4.out.mono B3.out.size))
        clear c0 c1
        go_wp2_with (first | (refine wpList_lit_k rfl 31 5 .u8 rfl Try.underlying31 HE1.out ?_; intro w6 h6 b6; have O6 := Lib.hid h6; have B6 := Lib.hid b6; clear h6 b6))
        have T6 : Hid (w6.ownsRow 0 5 1 (.slice (some ⟨w4.heap.size, 0, none⟩) 0 0) 0 (([] : List Int).map (.int .u8))) := own_base O6.out (Nat.zero_le _)
        have S6 := Lib.hid (S3'.out.below B6.out); have P6 := Lib.hid (S4.out.below B6.out)
        have B16 := Lib.hid (B14.out.trans (B6.out.mono B14.out.size))
        obtain ⟨S2, hS2⟩ := named (fun k => w3.heap.size ≤ k ∧ k < w4.heap.size)
        have HS2 : Hid (∀ k, S2 k → w3.heap.size ≤ k ∧ k < w4.heap.size) := by show ∀ _, _; rw [hS2.out]; exact fun _ h => h
        rw [← hS2.out] at P6
        go_loopw [7, 8, 10, 40] (fun t e _ i wr => ∃ (S : Nat → Prop) (ta : Option Addr) (tc j r : Nat), j ≤ len ∧ i = .int .i64 j ∧ t = .slice ta (total (rows.take j)) tc ∧ e = .int .i64 (allE F 0 (total (rows.take j))) ∧ (∀ k, S k → w1.heap.size ≤ k ∧ ¬ S2 k) ∧ Snk wr S m ((cat rows j).take (allK F 0 (total (rows.take j)))) F cs r ∧ Snk wr S2 p [] F cs 0 ∧ wr.ownsRow 0 5 1 (.slice ta (total (rows.take j)) tc) (total (rows.take j)) ((cat rows j).map (.int .u8)) ∧ (∀ x, ta = some x → ¬ S x.block ∧ ¬ S2 x.block ∧ w1.heap.size ≤ x.block) ∧ Below w1.heap.size w1 wr) (fun _ _ _ i _ => len - (intOf i).toNat)
        case atStart =>
          have e0 : allE F 0 0 = 0 := by unfold allE; rw [if_neg (by omega)]
          refine ⟨(fun k => w1.heap.size ≤ k ∧ k < w3.heap.size), _, _, 0, 0, Nat.zero_le _, rfl, rfl, by show _ = Value.int .i64 (allE F 0 0); rw [e0], fun k hk => ⟨hk.1, fun h => by have := HS2.out k h; omega⟩, ?_, P6.out, T6.out, fun x hx => ?_, B16.out⟩
          · rw [cat_zero, List.take_nil]; exact S6.out
          · cases hx
            have := Z3.out; have := Z4.out
            exact ⟨fun h => by have := h.2; simp only at this; omega, fun h => by have := HS2.out _ h; simp only at this; omega, by simp only; omega⟩
        case round =>
          obtain ⟨S, ta, tc, j, r, hj, rfl, rfl, rfl, hS, hs, hp, hown, hta, hbel⟩ := hrel
          have HS := Lib.hid hS; have SS := Lib.hid hs; have PP := Lib.hid hp; have TA := Lib.hid hta; have B1R := Lib.hid hbel
          have CL : Hid ((cat rows j).length = total (rows.take j)) := cat_len rows j fun y hy => (RB.out y hy).2
          have CB : Hid (Bytes (cat rows j)) := cat_bytes rows j fun y hy => (RB.out y hy).1
          obtain ⟨T, hT⟩ := named (total (rows.take j))
          rw [← hT.out] at hown hs ⊢
          have OT := Lib.hid hown; have SS := Lib.hid hs
          have hT5 : T ≤ 5000 := by have := total_take_le rows j; have := T5.out; have := hT.out; omega
          have CL' : Hid ((cat rows j).length = T) := by show _ = _; rw [CL.out, hT.out]
          clear hS hs hp hown hta hbel
          by_cases hlt : j < len
          · obtain ⟨b, off, y, rfl, _, hy, hm, hc, hz⟩ := (HR1.out.below B1R.out).get j hlt
            have hlt' : (j : Int) < len := by omega
            obtain ⟨ya, yl, yc, ys⟩ := y
            have CS : Hid (cat rows (j + 1) = cat rows j ++ ys) := cat_succ hy
            have TS : Hid (total (rows.take (j + 1)) = T + yl) := by show _ = _; rw [total_take hy, hT.out]
            have YL : Hid (ys.length = yl) := hz.1
            have YC : Hid (yl ≤ yc) := hz.2.1
            have hT5' : T + yl ≤ 5000 := by have := total_take_le rows (j + 1); have := T5.out; have := TS.out; omega
            have HYA : Hid (∀ x, ya = some x → ys = [] ∨ x.block < w1.heap.size) := by
              obtain ⟨_, _, _, h4, _⟩ := HR1.out
              intro x hx
              rcases (h4 _ hm).bytes with h | ⟨b', off', h1, h2, _⟩
              · exact .inl h
              · simp only at h1; rw [h1] at hx; cases hx; exact .inr h2
            have YBA : Hid (∀ w', Below w1.heap.size w1 w' → BytesIn w' ya ys) := by
              obtain ⟨_, _, _, h4, _⟩ := HR1.out
              exact fun w' hb => (h4 _ hm).bytes.below hb
            clear hz hy hm
            obtain ⟨E, hE⟩ := named (allE F 0 T)
            rw [← hE.out]
            have TL := Lib.hid (own_cap OT.out).2
            by_cases hE0 : E = 0
            · have m := all_more (F := F) CL'.out YL.out (by rw [← hE.out]; exact hE0)
              obtain ⟨m1, m2, m3⟩ := m
              have M1 := Lib.hid m1; have M2 := Lib.hid m2; have M3 := Lib.hid m3
              clear m1 m2 m3
              obtain rfl : E = 0 := hE0
              go_wp2_with (first | (at_builtin; refine wpList_append_at rfl _ _ 31 rfl 5 .u8 1 Try.underlying31 u8T ta T tc (cat rows j) rfl OT.out ya yl yc ys rfl (YBA.out _ B1R.out).inK YL.out (by unfold maxLen; omega) (by omega) ?_; intro a6 c6 w6 h6 o6 x6; rw [← CS.out] at h6; have O6 := Lib.hid h6; have Q6 := Lib.hid o6; have X6 := Lib.hid x6; have B7 := Lib.hid (B1R.out.trans (o6.below (B := w1.heap.size) (fun k ⟨x, h1, h2⟩ => h2 ▸ (TA.out x h1).2.2) B1R.out.size)); clear h6 o6 x6))
              have SS6 := Lib.hid (SS.out.only Q6.out (fun k hk ⟨x, h1, h2⟩ => by subst h2; exact (TA.out x h1).1 hk))
              have PP6 := Lib.hid (PP.out.only Q6.out (fun k hk ⟨x, h1, h2⟩ => by subst h2; exact (TA.out x h1).2.1 hk))
              refine (snk_all ya yl yc ys w6 SS6.out (YBA.out _ B7.out) YL.out YC.out (by rw [M3.out, CL'.out]; omega) hFF (fun x hx => (HYA.out x hx).imp id fun h hs => by have := (HS.out _ hs).1; omega)).mono ?_
              rintro e w7 ⟨rfl, s7, o7⟩
              rw [M3.out, CL'.out, M1.out, ← CS.out] at s7
              rw [M3.out, CL'.out, M2.out]
              have S7 := Lib.hid s7; have Q7 := Lib.hid o7
              clear s7 o7
              have PP7 := Lib.hid (PP6.out.only Q7.out (fun k hk hs => (HS.out k hs).2 hk))
              have OT7 := Lib.hid (own_only' O6.out Q7.out (fun x hx hs => by
                rcases X6.out x hx with ⟨y, h1, h2⟩ | h
                · rw [← h2] at hs; exact (TA.out y h1).1 hs
                · have := SS.out.lt _ hs; omega))
              have Z67 := Lib.hid Q6.out.size
              go_wp2_with fail
              go_roundw
              case rel => exact ⟨Grow S w6 w7, a6, c6, j + 1, _, by omega, by go_num, by rw [TS.out], by rw [TS.out], fun k hk => hk.elim (HS.out k) (fun h => ⟨Nat.le_trans B7.out.size h.1, fun h' => by have := PP6.out.lt _ h'; omega⟩), by rw [TS.out]; exact S7.out, PP7.out, by rw [TS.out]; exact OT7.out, fun x hx => (by
                rcases X6.out x hx with ⟨y, h1, h2⟩ | h
                · rw [← h2]; exact ⟨fun hk => hk.elim (TA.out y h1).1 (fun h => by have := TL.out y h1; have := Z67.out; omega), (TA.out y h1).2⟩
                · exact ⟨fun hk => hk.elim (fun hk => by have := SS.out.lt _ hk; omega) (fun h' => by omega), fun hk => by have := PP.out.lt _ hk; omega, Nat.le_trans B1R.out.size h.1⟩), B7.out.trans (Q7.out.below (B := w1.heap.size) (fun k hk => (HS.out k hk).1) B7.out.size)⟩
              case measure => simp [intOf]; omega
            · have m := all_full (F := F) (n := yl) (ys := ys) CL'.out (by rw [← hE.out]; exact hE0)
              obtain ⟨m1, m2⟩ := m
              have M1 := Lib.hid m1; have M2 := Lib.hid m2
              have hE1 : (E == 0) = false := by simpa using hE0
              clear m1 m2
              go_wp2_with (first | (at_builtin; refine wpList_append_at rfl _ _ 31 rfl 5 .u8 1 Try.underlying31 u8T ta T tc (cat rows j) rfl OT.out ya yl yc ys rfl (YBA.out _ B1R.out).inK YL.out (by unfold maxLen; omega) (by omega) ?_; intro a6 c6 w6 h6 o6 x6; rw [← CS.out] at h6; have O6 := Lib.hid h6; have Q6 := Lib.hid o6; have X6 := Lib.hid x6; have B7 := Lib.hid (B1R.out.trans (o6.below (B := w1.heap.size) (fun k ⟨x, h1, h2⟩ => h2 ▸ (TA.out x h1).2.2) B1R.out.size)); clear h6 o6 x6))
              have SS6 := Lib.hid (SS.out.only Q6.out (fun k hk ⟨x, h1, h2⟩ => by subst h2; exact (TA.out x h1).1 hk))
              have PP6 := Lib.hid (PP.out.only Q6.out (fun k hk ⟨x, h1, h2⟩ => by subst h2; exact (TA.out x h1).2.1 hk))
              have ss := SS6.out
              rw [← M1.out, ← CS.out] at ss
              go_roundw
              case rel => exact ⟨S, a6, c6, j + 1, _, by omega, by go_num, by rw [TS.out], by rw [TS.out, M2.out, hE.out], HS.out, by rw [TS.out]; exact ss, PP6.out, by rw [TS.out]; exact O6.out, fun x hx => (by
                rcases X6.out x hx with ⟨y, h1, h2⟩ | h
                · rw [← h2]; exact TA.out y h1
                · exact ⟨fun hk => by have := SS.out.lt _ hk; omega, fun hk => by have := PP.out.lt _ hk; omega, Nat.le_trans B1R.out.size h.1⟩), B7.out⟩
              case measure => simp [intOf]; omega
          · obtain rfl : len = j := by omega
            obtain ⟨E, hE⟩ := named (allE F 0 T)
            rw [← hE.out]
            go_wp2_with fail
            refine (snk_all ta T tc (cat rows len) wr PP.out ((own_bt OT.out CB.out)) CL'.out (own_cap OT.out).1 (by simp; omega) hFF (fun x hx => .inr (TA.out x hx).2.1)).mono ?_
            rintro e w5 ⟨rfl, s5, o5⟩
            have ez : ([] : List Int).length = 0 := rfl
            rw [ez, List.nil_append] at s5
            rw [ez, ← hE.out]
            have SS5 := Lib.hid (SS.out.only o5 (fun k hk hs => (HS.out k hk).2 hs))
            have ST5 := Lib.hid s5
            have B5 := Lib.hid (B1R.out.trans (o5.below (B := w1.heap.size) (fun k hk => by have := HS2.out k hk; have := Z3.out; omega) B1R.out.size))
            obtain ⟨N, hNs⟩ : ∃ N, Hid (((cat rows len).take (allK F 0 T)).length = N) := ⟨_, rfl⟩
            have hNt : Hid (((cat rows len).take (allK F 0 T)).length = N) := hNs
            obtain ⟨SZ, hSZ⟩ := named (strOfNums ((cat rows len).take (allK F 0 T)))
            have hSZ' : Hid (SZ = strOfNums ((cat rows len).take (allK F 0 T))) := hSZ
            clear s5 o5 ez
            go_wp2_with fail
            refine wp_region_held_drew (S := (fun w' => Below w5.heap.size w5 w')) (by kernel_rfl) ((Below.refl _ _).drew) (fun hHeld => ?_)
            refine wpAnyH_ready (rs := [0]) (by kernel_rfl) (by simp) ?_
            refine AllReadyH.cons (o := { dst := some 56, op := Go.Op.call { callee := Go.Callee.value (Go.Operand.func 13), args := #[], argTypes := #[] }, type := 4, pos := "law.go:136", after := #[], guard := none }) rfl (fun K hK => ?_) AllReadyH.nil
            go_simp
            refine (alive_any _).mono ?_; rintro e w8 ⟨rfl, b8⟩; have B8 := Lib.hid ((Below.refl w5.heap.size w5).drew.trans b8); clear b8
            go_wp2_with fail
            refine hK.out _ _ (B8.out) (fun hHeld => ?_)
            clear hK K
            (try simp only [Act.put, List.setIfInBounds_toArray, List.set_cons_zero, List.set_cons_succ])
            refine wpAnyH_take (i := 1) (oi := { dst := some 57, op := Go.Op.move (Go.Operand.tmp 56), type := 4, pos := "law.go:136", after := #[{ on := 0, ground := Go.Ground.data }, { on := 0, ground := Go.Ground.chain }], guard := none }) (v := ?_) rfl (by kernel_rfl) (by kernel_rfl) (by kernel_rfl) (fun _ _ _ h => h) (Or.inl ⟨by rfl, ?_⟩) (by assumption) ?_
            rotate_left 1
            focus ((intro wS hSw; (try dsimp only at hSw); go_simp) <;> (try with_reducible rfl))
            simp only [Act.put, List.setIfInBounds_toArray, List.set_cons_zero, List.set_cons_succ]
            refine wpAnyH_take (i := 2) (oi := { dst := some 58, op := Go.Op.move (Go.Operand.tmp 8), type := 28, pos := "law.go:136", after := #[{ on := 1, ground := Go.Ground.guard }], guard := some (1, true) }) (v := ?_) rfl (by kernel_rfl) (by kernel_rfl) (by kernel_rfl) (fun _ _ _ h => h) (Or.inl ⟨by rfl, ?_⟩) (by assumption) ?_
            rotate_left 1
            focus ((intro wS hSw; (try dsimp only at hSw); go_simp) <;> (try with_reducible rfl))
            simp only [Act.put, List.setIfInBounds_toArray, List.set_cons_zero, List.set_cons_succ]
            refine wpAnyH_take (i := 3) (oi := { dst := some 59, op := Go.Op.move (Go.Operand.tmp 11), type := 28, pos := "law.go:136", after := #[{ on := 1, ground := Go.Ground.guard }], guard := some (1, true) }) (v := ?_) rfl (by kernel_rfl) (by kernel_rfl) (by kernel_rfl) (fun _ _ _ h => h) (Or.inl ⟨by rfl, ?_⟩) (by assumption) ?_
            rotate_left 1
            focus ((intro wS hSw; (try dsimp only at hSw); go_simp) <;> (try with_reducible rfl))
            simp only [Act.put, List.setIfInBounds_toArray, List.set_cons_zero, List.set_cons_succ]
            refine wpAnyH_take (i := 4) (oi := { dst := some 60, op := Go.Op.binOp Go.BinOp.eql 28 (Go.Operand.tmp 58) (Go.Operand.tmp 59) 28, type := 4, pos := "law.go:136", after := #[{ on := 2, ground := Go.Ground.data }, { on := 3, ground := Go.Ground.data }, { on := 1, ground := Go.Ground.guard }], guard := some (1, true) }) (v := ?_) rfl (by kernel_rfl) (by kernel_rfl) (by kernel_rfl) (fun _ _ _ h => h) (Or.inl ⟨by rfl, ?_⟩) (by assumption) ?_
            rotate_left 1
            focus ((intro wS hSw; (try dsimp only at hSw); go_simp) <;> (try with_reducible rfl))
            simp only [Act.put, List.setIfInBounds_toArray, List.set_cons_zero, List.set_cons_succ]
            refine wpAnyH_take (i := 5) (oi := { dst := some 61, op := Go.Op.pick (Go.Operand.tmp 57) (Go.Operand.tmp 60) (Go.Operand.const (Go.Value.bool false)), type := 4, pos := "law.go:136", after := #[{ on := 1, ground := Go.Ground.data }, { on := 4, ground := Go.Ground.data }], guard := none }) (v := ?_) rfl (by kernel_rfl) (by kernel_rfl) (by kernel_rfl) (fun _ _ _ h => h) (Or.inl ⟨by rfl, ?_⟩) (by assumption) ?_
            rotate_left 1
            focus ((intro wS hSw; (try dsimp only at hSw); go_simp) <;> (try with_reducible rfl))
            simp only [Act.put, List.setIfInBounds_toArray, List.set_cons_zero, List.set_cons_succ]
            refine wpAnyH_take (i := 6) (oi := { dst := some 62, op := Go.Op.move (Go.Operand.tmp 61), type := 4, pos := "law.go:136", after := #[{ on := 5, ground := Go.Ground.data }, { on := 1, ground := Go.Ground.chain }], guard := none }) (v := ?_) rfl (by kernel_rfl) (by kernel_rfl) (by kernel_rfl) (fun _ _ _ h => h) (Or.inl ⟨by rfl, ?_⟩) (by assumption) ?_
            rotate_left 1
            focus ((intro wS hSw; (try dsimp only at hSw); go_simp) <;> (try with_reducible rfl))
            simp only [Act.put, List.setIfInBounds_toArray, List.set_cons_zero, List.set_cons_succ]
            refine wpAnyH_take (i := 7) (oi := { dst := some 63, op := Go.Op.move (Go.Operand.tmp 5), type := 27, pos := "law.go:136", after := #[{ on := 6, ground := Go.Ground.guard }], guard := some (6, true) }) (v := ?_) rfl (by kernel_rfl) (by kernel_rfl) (by kernel_rfl) (fun _ _ _ h => h) (Or.inl ⟨by rfl, ?_⟩) (by assumption) ?_
            rotate_left 1
            focus ((intro wS hSw; (try dsimp only at hSw); go_simp) <;> (try with_reducible rfl))
            simp only [Act.put, List.setIfInBounds_toArray, List.set_cons_zero, List.set_cons_succ]
            refine wpAnyH_take (i := 10) (oi := { dst := some 66, op := Go.Op.move (Go.Operand.tmp 6), type := 27, pos := "law.go:136", after := #[{ on := 6, ground := Go.Ground.guard }], guard := some (6, true) }) (v := ?_) rfl (by kernel_rfl) (by kernel_rfl) (by kernel_rfl) (fun _ _ _ h => h) (Or.inl ⟨by rfl, ?_⟩) (by assumption) ?_
            rotate_left 1
            focus ((intro wS hSw; (try dsimp only at hSw); go_simp) <;> (try with_reducible rfl))
            simp only [Act.put, List.setIfInBounds_toArray, List.set_cons_zero, List.set_cons_succ]
            refine wpAnyH_ready (rs := [8]) (by kernel_rfl) (by simp) ?_
            refine AllReadyH.cons (o := { dst := some 64, op := Go.Op.call { callee := Go.Callee.value (Go.Operand.func 10), args := #[Go.Operand.tmp 63], argTypes := #[27] }, type := 31, pos := "law.go:136", after := #[{ on := 7, ground := Go.Ground.data }, { on := 6, ground := Go.Ground.chain }, { on := 6, ground := Go.Ground.guard }], guard := some (6, true) }) rfl (fun K hK => ?_) AllReadyH.nil
            go_simp
            refine (sbytes_told SS5.out N hNs.out SZ hSZ.out _ B8.out).mono ?_; rintro e w9 ⟨a9, c9, rfl, x9, y9, z9⟩; have X9 := Lib.hid x9; have Y9 := Lib.hid y9; clear x9 y9 z9
            go_wp2_with fail
            refine hK.out _ _ (Y9.out) (fun hHeld => ?_)
            clear hK K
            (try simp only [Act.put, List.setIfInBounds_toArray, List.set_cons_zero, List.set_cons_succ])
            refine wpAnyH_switch (S2 := (fun w' => (convert 31 9 (.slice a9 N c9)).run Try.prog w' = .ok (.string SZ) w' ∧ Below w5.heap.size w5 w')) (fun _ h => h.2) ?_
            have hHeld : ((fun w' => (convert 31 9 (.slice a9 N c9)).run Try.prog w' = .ok (.string SZ) w' ∧ Below w5.heap.size w5 w')) _ := ⟨X9.out _ (Below.refl _ _), Y9.out⟩
            refine wpAnyH_take (i := 9) (oi := { dst := some 65, op := Go.Op.convert 31 9 (Go.Operand.tmp 64), type := 9, pos := "law.go:136", after := #[{ on := 8, ground := Go.Ground.data }, { on := 6, ground := Go.Ground.guard }], guard := some (6, true) }) (v := ?_) rfl (by kernel_rfl) (by kernel_rfl) (by kernel_rfl) (fun _ _ _ h => h) (Or.inl ⟨by rfl, ?_⟩) (by assumption) ?_
            rotate_left 1
            focus ((intro wS hSw; (try dsimp only at hSw); go_simp) <;> (try with_reducible rfl))
            simp only [Act.put, List.setIfInBounds_toArray, List.set_cons_zero, List.set_cons_succ]
            refine wpAnyH_ready (rs := [11]) (by kernel_rfl) (by simp) ?_
            refine AllReadyH.cons (o := { dst := some 67, op := Go.Op.call { callee := Go.Callee.value (Go.Operand.func 10), args := #[Go.Operand.tmp 66], argTypes := #[27] }, type := 31, pos := "law.go:136", after := #[{ on := 10, ground := Go.Ground.data }, { on := 8, ground := Go.Ground.chain }, { on := 6, ground := Go.Ground.guard }], guard := some (6, true) }) rfl (fun K hK => ?_) AllReadyH.nil
            go_simp
            refine (sbytes_told ST5.out N hNt.out SZ hSZ'.out _ Y9.out).mono ?_; rintro e w10 ⟨a10, c10, rfl, x10, y10, z10⟩; have X10 := Lib.hid x10; have Y10 := Lib.hid y10; have Z10 := Lib.hid z10; clear x10 y10 z10
            go_wp2_with fail
            refine hK.out _ _ (⟨X9.out _ Z10.out, Y10.out⟩) (fun hHeld => ?_)
            clear hK K
            (try simp only [Act.put, List.setIfInBounds_toArray, List.set_cons_zero, List.set_cons_succ])
            refine wpAnyH_switch (S2 := (fun w' => (convert 31 9 (.slice a10 N c10)).run Try.prog w' = .ok (.string SZ) w' ∧ (convert 31 9 (.slice a9 N c9)).run Try.prog w' = .ok (.string SZ) w' ∧ Below w5.heap.size w5 w')) (fun _ h => h.2) ?_
            have hHeld : ((fun w' => (convert 31 9 (.slice a10 N c10)).run Try.prog w' = .ok (.string SZ) w' ∧ (convert 31 9 (.slice a9 N c9)).run Try.prog w' = .ok (.string SZ) w' ∧ Below w5.heap.size w5 w')) _ := ⟨X10.out _ (Below.refl _ _), X9.out _ Z10.out, Y10.out⟩
            refine wpAnyH_take (i := 12) (oi := { dst := some 68, op := Go.Op.convert 31 9 (Go.Operand.tmp 67), type := 9, pos := "law.go:136", after := #[{ on := 11, ground := Go.Ground.data }, { on := 6, ground := Go.Ground.guard }], guard := some (6, true) }) (v := ?_) rfl (by kernel_rfl) (by kernel_rfl) (by kernel_rfl) (fun _ _ _ h => h) (Or.inl ⟨by rfl, ?_⟩) (by assumption) ?_
            rotate_left 1
            focus ((intro wS hSw; (try dsimp only at hSw); go_simp) <;> (try with_reducible rfl))
            simp only [Act.put, List.setIfInBounds_toArray, List.set_cons_zero, List.set_cons_succ]
            refine wpAnyH_take (i := 13) (oi := { dst := some 69, op := Go.Op.binOp Go.BinOp.eql 9 (Go.Operand.tmp 65) (Go.Operand.tmp 68) 9, type := 4, pos := "law.go:136", after := #[{ on := 9, ground := Go.Ground.data }, { on := 12, ground := Go.Ground.data }, { on := 6, ground := Go.Ground.guard }], guard := some (6, true) }) (v := ?_) rfl (by kernel_rfl) (by kernel_rfl) (by kernel_rfl) (fun _ _ _ h => h) (Or.inl ⟨by rfl, ?_⟩) (by assumption) ?_
            rotate_left 1
            focus ((intro wS hSw; (try dsimp only at hSw); go_simp) <;> (try with_reducible rfl))
            simp only [Act.put, List.setIfInBounds_toArray, List.set_cons_zero, List.set_cons_succ]
            refine wpAnyH_take (i := 14) (oi := { dst := some 70, op := Go.Op.pick (Go.Operand.tmp 62) (Go.Operand.tmp 69) (Go.Operand.const (Go.Value.bool false)), type := 4, pos := "law.go:136", after := #[{ on := 6, ground := Go.Ground.data }, { on := 13, ground := Go.Ground.data }], guard := none }) (v := ?_) rfl (by kernel_rfl) (by kernel_rfl) (by kernel_rfl) (fun _ _ _ h => h) (Or.inl ⟨by rfl, ?_⟩) (by assumption) ?_
            rotate_left 1
            focus ((intro wS hSw; (try dsimp only at hSw); go_simp) <;> (try with_reducible rfl))
            simp only [Act.put, List.setIfInBounds_toArray, List.set_cons_zero, List.set_cons_succ]
            refine wpAnyH_take (i := 15) (oi := { dst := some 71, op := Go.Op.move (Go.Operand.tmp 70), type := 4, pos := "law.go:136", after := #[{ on := 14, ground := Go.Ground.data }, { on := 11, ground := Go.Ground.chain }], guard := none }) (v := ?_) rfl (by kernel_rfl) (by kernel_rfl) (by kernel_rfl) (fun _ _ _ h => h) (Or.inl ⟨by rfl, ?_⟩) (by assumption) ?_
            rotate_left 1
            focus ((intro wS hSw; (try dsimp only at hSw); go_simp) <;> (try with_reducible rfl))
            simp only [Act.put, List.setIfInBounds_toArray, List.set_cons_zero, List.set_cons_succ]
            refine wpAnyH_take (i := 16) (oi := { dst := some 72, op := Go.Op.move (Go.Operand.tmp 5), type := 27, pos := "law.go:136", after := #[{ on := 15, ground := Go.Ground.guard }], guard := some (15, true) }) (v := ?_) rfl (by kernel_rfl) (by kernel_rfl) (by kernel_rfl) (fun _ _ _ h => h) (Or.inl ⟨by rfl, ?_⟩) (by assumption) ?_
            rotate_left 1
            focus ((intro wS hSw; (try dsimp only at hSw); go_simp) <;> (try with_reducible rfl))
            simp only [Act.put, List.setIfInBounds_toArray, List.set_cons_zero, List.set_cons_succ]
            refine wpAnyH_take (i := 18) (oi := { dst := some 74, op := Go.Op.move (Go.Operand.tmp 6), type := 27, pos := "law.go:136", after := #[{ on := 15, ground := Go.Ground.guard }], guard := some (15, true) }) (v := ?_) rfl (by kernel_rfl) (by kernel_rfl) (by kernel_rfl) (fun _ _ _ h => h) (Or.inl ⟨by rfl, ?_⟩) (by assumption) ?_
            rotate_left 1
            focus ((intro wS hSw; (try dsimp only at hSw); go_simp) <;> (try with_reducible rfl))
            simp only [Act.put, List.setIfInBounds_toArray, List.set_cons_zero, List.set_cons_succ]
            refine wpAnyH_ready (rs := [17]) (by kernel_rfl) (by simp) ?_
            refine AllReadyH.cons (o := { dst := some 73, op := Go.Op.call { callee := Go.Callee.value (Go.Operand.func 11), args := #[Go.Operand.tmp 72], argTypes := #[27] }, type := 2, pos := "law.go:136", after := #[{ on := 16, ground := Go.Ground.data }, { on := 15, ground := Go.Ground.chain }, { on := 15, ground := Go.Ground.guard }], guard := some (15, true) }) rfl (fun K hK => ?_) AllReadyH.nil
            go_simp
            refine (slen_told SS5.out N hNs.out _ Y10.out).mono ?_; rintro e w11 ⟨rfl, rfl⟩
            go_wp2_with fail
            refine hK.out _ _ (⟨X10.out _ (Below.refl _ _), X9.out _ Z10.out, Y10.out⟩) (fun hHeld => ?_)
            clear hK K
            (try simp only [Act.put, List.setIfInBounds_toArray, List.set_cons_zero, List.set_cons_succ])
            refine wpAnyH_ready (rs := [19]) (by kernel_rfl) (by simp) ?_
            refine AllReadyH.cons (o := { dst := some 75, op := Go.Op.call { callee := Go.Callee.value (Go.Operand.func 11), args := #[Go.Operand.tmp 74], argTypes := #[27] }, type := 2, pos := "law.go:136", after := #[{ on := 18, ground := Go.Ground.data }, { on := 17, ground := Go.Ground.chain }, { on := 15, ground := Go.Ground.guard }], guard := some (15, true) }) rfl (fun K hK => ?_) AllReadyH.nil
            go_simp
            refine (slen_told ST5.out N hNt.out _ Y10.out).mono ?_; rintro e w11 ⟨rfl, rfl⟩
            go_wp2_with fail
            refine hK.out _ _ (⟨X10.out _ (Below.refl _ _), X9.out _ Z10.out, Y10.out⟩) (fun hHeld => ?_)
            clear hK K
            (try simp only [Act.put, List.setIfInBounds_toArray, List.set_cons_zero, List.set_cons_succ])
            refine wpAnyH_take (i := 20) (oi := { dst := some 76, op := Go.Op.binOp Go.BinOp.eql 2 (Go.Operand.tmp 73) (Go.Operand.tmp 75) 2, type := 4, pos := "law.go:136", after := #[{ on := 17, ground := Go.Ground.data }, { on := 19, ground := Go.Ground.data }, { on := 15, ground := Go.Ground.guard }], guard := some (15, true) }) (v := ?_) rfl (by kernel_rfl) (by kernel_rfl) (by kernel_rfl) (fun _ _ _ h => h) (Or.inl ⟨by rfl, ?_⟩) (by assumption) ?_
            rotate_left 1
            focus ((intro wS hSw; (try dsimp only at hSw); go_simp) <;> (try with_reducible rfl))
            simp only [Act.put, List.setIfInBounds_toArray, List.set_cons_zero, List.set_cons_succ]
            refine wpAnyH_take (i := 21) (oi := { dst := some 77, op := Go.Op.pick (Go.Operand.tmp 71) (Go.Operand.tmp 76) (Go.Operand.const (Go.Value.bool false)), type := 4, pos := "law.go:136", after := #[{ on := 15, ground := Go.Ground.data }, { on := 20, ground := Go.Ground.data }], guard := none }) (v := ?_) rfl (by kernel_rfl) (by kernel_rfl) (by kernel_rfl) (fun _ _ _ h => h) (Or.inl ⟨by rfl, ?_⟩) (by assumption) ?_
            rotate_left 1
            focus ((intro wS hSw; (try dsimp only at hSw); go_simp) <;> (try with_reducible rfl))
            simp only [Act.put, List.setIfInBounds_toArray, List.set_cons_zero, List.set_cons_succ]
            refine wpAnyH_take (i := 22) (oi := { dst := some 4, op := Go.Op.assign (Go.Operand.tmp 77), type := 4, pos := "law.go:136", after := #[{ on := 21, ground := Go.Ground.data }, { on := 19, ground := Go.Ground.chain }, { on := 0, ground := Go.Ground.phase }, { on := 1, ground := Go.Ground.phase }, { on := 2, ground := Go.Ground.phase }, { on := 3, ground := Go.Ground.phase }, { on := 4, ground := Go.Ground.phase }, { on := 5, ground := Go.Ground.phase }, { on := 6, ground := Go.Ground.phase }, { on := 7, ground := Go.Ground.phase }, { on := 8, ground := Go.Ground.phase }, { on := 9, ground := Go.Ground.phase }, { on := 10, ground := Go.Ground.phase }, { on := 11, ground := Go.Ground.phase }, { on := 12, ground := Go.Ground.phase }, { on := 13, ground := Go.Ground.phase }, { on := 14, ground := Go.Ground.phase }, { on := 15, ground := Go.Ground.phase }, { on := 16, ground := Go.Ground.phase }, { on := 17, ground := Go.Ground.phase }, { on := 18, ground := Go.Ground.phase }, { on := 19, ground := Go.Ground.phase }, { on := 20, ground := Go.Ground.phase }, { on := 21, ground := Go.Ground.phase }], guard := none }) (v := ?_) rfl (by kernel_rfl) (by kernel_rfl) (by kernel_rfl) (fun _ _ _ h => h) (Or.inl ⟨by rfl, ?_⟩) (by assumption) ?_
            rotate_left 1
            focus ((intro wS hSw; (try dsimp only at hSw); go_simp) <;> (try with_reducible rfl))
            simp only [Act.put, List.setIfInBounds_toArray, List.set_cons_zero, List.set_cons_succ]
            refine wpAnyH_done (by kernel_rfl) ?_ _
            go_wp2
            go_ret
            exact ⟨rfl, B1.out.trans ((B5.out.trans (Y10.out.mono B5.out.size)).mono B1.out.size)⟩
end Go.Proofs.Ytodohdhbnihdbaa
