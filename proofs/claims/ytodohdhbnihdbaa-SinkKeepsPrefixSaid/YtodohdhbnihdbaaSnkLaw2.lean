/-
  SinkKeepsPrefix, walked.
-/
import Derived.Test.YtodohdhbnihdbaaSnkCat
namespace Go.Proofs.Ytodohdhbnihdbaa
open Go.RowKit

set_option maxRecDepth 100000 in
set_option maxHeartbeats 8000000 in
theorem walk_SinkKeepsPrefix (ca : Option Addr) (cl cc : Nat) (cs : List Int) (F : Int) (a : Option Addr) (len cap : Nat) (rows : List Row) (w : World) (hc : ArgInts .i64 w ca cl cc cs) (hwf : (Lit.int .i64 F).wf = true)
    (hr : ArgRows .u8 w a len cap rows) (hy : ∀ y ∈ rows, y.2.1 ≤ 140737488355328) :
    Calls Try.prog 4 #[.agg #[.slice ca cl cc, .int .i64 F], .slice a len cap] w fun e w' => e = .returned (.bool true) ∧ Below w.heap.size w w' := by
  have HR := Lib.hid hr; have HY := Lib.hid hy; have HI := Lib.hid hc.inK; have HCL := Lib.hid hc.1
  have hFF := (bounds_i64 hwf).2
  have HRL := Lib.hid hr.1
  clear hr hy hc hwf
  by_cases h100 : (100 : Int) < len
  · go_enter Try.func4, Try.ntmps4
    go_wp2_with (first | (refine wpList_box_obj rfl 24 _ rfl [.slice ca cl cc, .int .i64 F] rfl ?_; intro w1 h1 b1; have H1 := Lib.hid h1; have B1 := Lib.hid b1; have c0 := h1.get 0 rfl; have c1 := h1.get 1 rfl; clear h1 b1))
    refine (alive_any _).mono ?_; rintro e w2 ⟨rfl, b2⟩
    go_wp2
    go_ret
    exact ⟨rfl, B1.out.trans (b2.mono B1.out.size)⟩
  · by_cases h5000 : (5000 : Int) < total rows
    · go_enter Try.func4, Try.ntmps4
      go_wp2_with (first | (refine wpList_box_obj rfl 24 _ rfl [.slice ca cl cc, .int .i64 F] rfl ?_; intro w1 h1 b1; have H1 := Lib.hid h1; have B1 := Lib.hid b1; have c0 := h1.get 0 rfl; have c1 := h1.get 1 rfl; clear h1 b1))
      refine (size_any a len cap rows w1 (HR.out.below B1.out) HY.out (by omega)).mono ?_; rintro e w2 ⟨rfl, rfl⟩
      go_wp2_with fail
      refine (alive_any _).mono ?_; rintro e w2 ⟨rfl, b2⟩
      go_wp2
      go_ret
      exact ⟨rfl, B1.out.trans (b2.mono B1.out.size)⟩
    · by_cases h300 : (300 : Int) < cl
      · go_enter Try.func4, Try.ntmps4
        go_wp2_with (first | (refine wpList_box_obj rfl 24 _ rfl [.slice ca cl cc, .int .i64 F] rfl ?_; intro w1 h1 b1; have H1 := Lib.hid h1; have B1 := Lib.hid b1; have c0 := h1.get 0 rfl; have c1 := h1.get 1 rfl; clear h1 b1))
        refine (size_any a len cap rows w1 (HR.out.below B1.out) HY.out (by omega)).mono ?_; rintro e w2 ⟨rfl, rfl⟩
        go_wp2_with fail
        refine (alive_any _).mono ?_; rintro e w2 ⟨rfl, b2⟩
        go_wp2
        go_ret
        exact ⟨rfl, B1.out.trans (b2.mono B1.out.size)⟩
      · have he : (Try.prog.info? 5).map (·.size) = some 1 := by obtain ⟨i, h1, _, h2, _⟩ := u8T; simp [h1, h2]
        have HE1 := Lib.hid he; clear he
        have RB : Hid (∀ y ∈ rows, Bytes y.2.2.2 ∧ y.2.2.2.length = y.2.1) := by
          obtain ⟨_, _, _, h4, _⟩ := HR.out
          exact fun y hy => ⟨(h4 y hy).bytes.bytes, (h4 y hy).1⟩
        have T5 : Hid (total rows ≤ 5000) := by show _ ≤ _; omega
        go_enter Try.func4, Try.ntmps4
        go_wp2_with (first | (refine wpList_box_obj rfl 24 _ rfl [.slice ca cl cc, .int .i64 F] rfl ?_; intro w1 h1 b1; have H1 := Lib.hid h1; have B1 := Lib.hid b1; have c0 := h1.get 0 rfl; have c1 := h1.get 1 rfl; clear h1 b1))
        refine (size_any a len cap rows w1 (HR.out.below B1.out) HY.out (by omega)).mono ?_; rintro e w2 ⟨rfl, rfl⟩
        have HR1 := Lib.hid (HR.out.below B1.out)
        go_wp2_with fail
        refine (snk_new ca cl cc cs F w1 (HI.out.below B1.out) HCL.out (by omega)).mono ?_; rintro e w3 ⟨m, rfl, s3, b3⟩
        have S3 := Lib.hid s3; have B3 := Lib.hid b3
        clear s3 b3
        go_wp2_with (first | (refine wpList_lit_k rfl 31 5 .u8 rfl Try.underlying31 HE1.out ?_; intro w4 h4 b4; have O4 := Lib.hid h4; have B4 := Lib.hid b4; clear h4 b4))
        have S4 := Lib.hid (S3.out.below B4.out)
        have B14 := Lib.hid (B3.out.trans (B4.out.mono B3.out.size))
        have T4 : Hid (w4.ownsRow 0 5 1 (.slice (some ⟨w3.heap.size, 0, none⟩) 0 0) 0 (([] : List Int).map (.int .u8))) := own_base O4.out (Nat.zero_le _)
        have Z3 := Lib.hid B3.out.size
        have L1 := Lib.hid H1.out.lt
        have K0 : Hid (∀ w', Below w1.heap.size w1 w' → w'.cell? ⟨w.heap.size, 1, none⟩ = some (.int .i64 F)) := fun w' hb => (H1.out.below hb H1.out.lt).get 1 rfl
        clear c0 c1
        go_loopw [6, 7, 9, 10, 34] (fun t f _ _ i wr => ∃ (S : Nat → Prop) (ta : Option Addr) (tc j r : Nat), j ≤ len ∧ i = .int .i64 j ∧ t = .slice ta (total (rows.take j)) tc ∧ f = .bool false ∧ (∀ k, S k → w1.heap.size ≤ k) ∧ Snk wr S m (cat rows j) F cs r ∧ wr.ownsRow 0 5 1 (.slice ta (total (rows.take j)) tc) (total (rows.take j)) ((cat rows j).map (.int .u8)) ∧ (∀ x, ta = some x → ¬ S x.block ∧ w1.heap.size ≤ x.block) ∧ Below w1.heap.size w1 wr) (fun _ _ _ _ i _ => len - (intOf i).toNat)
        case atStart => exact ⟨_, _, _, 0, 0, Nat.zero_le _, rfl, rfl, rfl, fun k hk => hk.1, S4.out, T4.out, fun x hx => by cases hx; exact ⟨fun h => Nat.lt_irrefl _ h.2, Z3.out⟩, B14.out⟩
        case round =>
          obtain ⟨S, ta, tc, j, r, hj, rfl, rfl, rfl, hS, hs, hown, hta, hbel⟩ := hrel
          have HS := Lib.hid hS; have SS := Lib.hid hs; have OT := Lib.hid hown; have TA := Lib.hid hta; have B1R := Lib.hid hbel
          have CL : Hid ((cat rows j).length = total (rows.take j)) := cat_len rows j fun y hy => (RB.out y hy).2
          have CB : Hid (Bytes (cat rows j)) := cat_bytes rows j fun y hy => (RB.out y hy).1
          obtain ⟨T, hT⟩ := named (total (rows.take j))
          rw [← hT.out] at hown ⊢
          have OT := Lib.hid hown
          have hT5 : T ≤ 5000 := by have := total_take_le rows j; have := T5.out; have := hT.out; omega
          clear hS hs hown hta hbel
          by_cases hlt : j < len
          · obtain ⟨b, off, y, rfl, _, hy, hm, hc, hz⟩ := (HR1.out.below B1R.out).get j hlt
            have hlt' : (j : Int) < len := by omega
            obtain ⟨ya, yl, yc, ys⟩ := y
            have CS : Hid (cat rows (j + 1) = cat rows j ++ ys) := cat_succ hy
            have TS : Hid (total (rows.take (j + 1)) = T + yl) := by show _ = _; rw [total_take hy, hT.out]
            have YL : Hid (ys.length = yl) := hz.1
            have YC : Hid (yl ≤ yc) := hz.2.1
            have YB : Hid (BytesIn wr ya ys) := hz.bytes
            have hT5' : T + yl ≤ 5000 := by have := total_take_le rows (j + 1); have := T5.out; have := TS.out; omega
            have HYA : Hid (∀ x, ya = some x → ys = [] ∨ x.block < w1.heap.size) := by
              obtain ⟨_, _, _, h4, _⟩ := HR1.out
              intro x hx
              rcases (h4 _ hm).bytes with h | ⟨b', off', h1, h2, _⟩
              · exact .inl h
              · simp only at h1; rw [h1] at hx; cases hx; exact .inr h2
            have YBA : Hid (∀ w', Below w1.heap.size w1 w' → BytesIn w' ya ys) := by
              obtain ⟨_, _, _, h4, _⟩ := HR1.out
              exact fun w' hb => (h4 _ hm).bytes.below hb
            clear hz hy hm
            have HFL : Hid (0 ≤ F → (T : Int) ≤ F) := by show _ → _; have h := SS.out.bytes.2.2.2.2; rw [CL.out, ← hT.out] at h; exact h
            by_cases hf : 0 ≤ F ∧ F - T < yl
            · obtain ⟨N, rfl⟩ : ∃ N : Nat, F = N := ⟨F.toNat, by omega⟩
              have hNT := HFL.out hf.1
              have e1 : allE N T yl = 11 := if_pos hf
              have e2 : allK N T yl = N - T := by unfold allK; rw [if_pos hf]; omega
              have hw1 : (N : Int) < (T : Int) + yl := by omega
              have hw2 : (0 : Int) ≤ (N : Int) := by omega
              have NT : Hid (N ≤ T + yl) := by show _ ≤ _; omega
              have NT' : Hid (T ≤ N) := by show _ ≤ _; omega
              clear hf hNT
              go_wp2_with fail
              refine (snk_all ya yl yc ys wr SS.out YB.out YL.out YC.out (by rw [CL.out, ← hT.out]; omega) hFF (fun x hx => (HYA.out x hx).imp id fun h hs => by have := HS.out _ hs; omega)).mono ?_
              rintro e w5 ⟨rfl, s5, o5⟩
              rw [CL.out, ← hT.out, e2] at s5
              rw [CL.out, ← hT.out, e1]
              have S5 := Lib.hid s5; have Q5 := Lib.hid o5
              have OT5 := Lib.hid (own_only' OT.out o5 (fun x hx => (TA.out x hx).1))
              have B5 := Lib.hid (B1R.out.trans (o5.below (B := w1.heap.size) HS.out B1R.out.size))
              have TL := Lib.hid (own_cap OT.out).2
              clear s5 o5 e1 e2
              go_wp2_with (first | (at_builtin; refine wpList_append_at rfl _ _ 31 rfl 5 .u8 1 Try.underlying31 u8T ta T tc (cat rows j) rfl OT5.out ya yl yc ys rfl (YBA.out _ B5.out).inK YL.out (by unfold maxLen; omega) (by omega) ?_; intro a6 c6 w6 h6 o6 x6; have O6 := Lib.hid h6; have Q6 := Lib.hid o6; have X6 := Lib.hid x6; have B6 := Lib.hid (B5.out.trans (o6.below (B := w1.heap.size) (fun k ⟨x, h1, h2⟩ => h2 ▸ (TA.out x h1).2) B5.out.size)); have d1 := K0.out _ B6.out; clear h6 o6 x6))
              have S6 := Lib.hid (S5.out.only Q6.out (fun k hk ⟨x, h1, h2⟩ => by
                subst h2
                rcases hk with hk | hk
                · exact (TA.out x h1).1 hk
                · have := TL.out x h1; omega))
              have NTL : Hid (((cat rows j ++ ys)).length = T + yl) := by show _ = _; rw [List.length_append, CL.out, YL.out, hT.out]
              obtain ⟨TT, hTT⟩ := named (cat rows j ++ ys)
              have TTB : Hid (Bytes TT) := by show Bytes _; rw [hTT.out]; exact CB.out.append YB.out.bytes
              have TTL : Hid (TT.length = T + yl) := by show _ = _; rw [hTT.out]; exact NTL.out
              have ex : cat rows j ++ ys.take (N - T) = TT.take N := by
                have hl : (cat rows j).length = T := by rw [CL.out, hT.out]
                rw [hTT.out, List.take_append, hl, List.take_of_length_le (l := cat rows j) (by rw [hl]; exact NT'.out)]
              have SX := Lib.hid S6.out
              rw [ex] at SX
              have OW : Hid (w6.ownsRow 0 5 1 (.slice a6 (T + yl) c6) (T + yl) (TT.map (.int .u8))) := by show World.ownsRow _ _ _ _ _ _ _; rw [hTT.out]; exact O6.out
              have XE : Hid (TT.take N = TT.take N) := rfl
              have BX := Lib.hid (B1.out.trans (B6.out.mono B1.out.size))
              clear ex
              obtain ⟨SZ, hSZ⟩ := named (strOfNums (TT.take N))
              have TB : Hid (BytesIn w6 a6 (TT.take N)) := (own_bt OW.out TTB.out).take N
              have NL : Hid ((TT.take N).length = N) := by show _ = _; rw [List.length_take, TTL.out]; have := NT.out; omega
              have hcap := (own_cap OW.out).1
              have k1 : N ≤ c6 := by have := NT.out; omega
              have k2 : (N : Int) ≤ c6 := by omega
              have k3 : (0 : Int) ≤ N := by omega
              have K1 : Hid (∀ w', Below w6.heap.size w6 w' → (convert 31 9 (.slice a6 N c6)).run Try.prog w' = .ok (.string SZ) w') := fun w' hb => by
                rw [hSZ.out]; exact run_str_in (P := Try.prog) Try.underlying31 Try.underlying5 Try.underlying9 (TB.out.below hb) N c6 NL.out
              have SX' : Hid (∀ w', Below w6.heap.size w6 w' → Calls Try.prog 10 #[.pointer (some ⟨m, 0, none⟩)] w' fun e w'' => ∃ a7 c7, e = .returned (.slice a7 N c7) ∧ BytesIn w'' a7 (TT.take N) ∧ Below w6.heap.size w6 w'') := by
                intro w' hb
                refine (sbytes_any w' (SX.out.below hb)).mono ?_
                rintro e w'' ⟨v, rfl, o7, b7⟩
                rw [XE.out, NL.out] at o7
                obtain ⟨a7, c7, rfl, x7, _⟩ := own_bytes o7 TB.out.bytes
                exact ⟨a7, c7, rfl, x7, hb.trans (b7.mono hb.size)⟩
              go_wp2_with fail
              refine wp_region_held_drew (S := (fun w' => Below w6.heap.size w6 w' ∧ (convert 31 9 (.slice a6 N c6)).run Try.prog w' = .ok (.string SZ) w')) (by kernel_rfl) (⟨(Below.refl _ _).drew, K1.out _ (Below.refl _ _).drew⟩) (fun hHeld => ?_)
              refine wpAnyH_ready (rs := [0]) (by kernel_rfl) (by simp) ?_
              refine AllReadyH.cons (o := { dst := some 62, op := Go.Op.call { callee := Go.Callee.value (Go.Operand.func 13), args := #[], argTypes := #[] }, type := 4, pos := "law.go:89", after := #[], guard := none }) rfl (fun K hK => ?_) AllReadyH.nil
              go_simp
              refine (alive_any _).mono ?_; rintro e w8 ⟨rfl, b8⟩; have B8 := Lib.hid ((Below.refl w6.heap.size w6).drew.trans b8); clear b8
              go_wp2_with fail
              refine hK.out _ _ (⟨B8.out, K1.out _ B8.out⟩) (fun hHeld => ?_)
              clear hK K
              (try simp only [Act.put, List.setIfInBounds_toArray, List.set_cons_zero, List.set_cons_succ])
              refine wpAnyH_take (i := 1) (oi := { dst := some 63, op := Go.Op.move (Go.Operand.tmp 62), type := 4, pos := "law.go:89", after := #[{ on := 0, ground := Go.Ground.data }, { on := 0, ground := Go.Ground.chain }], guard := none }) (v := ?_) rfl (by kernel_rfl) (by kernel_rfl) (by kernel_rfl) (fun _ _ _ h => h) (Or.inl ⟨by rfl, ?_⟩) (by assumption) ?_
              rotate_left 1
              focus ((intro wS hSw; (try dsimp only at hSw); go_simp) <;> (try with_reducible rfl))
              simp only [Act.put, List.setIfInBounds_toArray, List.set_cons_zero, List.set_cons_succ]
              refine wpAnyH_take (i := 2) (oi := { dst := some 64, op := Go.Op.move (Go.Operand.tmp 5), type := 27, pos := "law.go:89", after := #[{ on := 1, ground := Go.Ground.guard }], guard := some (1, true) }) (v := ?_) rfl (by kernel_rfl) (by kernel_rfl) (by kernel_rfl) (fun _ _ _ h => h) (Or.inl ⟨by rfl, ?_⟩) (by assumption) ?_
              rotate_left 1
              focus ((intro wS hSw; (try dsimp only at hSw); go_simp) <;> (try with_reducible rfl))
              simp only [Act.put, List.setIfInBounds_toArray, List.set_cons_zero, List.set_cons_succ]
              refine wpAnyH_take (i := 5) (oi := { dst := some 67, op := Go.Op.move (Go.Operand.tmp 6), type := 31, pos := "law.go:89", after := #[{ on := 1, ground := Go.Ground.guard }], guard := some (1, true) }) (v := ?_) rfl (by kernel_rfl) (by kernel_rfl) (by kernel_rfl) (fun _ _ _ h => h) (Or.inl ⟨by rfl, ?_⟩) (by assumption) ?_
              rotate_left 1
              focus ((intro wS hSw; (try dsimp only at hSw); go_simp) <;> (try with_reducible rfl))
              simp only [Act.put, List.setIfInBounds_toArray, List.set_cons_zero, List.set_cons_succ]
              refine wpAnyH_take (i := 6) (oi := { dst := some 68, op := Go.Op.move (Go.Operand.tmp 11), type := 3, pos := "law.go:89", after := #[{ on := 1, ground := Go.Ground.guard }], guard := some (1, true) }) (v := ?_) rfl (by kernel_rfl) (by kernel_rfl) (by kernel_rfl) (fun _ _ _ h => h) (Or.inl ⟨by rfl, ?_⟩) (by assumption) ?_
              rotate_left 1
              focus ((intro wS hSw; (try dsimp only at hSw); go_simp) <;> (try with_reducible rfl))
              simp only [Act.put, List.setIfInBounds_toArray, List.set_cons_zero, List.set_cons_succ]
              refine wpAnyH_take (i := 7) (oi := { dst := some 69, op := Go.Op.slice 31 (Go.Operand.tmp 67) none (some (Go.Operand.tmp 68)) none, type := 31, pos := "law.go:89", after := #[{ on := 5, ground := Go.Ground.data }, { on := 6, ground := Go.Ground.data }, { on := 1, ground := Go.Ground.guard }], guard := some (1, true) }) (v := ?_) rfl (by kernel_rfl) (by kernel_rfl) (by kernel_rfl) (fun _ _ _ h => h) (Or.inl ⟨by rfl, ?_⟩) (by assumption) ?_
              rotate_left 1
              focus ((intro wS hSw; (try dsimp only at hSw); go_simp) <;> (try with_reducible rfl))
              simp only [Act.put, List.setIfInBounds_toArray, List.set_cons_zero, List.set_cons_succ]
              refine wpAnyH_take (i := 8) (oi := { dst := some 70, op := Go.Op.convert 31 9 (Go.Operand.tmp 69), type := 9, pos := "law.go:89", after := #[{ on := 7, ground := Go.Ground.data }, { on := 1, ground := Go.Ground.guard }], guard := some (1, true) }) (v := ?_) rfl (by kernel_rfl) (by kernel_rfl) (by kernel_rfl) (fun _ _ _ h => h) (Or.inl ⟨by rfl, ?_⟩) (by assumption) ?_
              rotate_left 1
              focus ((intro wS hSw; (try dsimp only at hSw); go_simp) <;> (try with_reducible rfl))
              simp only [Act.put, List.setIfInBounds_toArray, List.set_cons_zero, List.set_cons_succ]
              refine wpAnyH_ready (rs := [3]) (by kernel_rfl) (by simp) ?_
              refine AllReadyH.cons (o := { dst := some 65, op := Go.Op.call { callee := Go.Callee.value (Go.Operand.func 10), args := #[Go.Operand.tmp 64], argTypes := #[27] }, type := 31, pos := "law.go:89", after := #[{ on := 2, ground := Go.Ground.data }, { on := 1, ground := Go.Ground.chain }, { on := 1, ground := Go.Ground.guard }], guard := some (1, true) }) rfl (fun K hK => ?_) AllReadyH.nil
              go_simp
              refine (SX'.out _ B8.out).mono ?_; rintro e w9 ⟨a9, c9, rfl, x9, b9⟩; have hcx := run_str_in (P := Try.prog) Try.underlying31 Try.underlying5 Try.underlying9 x9 N c9 NL.out; rw [← hSZ.out] at hcx; have HCX := Lib.hid hcx; have B9 := Lib.hid b9; clear b9 x9 hcx
              go_wp2_with fail
              refine hK.out _ _ (⟨B9.out, K1.out _ B9.out⟩) (fun hHeld => ?_)
              clear hK K
              (try simp only [Act.put, List.setIfInBounds_toArray, List.set_cons_zero, List.set_cons_succ])
              refine wpAnyH_switch (S2 := (fun w' => (convert 31 9 (.slice a9 N c9)).run Try.prog w' = .ok (.string SZ) w' ∧ Below w6.heap.size w6 w' ∧ (convert 31 9 (.slice a6 N c6)).run Try.prog w' = .ok (.string SZ) w')) (fun _ h => h.2) ?_
              have hHeld : ((fun w' => (convert 31 9 (.slice a9 N c9)).run Try.prog w' = .ok (.string SZ) w' ∧ Below w6.heap.size w6 w' ∧ (convert 31 9 (.slice a6 N c6)).run Try.prog w' = .ok (.string SZ) w')) _ := ⟨HCX.out, B9.out, K1.out _ B9.out⟩
              refine wpAnyH_take (i := 4) (oi := { dst := some 66, op := Go.Op.convert 31 9 (Go.Operand.tmp 65), type := 9, pos := "law.go:89", after := #[{ on := 3, ground := Go.Ground.data }, { on := 1, ground := Go.Ground.guard }], guard := some (1, true) }) (v := ?_) rfl (by kernel_rfl) (by kernel_rfl) (by kernel_rfl) (fun _ _ _ h => h) (Or.inl ⟨by rfl, ?_⟩) (by assumption) ?_
              rotate_left 1
              focus ((intro wS hSw; (try dsimp only at hSw); go_simp) <;> (try with_reducible rfl))
              simp only [Act.put, List.setIfInBounds_toArray, List.set_cons_zero, List.set_cons_succ]
              refine wpAnyH_take (i := 9) (oi := { dst := some 71, op := Go.Op.binOp Go.BinOp.eql 9 (Go.Operand.tmp 66) (Go.Operand.tmp 70) 9, type := 4, pos := "law.go:89", after := #[{ on := 4, ground := Go.Ground.data }, { on := 8, ground := Go.Ground.data }, { on := 1, ground := Go.Ground.guard }], guard := some (1, true) }) (v := ?_) rfl (by kernel_rfl) (by kernel_rfl) (by kernel_rfl) (fun _ _ _ h => h) (Or.inl ⟨by rfl, ?_⟩) (by assumption) ?_
              rotate_left 1
              focus ((intro wS hSw; (try dsimp only at hSw); go_simp) <;> (try with_reducible rfl))
              simp only [Act.put, List.setIfInBounds_toArray, List.set_cons_zero, List.set_cons_succ]
              refine wpAnyH_take (i := 10) (oi := { dst := some 72, op := Go.Op.pick (Go.Operand.tmp 63) (Go.Operand.tmp 71) (Go.Operand.const (Go.Value.bool false)), type := 4, pos := "law.go:89", after := #[{ on := 1, ground := Go.Ground.data }, { on := 9, ground := Go.Ground.data }], guard := none }) (v := ?_) rfl (by kernel_rfl) (by kernel_rfl) (by kernel_rfl) (fun _ _ _ h => h) (Or.inl ⟨by rfl, ?_⟩) (by assumption) ?_
              rotate_left 1
              focus ((intro wS hSw; (try dsimp only at hSw); go_simp) <;> (try with_reducible rfl))
              simp only [Act.put, List.setIfInBounds_toArray, List.set_cons_zero, List.set_cons_succ]
              refine wpAnyH_take (i := 11) (oi := { dst := some 73, op := Go.Op.move (Go.Operand.tmp 72), type := 4, pos := "law.go:89", after := #[{ on := 10, ground := Go.Ground.data }, { on := 3, ground := Go.Ground.chain }], guard := none }) (v := ?_) rfl (by kernel_rfl) (by kernel_rfl) (by kernel_rfl) (fun _ _ _ h => h) (Or.inl ⟨by rfl, ?_⟩) (by assumption) ?_
              rotate_left 1
              focus ((intro wS hSw; (try dsimp only at hSw); go_simp) <;> (try with_reducible rfl))
              simp only [Act.put, List.setIfInBounds_toArray, List.set_cons_zero, List.set_cons_succ]
              refine wpAnyH_take (i := 12) (oi := { dst := some 74, op := Go.Op.move (Go.Operand.tmp 7), type := 4, pos := "law.go:89", after := #[{ on := 11, ground := Go.Ground.guard }], guard := some (11, true) }) (v := ?_) rfl (by kernel_rfl) (by kernel_rfl) (by kernel_rfl) (fun _ _ _ h => h) (Or.inl ⟨by rfl, ?_⟩) (by assumption) ?_
              rotate_left 1
              focus ((intro wS hSw; (try dsimp only at hSw); go_simp) <;> (try with_reducible rfl))
              simp only [Act.put, List.setIfInBounds_toArray, List.set_cons_zero, List.set_cons_succ]
              refine wpAnyH_take (i := 13) (oi := { dst := some 75, op := Go.Op.move (Go.Operand.tmp 11), type := 3, pos := "law.go:89", after := #[{ on := 11, ground := Go.Ground.guard }], guard := some (11, true) }) (v := ?_) rfl (by kernel_rfl) (by kernel_rfl) (by kernel_rfl) (fun _ _ _ h => h) (Or.inl ⟨by rfl, ?_⟩) (by assumption) ?_
              rotate_left 1
              focus ((intro wS hSw; (try dsimp only at hSw); go_simp) <;> (try with_reducible rfl))
              simp only [Act.put, List.setIfInBounds_toArray, List.set_cons_zero, List.set_cons_succ]
              refine wpAnyH_take (i := 14) (oi := { dst := some 76, op := Go.Op.move (Go.Operand.tmp 6), type := 31, pos := "law.go:89", after := #[{ on := 11, ground := Go.Ground.guard }], guard := some (11, true) }) (v := ?_) rfl (by kernel_rfl) (by kernel_rfl) (by kernel_rfl) (fun _ _ _ h => h) (Or.inl ⟨by rfl, ?_⟩) (by assumption) ?_
              rotate_left 1
              focus ((intro wS hSw; (try dsimp only at hSw); go_simp) <;> (try with_reducible rfl))
              simp only [Act.put, List.setIfInBounds_toArray, List.set_cons_zero, List.set_cons_succ]
              refine wpAnyH_take (i := 15) (oi := { dst := some 77, op := Go.Op.call { callee := Go.Callee.builtin Go.Builtin.len, args := #[Go.Operand.tmp 76], argTypes := #[31] }, type := 3, pos := "law.go:89", after := #[{ on := 14, ground := Go.Ground.data }, { on := 11, ground := Go.Ground.guard }], guard := some (11, true) }) (v := ?_) rfl (by kernel_rfl) (by kernel_rfl) (by kernel_rfl) (fun _ _ _ h => h) (Or.inl ⟨by rfl, ?_⟩) (by assumption) ?_
              rotate_left 1
              focus ((intro wS hSw; (try dsimp only at hSw); go_simp) <;> (try with_reducible rfl))
              simp only [Act.put, List.setIfInBounds_toArray, List.set_cons_zero, List.set_cons_succ]
              refine wpAnyH_take (i := 16) (oi := { dst := some 78, op := Go.Op.binOp Go.BinOp.lss 3 (Go.Operand.tmp 75) (Go.Operand.tmp 77) 3, type := 4, pos := "law.go:89", after := #[{ on := 13, ground := Go.Ground.data }, { on := 15, ground := Go.Ground.data }, { on := 11, ground := Go.Ground.guard }], guard := some (11, true) }) (v := ?_) rfl (by kernel_rfl) (by kernel_rfl) (by kernel_rfl) (fun _ _ _ h => h) (Or.inl ⟨by rfl, ?_⟩) (by assumption) ?_
              rotate_left 1
              focus ((intro wS hSw; (try dsimp only at hSw); go_simp) <;> (try with_reducible rfl))
              simp only [Act.put, List.setIfInBounds_toArray, List.set_cons_zero, List.set_cons_succ]
              refine wpAnyH_take (i := 17) (oi := { dst := some 79, op := Go.Op.binOp Go.BinOp.eql 4 (Go.Operand.tmp 74) (Go.Operand.tmp 78) 4, type := 4, pos := "law.go:89", after := #[{ on := 12, ground := Go.Ground.data }, { on := 16, ground := Go.Ground.data }, { on := 11, ground := Go.Ground.guard }], guard := some (11, true) }) (v := ?_) rfl (by kernel_rfl) (by kernel_rfl) (by kernel_rfl) (fun _ _ _ h => h) (Or.inl ⟨by rfl, ?_⟩) (by assumption) ?_
              rotate_left 1
              focus ((intro wS hSw; (try dsimp only at hSw); go_simp) <;> (try with_reducible rfl))
              simp only [Act.put, List.setIfInBounds_toArray, List.set_cons_zero, List.set_cons_succ]
              refine wpAnyH_take (i := 18) (oi := { dst := some 80, op := Go.Op.pick (Go.Operand.tmp 73) (Go.Operand.tmp 79) (Go.Operand.const (Go.Value.bool false)), type := 4, pos := "law.go:89", after := #[{ on := 11, ground := Go.Ground.data }, { on := 17, ground := Go.Ground.data }], guard := none }) (v := ?_) rfl (by kernel_rfl) (by kernel_rfl) (by kernel_rfl) (fun _ _ _ h => h) (Or.inl ⟨by rfl, ?_⟩) (by assumption) ?_
              rotate_left 1
              focus ((intro wS hSw; (try dsimp only at hSw); go_simp) <;> (try with_reducible rfl))
              simp only [Act.put, List.setIfInBounds_toArray, List.set_cons_zero, List.set_cons_succ]
              refine wpAnyH_take (i := 19) (oi := { dst := some 4, op := Go.Op.assign (Go.Operand.tmp 80), type := 4, pos := "law.go:89", after := #[{ on := 18, ground := Go.Ground.data }, { on := 11, ground := Go.Ground.chain }, { on := 0, ground := Go.Ground.phase }, { on := 1, ground := Go.Ground.phase }, { on := 2, ground := Go.Ground.phase }, { on := 3, ground := Go.Ground.phase }, { on := 4, ground := Go.Ground.phase }, { on := 5, ground := Go.Ground.phase }, { on := 6, ground := Go.Ground.phase }, { on := 7, ground := Go.Ground.phase }, { on := 8, ground := Go.Ground.phase }, { on := 9, ground := Go.Ground.phase }, { on := 10, ground := Go.Ground.phase }, { on := 11, ground := Go.Ground.phase }, { on := 12, ground := Go.Ground.phase }, { on := 13, ground := Go.Ground.phase }, { on := 14, ground := Go.Ground.phase }, { on := 15, ground := Go.Ground.phase }, { on := 16, ground := Go.Ground.phase }, { on := 17, ground := Go.Ground.phase }, { on := 18, ground := Go.Ground.phase }], guard := none }) (v := ?_) rfl (by kernel_rfl) (by kernel_rfl) (by kernel_rfl) (fun _ _ _ h => h) (Or.inl ⟨by rfl, ?_⟩) (by assumption) ?_
              rotate_left 1
              focus ((intro wS hSw; (try dsimp only at hSw); go_simp) <;> (try with_reducible rfl))
              simp only [Act.put, List.setIfInBounds_toArray, List.set_cons_zero, List.set_cons_succ]
              refine wpAnyH_done (by kernel_rfl) ?_ _
              go_wp2
              go_ret
              exact ⟨rfl, BX.out.trans (B9.out.mono BX.out.size)⟩
            · have e1 : allE F T yl = 0 := if_neg hf
              have e2 : allK F T yl = yl := if_neg hf
              clear hf
              go_wp2_with fail
              refine (snk_all ya yl yc ys wr SS.out YB.out YL.out YC.out (by rw [CL.out, ← hT.out]; omega) hFF (fun x hx => (HYA.out x hx).imp id fun h hs => by have := HS.out _ hs; omega)).mono ?_
              rintro e w5 ⟨rfl, s5, o5⟩
              rw [CL.out, ← hT.out, e2] at s5
              rw [CL.out, ← hT.out, e1]
              have S5 := Lib.hid s5; have Q5 := Lib.hid o5
              have OT5 := Lib.hid (own_only' OT.out o5 (fun x hx => (TA.out x hx).1))
              have B5 := Lib.hid (B1R.out.trans (o5.below (B := w1.heap.size) HS.out B1R.out.size))
              have TL := Lib.hid (own_cap OT.out).2
              clear s5 o5 e1 e2
              go_wp2_with (first | (at_builtin; refine wpList_append_at rfl _ _ 31 rfl 5 .u8 1 Try.underlying31 u8T ta T tc (cat rows j) rfl OT5.out ya yl yc ys rfl (YBA.out _ B5.out).inK YL.out (by unfold maxLen; omega) (by omega) ?_; intro a6 c6 w6 h6 o6 x6; have O6 := Lib.hid h6; have Q6 := Lib.hid o6; have X6 := Lib.hid x6; have B6 := Lib.hid (B5.out.trans (o6.below (B := w1.heap.size) (fun k ⟨x, h1, h2⟩ => h2 ▸ (TA.out x h1).2) B5.out.size)); have d1 := K0.out _ B6.out; clear h6 o6 x6))
              have S6 := Lib.hid (S5.out.only Q6.out (fun k hk ⟨x, h1, h2⟩ => by
                subst h2
                rcases hk with hk | hk
                · exact (TA.out x h1).1 hk
                · have := TL.out x h1; omega))
              have ey : ys.take yl = ys := List.take_of_length_le (by rw [YL.out]; exact Nat.le_refl _)
              have s6 := S6.out; have o6 := O6.out
              rw [ey, ← CS.out] at s6
              rw [← CS.out] at o6
              go_roundw
              case rel => exact ⟨_, a6, c6, j + 1, _, by omega, by go_num, by rw [TS.out], rfl, fun k hk => hk.elim (HS.out k) (fun h => Nat.le_trans B1R.out.size h.1), s6, by rw [TS.out]; exact o6, fun x hx => (by
                rcases X6.out x hx with ⟨y, h1, h2⟩ | h
                · rw [← h2]
                  exact ⟨fun hk => hk.elim (TA.out y h1).1 (fun h => by have := TL.out y h1; omega), (TA.out y h1).2⟩
                · exact ⟨fun hk => hk.elim (fun hk => by have := SS.out.lt _ hk; have := Q5.out.size; omega) (fun h' => by omega), Nat.le_trans B5.out.size h.1⟩), B6.out⟩
              case measure => simp [intOf]; omega
          · obtain rfl : len = j := by omega
            obtain ⟨TT, hTT⟩ := named (cat rows len)
            have TTL : Hid (TT.length = T) := by show _ = _; rw [hTT.out, CL.out, hT.out]
            have TTB : Hid (Bytes TT) := by show Bytes _; rw [hTT.out]; exact CB.out
            have HFL : Hid (0 ≤ F → (T : Int) ≤ F) := by show _ → _; have h := SS.out.bytes.2.2.2.2; rw [CL.out, ← hT.out] at h; exact h
            have SX : Hid (Snk wr S m TT F cs r) := by show Snk _ _ _ _ _ _ _; rw [hTT.out]; exact SS.out
            have OW : Hid (wr.ownsRow 0 5 1 (.slice ta T tc) T (TT.map (.int .u8))) := by show World.ownsRow _ _ _ _ _ _ _; rw [hTT.out]; exact OT.out
            obtain ⟨N, hN⟩ : ∃ N, N = T := ⟨_, rfl⟩
            have NT : Hid (N ≤ T) := Nat.le_of_eq hN
            have XE : Hid (TT = TT.take N) := by show _ = _; rw [hN]; exact (List.take_of_length_le (by rw [TTL.out]; exact Nat.le_refl _)).symm
            have BX := Lib.hid (B1.out.trans (B1R.out.mono B1.out.size))
            have d1 := K0.out _ B1R.out
            subst hN
            by_cases hF0 : 0 ≤ F
            · have hF1 : ¬ F < N := by have := HFL.out hF0; omega
              obtain ⟨SZ, hSZ⟩ := named (strOfNums (TT.take N))
              have TB : Hid (BytesIn wr ta (TT.take N)) := (own_bt OW.out TTB.out).take N
              have NL : Hid ((TT.take N).length = N) := by show _ = _; rw [List.length_take, TTL.out]; have := NT.out; omega
              have hcap := (own_cap OW.out).1
              have k1 : N ≤ tc := by have := NT.out; omega
              have k2 : (N : Int) ≤ tc := by omega
              have k3 : (0 : Int) ≤ N := by omega
              have K1 : Hid (∀ w', Below wr.heap.size wr w' → (convert 31 9 (.slice ta N tc)).run Try.prog w' = .ok (.string SZ) w') := fun w' hb => by
                rw [hSZ.out]; exact run_str_in (P := Try.prog) Try.underlying31 Try.underlying5 Try.underlying9 (TB.out.below hb) N tc NL.out
              have SX' : Hid (∀ w', Below wr.heap.size wr w' → Calls Try.prog 10 #[.pointer (some ⟨m, 0, none⟩)] w' fun e w'' => ∃ a7 c7, e = .returned (.slice a7 N c7) ∧ BytesIn w'' a7 (TT.take N) ∧ Below wr.heap.size wr w'') := by
                intro w' hb
                refine (sbytes_any w' (SX.out.below hb)).mono ?_
                rintro e w'' ⟨v, rfl, o7, b7⟩
                rw [XE.out, NL.out] at o7
                obtain ⟨a7, c7, rfl, x7, _⟩ := own_bytes o7 TB.out.bytes
                exact ⟨a7, c7, rfl, x7, hb.trans (b7.mono hb.size)⟩
              go_wp2_with fail
              refine wp_region_held_drew (S := (fun w' => Below wr.heap.size wr w' ∧ (convert 31 9 (.slice ta N tc)).run Try.prog w' = .ok (.string SZ) w')) (by kernel_rfl) (⟨(Below.refl _ _).drew, K1.out _ (Below.refl _ _).drew⟩) (fun hHeld => ?_)
              refine wpAnyH_ready (rs := [0]) (by kernel_rfl) (by simp) ?_
              refine AllReadyH.cons (o := { dst := some 62, op := Go.Op.call { callee := Go.Callee.value (Go.Operand.func 13), args := #[], argTypes := #[] }, type := 4, pos := "law.go:89", after := #[], guard := none }) rfl (fun K hK => ?_) AllReadyH.nil
              go_simp
              refine (alive_any _).mono ?_; rintro e w8 ⟨rfl, b8⟩; have B8 := Lib.hid ((Below.refl wr.heap.size wr).drew.trans b8); clear b8
              go_wp2_with fail
              refine hK.out _ _ (⟨B8.out, K1.out _ B8.out⟩) (fun hHeld => ?_)
              clear hK K
              (try simp only [Act.put, List.setIfInBounds_toArray, List.set_cons_zero, List.set_cons_succ])
              refine wpAnyH_take (i := 1) (oi := { dst := some 63, op := Go.Op.move (Go.Operand.tmp 62), type := 4, pos := "law.go:89", after := #[{ on := 0, ground := Go.Ground.data }, { on := 0, ground := Go.Ground.chain }], guard := none }) (v := ?_) rfl (by kernel_rfl) (by kernel_rfl) (by kernel_rfl) (fun _ _ _ h => h) (Or.inl ⟨by rfl, ?_⟩) (by assumption) ?_
              rotate_left 1
              focus ((intro wS hSw; (try dsimp only at hSw); go_simp) <;> (try with_reducible rfl))
              simp only [Act.put, List.setIfInBounds_toArray, List.set_cons_zero, List.set_cons_succ]
              refine wpAnyH_take (i := 2) (oi := { dst := some 64, op := Go.Op.move (Go.Operand.tmp 5), type := 27, pos := "law.go:89", after := #[{ on := 1, ground := Go.Ground.guard }], guard := some (1, true) }) (v := ?_) rfl (by kernel_rfl) (by kernel_rfl) (by kernel_rfl) (fun _ _ _ h => h) (Or.inl ⟨by rfl, ?_⟩) (by assumption) ?_
              rotate_left 1
              focus ((intro wS hSw; (try dsimp only at hSw); go_simp) <;> (try with_reducible rfl))
              simp only [Act.put, List.setIfInBounds_toArray, List.set_cons_zero, List.set_cons_succ]
              refine wpAnyH_take (i := 5) (oi := { dst := some 67, op := Go.Op.move (Go.Operand.tmp 6), type := 31, pos := "law.go:89", after := #[{ on := 1, ground := Go.Ground.guard }], guard := some (1, true) }) (v := ?_) rfl (by kernel_rfl) (by kernel_rfl) (by kernel_rfl) (fun _ _ _ h => h) (Or.inl ⟨by rfl, ?_⟩) (by assumption) ?_
              rotate_left 1
              focus ((intro wS hSw; (try dsimp only at hSw); go_simp) <;> (try with_reducible rfl))
              simp only [Act.put, List.setIfInBounds_toArray, List.set_cons_zero, List.set_cons_succ]
              refine wpAnyH_take (i := 6) (oi := { dst := some 68, op := Go.Op.move (Go.Operand.tmp 11), type := 3, pos := "law.go:89", after := #[{ on := 1, ground := Go.Ground.guard }], guard := some (1, true) }) (v := ?_) rfl (by kernel_rfl) (by kernel_rfl) (by kernel_rfl) (fun _ _ _ h => h) (Or.inl ⟨by rfl, ?_⟩) (by assumption) ?_
              rotate_left 1
              focus ((intro wS hSw; (try dsimp only at hSw); go_simp) <;> (try with_reducible rfl))
              simp only [Act.put, List.setIfInBounds_toArray, List.set_cons_zero, List.set_cons_succ]
              refine wpAnyH_take (i := 7) (oi := { dst := some 69, op := Go.Op.slice 31 (Go.Operand.tmp 67) none (some (Go.Operand.tmp 68)) none, type := 31, pos := "law.go:89", after := #[{ on := 5, ground := Go.Ground.data }, { on := 6, ground := Go.Ground.data }, { on := 1, ground := Go.Ground.guard }], guard := some (1, true) }) (v := ?_) rfl (by kernel_rfl) (by kernel_rfl) (by kernel_rfl) (fun _ _ _ h => h) (Or.inl ⟨by rfl, ?_⟩) (by assumption) ?_
              rotate_left 1
              focus ((intro wS hSw; (try dsimp only at hSw); go_simp) <;> (try with_reducible rfl))
              simp only [Act.put, List.setIfInBounds_toArray, List.set_cons_zero, List.set_cons_succ]
              refine wpAnyH_take (i := 8) (oi := { dst := some 70, op := Go.Op.convert 31 9 (Go.Operand.tmp 69), type := 9, pos := "law.go:89", after := #[{ on := 7, ground := Go.Ground.data }, { on := 1, ground := Go.Ground.guard }], guard := some (1, true) }) (v := ?_) rfl (by kernel_rfl) (by kernel_rfl) (by kernel_rfl) (fun _ _ _ h => h) (Or.inl ⟨by rfl, ?_⟩) (by assumption) ?_
              rotate_left 1
              focus ((intro wS hSw; (try dsimp only at hSw); go_simp) <;> (try with_reducible rfl))
              simp only [Act.put, List.setIfInBounds_toArray, List.set_cons_zero, List.set_cons_succ]
              refine wpAnyH_ready (rs := [3]) (by kernel_rfl) (by simp) ?_
              refine AllReadyH.cons (o := { dst := some 65, op := Go.Op.call { callee := Go.Callee.value (Go.Operand.func 10), args := #[Go.Operand.tmp 64], argTypes := #[27] }, type := 31, pos := "law.go:89", after := #[{ on := 2, ground := Go.Ground.data }, { on := 1, ground := Go.Ground.chain }, { on := 1, ground := Go.Ground.guard }], guard := some (1, true) }) rfl (fun K hK => ?_) AllReadyH.nil
              go_simp
              refine (SX'.out _ B8.out).mono ?_; rintro e w9 ⟨a9, c9, rfl, x9, b9⟩; have hcx := run_str_in (P := Try.prog) Try.underlying31 Try.underlying5 Try.underlying9 x9 N c9 NL.out; rw [← hSZ.out] at hcx; have HCX := Lib.hid hcx; have B9 := Lib.hid b9; clear b9 x9 hcx
              go_wp2_with fail
              refine hK.out _ _ (⟨B9.out, K1.out _ B9.out⟩) (fun hHeld => ?_)
              clear hK K
              (try simp only [Act.put, List.setIfInBounds_toArray, List.set_cons_zero, List.set_cons_succ])
              refine wpAnyH_switch (S2 := (fun w' => (convert 31 9 (.slice a9 N c9)).run Try.prog w' = .ok (.string SZ) w' ∧ Below wr.heap.size wr w' ∧ (convert 31 9 (.slice ta N tc)).run Try.prog w' = .ok (.string SZ) w')) (fun _ h => h.2) ?_
              have hHeld : ((fun w' => (convert 31 9 (.slice a9 N c9)).run Try.prog w' = .ok (.string SZ) w' ∧ Below wr.heap.size wr w' ∧ (convert 31 9 (.slice ta N tc)).run Try.prog w' = .ok (.string SZ) w')) _ := ⟨HCX.out, B9.out, K1.out _ B9.out⟩
              refine wpAnyH_take (i := 4) (oi := { dst := some 66, op := Go.Op.convert 31 9 (Go.Operand.tmp 65), type := 9, pos := "law.go:89", after := #[{ on := 3, ground := Go.Ground.data }, { on := 1, ground := Go.Ground.guard }], guard := some (1, true) }) (v := ?_) rfl (by kernel_rfl) (by kernel_rfl) (by kernel_rfl) (fun _ _ _ h => h) (Or.inl ⟨by rfl, ?_⟩) (by assumption) ?_
              rotate_left 1
              focus ((intro wS hSw; (try dsimp only at hSw); go_simp) <;> (try with_reducible rfl))
              simp only [Act.put, List.setIfInBounds_toArray, List.set_cons_zero, List.set_cons_succ]
              refine wpAnyH_take (i := 9) (oi := { dst := some 71, op := Go.Op.binOp Go.BinOp.eql 9 (Go.Operand.tmp 66) (Go.Operand.tmp 70) 9, type := 4, pos := "law.go:89", after := #[{ on := 4, ground := Go.Ground.data }, { on := 8, ground := Go.Ground.data }, { on := 1, ground := Go.Ground.guard }], guard := some (1, true) }) (v := ?_) rfl (by kernel_rfl) (by kernel_rfl) (by kernel_rfl) (fun _ _ _ h => h) (Or.inl ⟨by rfl, ?_⟩) (by assumption) ?_
              rotate_left 1
              focus ((intro wS hSw; (try dsimp only at hSw); go_simp) <;> (try with_reducible rfl))
              simp only [Act.put, List.setIfInBounds_toArray, List.set_cons_zero, List.set_cons_succ]
              refine wpAnyH_take (i := 10) (oi := { dst := some 72, op := Go.Op.pick (Go.Operand.tmp 63) (Go.Operand.tmp 71) (Go.Operand.const (Go.Value.bool false)), type := 4, pos := "law.go:89", after := #[{ on := 1, ground := Go.Ground.data }, { on := 9, ground := Go.Ground.data }], guard := none }) (v := ?_) rfl (by kernel_rfl) (by kernel_rfl) (by kernel_rfl) (fun _ _ _ h => h) (Or.inl ⟨by rfl, ?_⟩) (by assumption) ?_
              rotate_left 1
              focus ((intro wS hSw; (try dsimp only at hSw); go_simp) <;> (try with_reducible rfl))
              simp only [Act.put, List.setIfInBounds_toArray, List.set_cons_zero, List.set_cons_succ]
              refine wpAnyH_take (i := 11) (oi := { dst := some 73, op := Go.Op.move (Go.Operand.tmp 72), type := 4, pos := "law.go:89", after := #[{ on := 10, ground := Go.Ground.data }, { on := 3, ground := Go.Ground.chain }], guard := none }) (v := ?_) rfl (by kernel_rfl) (by kernel_rfl) (by kernel_rfl) (fun _ _ _ h => h) (Or.inl ⟨by rfl, ?_⟩) (by assumption) ?_
              rotate_left 1
              focus ((intro wS hSw; (try dsimp only at hSw); go_simp) <;> (try with_reducible rfl))
              simp only [Act.put, List.setIfInBounds_toArray, List.set_cons_zero, List.set_cons_succ]
              refine wpAnyH_take (i := 12) (oi := { dst := some 74, op := Go.Op.move (Go.Operand.tmp 7), type := 4, pos := "law.go:89", after := #[{ on := 11, ground := Go.Ground.guard }], guard := some (11, true) }) (v := ?_) rfl (by kernel_rfl) (by kernel_rfl) (by kernel_rfl) (fun _ _ _ h => h) (Or.inl ⟨by rfl, ?_⟩) (by assumption) ?_
              rotate_left 1
              focus ((intro wS hSw; (try dsimp only at hSw); go_simp) <;> (try with_reducible rfl))
              simp only [Act.put, List.setIfInBounds_toArray, List.set_cons_zero, List.set_cons_succ]
              refine wpAnyH_take (i := 13) (oi := { dst := some 75, op := Go.Op.move (Go.Operand.tmp 11), type := 3, pos := "law.go:89", after := #[{ on := 11, ground := Go.Ground.guard }], guard := some (11, true) }) (v := ?_) rfl (by kernel_rfl) (by kernel_rfl) (by kernel_rfl) (fun _ _ _ h => h) (Or.inl ⟨by rfl, ?_⟩) (by assumption) ?_
              rotate_left 1
              focus ((intro wS hSw; (try dsimp only at hSw); go_simp) <;> (try with_reducible rfl))
              simp only [Act.put, List.setIfInBounds_toArray, List.set_cons_zero, List.set_cons_succ]
              refine wpAnyH_take (i := 14) (oi := { dst := some 76, op := Go.Op.move (Go.Operand.tmp 6), type := 31, pos := "law.go:89", after := #[{ on := 11, ground := Go.Ground.guard }], guard := some (11, true) }) (v := ?_) rfl (by kernel_rfl) (by kernel_rfl) (by kernel_rfl) (fun _ _ _ h => h) (Or.inl ⟨by rfl, ?_⟩) (by assumption) ?_
              rotate_left 1
              focus ((intro wS hSw; (try dsimp only at hSw); go_simp) <;> (try with_reducible rfl))
              simp only [Act.put, List.setIfInBounds_toArray, List.set_cons_zero, List.set_cons_succ]
              refine wpAnyH_take (i := 15) (oi := { dst := some 77, op := Go.Op.call { callee := Go.Callee.builtin Go.Builtin.len, args := #[Go.Operand.tmp 76], argTypes := #[31] }, type := 3, pos := "law.go:89", after := #[{ on := 14, ground := Go.Ground.data }, { on := 11, ground := Go.Ground.guard }], guard := some (11, true) }) (v := ?_) rfl (by kernel_rfl) (by kernel_rfl) (by kernel_rfl) (fun _ _ _ h => h) (Or.inl ⟨by rfl, ?_⟩) (by assumption) ?_
              rotate_left 1
              focus ((intro wS hSw; (try dsimp only at hSw); go_simp) <;> (try with_reducible rfl))
              simp only [Act.put, List.setIfInBounds_toArray, List.set_cons_zero, List.set_cons_succ]
              refine wpAnyH_take (i := 16) (oi := { dst := some 78, op := Go.Op.binOp Go.BinOp.lss 3 (Go.Operand.tmp 75) (Go.Operand.tmp 77) 3, type := 4, pos := "law.go:89", after := #[{ on := 13, ground := Go.Ground.data }, { on := 15, ground := Go.Ground.data }, { on := 11, ground := Go.Ground.guard }], guard := some (11, true) }) (v := ?_) rfl (by kernel_rfl) (by kernel_rfl) (by kernel_rfl) (fun _ _ _ h => h) (Or.inl ⟨by rfl, ?_⟩) (by assumption) ?_
              rotate_left 1
              focus ((intro wS hSw; (try dsimp only at hSw); go_simp) <;> (try with_reducible rfl))
              simp only [Act.put, List.setIfInBounds_toArray, List.set_cons_zero, List.set_cons_succ]
              refine wpAnyH_take (i := 17) (oi := { dst := some 79, op := Go.Op.binOp Go.BinOp.eql 4 (Go.Operand.tmp 74) (Go.Operand.tmp 78) 4, type := 4, pos := "law.go:89", after := #[{ on := 12, ground := Go.Ground.data }, { on := 16, ground := Go.Ground.data }, { on := 11, ground := Go.Ground.guard }], guard := some (11, true) }) (v := ?_) rfl (by kernel_rfl) (by kernel_rfl) (by kernel_rfl) (fun _ _ _ h => h) (Or.inl ⟨by rfl, ?_⟩) (by assumption) ?_
              rotate_left 1
              focus ((intro wS hSw; (try dsimp only at hSw); go_simp) <;> (try with_reducible rfl))
              simp only [Act.put, List.setIfInBounds_toArray, List.set_cons_zero, List.set_cons_succ]
              refine wpAnyH_take (i := 18) (oi := { dst := some 80, op := Go.Op.pick (Go.Operand.tmp 73) (Go.Operand.tmp 79) (Go.Operand.const (Go.Value.bool false)), type := 4, pos := "law.go:89", after := #[{ on := 11, ground := Go.Ground.data }, { on := 17, ground := Go.Ground.data }], guard := none }) (v := ?_) rfl (by kernel_rfl) (by kernel_rfl) (by kernel_rfl) (fun _ _ _ h => h) (Or.inl ⟨by rfl, ?_⟩) (by assumption) ?_
              rotate_left 1
              focus ((intro wS hSw; (try dsimp only at hSw); go_simp) <;> (try with_reducible rfl))
              simp only [Act.put, List.setIfInBounds_toArray, List.set_cons_zero, List.set_cons_succ]
              refine wpAnyH_take (i := 19) (oi := { dst := some 4, op := Go.Op.assign (Go.Operand.tmp 80), type := 4, pos := "law.go:89", after := #[{ on := 18, ground := Go.Ground.data }, { on := 11, ground := Go.Ground.chain }, { on := 0, ground := Go.Ground.phase }, { on := 1, ground := Go.Ground.phase }, { on := 2, ground := Go.Ground.phase }, { on := 3, ground := Go.Ground.phase }, { on := 4, ground := Go.Ground.phase }, { on := 5, ground := Go.Ground.phase }, { on := 6, ground := Go.Ground.phase }, { on := 7, ground := Go.Ground.phase }, { on := 8, ground := Go.Ground.phase }, { on := 9, ground := Go.Ground.phase }, { on := 10, ground := Go.Ground.phase }, { on := 11, ground := Go.Ground.phase }, { on := 12, ground := Go.Ground.phase }, { on := 13, ground := Go.Ground.phase }, { on := 14, ground := Go.Ground.phase }, { on := 15, ground := Go.Ground.phase }, { on := 16, ground := Go.Ground.phase }, { on := 17, ground := Go.Ground.phase }, { on := 18, ground := Go.Ground.phase }], guard := none }) (v := ?_) rfl (by kernel_rfl) (by kernel_rfl) (by kernel_rfl) (fun _ _ _ h => h) (Or.inl ⟨by rfl, ?_⟩) (by assumption) ?_
              rotate_left 1
              focus ((intro wS hSw; (try dsimp only at hSw); go_simp) <;> (try with_reducible rfl))
              simp only [Act.put, List.setIfInBounds_toArray, List.set_cons_zero, List.set_cons_succ]
              refine wpAnyH_done (by kernel_rfl) ?_ _
              go_wp2
              go_ret
              exact ⟨rfl, BX.out.trans (B9.out.mono BX.out.size)⟩
            · have hF1 : F < 0 := by omega
              obtain ⟨SZ, hSZ⟩ := named (strOfNums (TT.take N))
              have TB : Hid (BytesIn wr ta (TT.take N)) := (own_bt OW.out TTB.out).take N
              have NL : Hid ((TT.take N).length = N) := by show _ = _; rw [List.length_take, TTL.out]; have := NT.out; omega
              have hcap := (own_cap OW.out).1
              have k1 : N ≤ tc := by have := NT.out; omega
              have k2 : (N : Int) ≤ tc := by omega
              have k3 : (0 : Int) ≤ N := by omega
              have K1 : Hid (∀ w', Below wr.heap.size wr w' → (convert 31 9 (.slice ta N tc)).run Try.prog w' = .ok (.string SZ) w') := fun w' hb => by
                rw [hSZ.out]; exact run_str_in (P := Try.prog) Try.underlying31 Try.underlying5 Try.underlying9 (TB.out.below hb) N tc NL.out
              have SX' : Hid (∀ w', Below wr.heap.size wr w' → Calls Try.prog 10 #[.pointer (some ⟨m, 0, none⟩)] w' fun e w'' => ∃ a7 c7, e = .returned (.slice a7 N c7) ∧ BytesIn w'' a7 (TT.take N) ∧ Below wr.heap.size wr w'') := by
                intro w' hb
                refine (sbytes_any w' (SX.out.below hb)).mono ?_
                rintro e w'' ⟨v, rfl, o7, b7⟩
                rw [XE.out, NL.out] at o7
                obtain ⟨a7, c7, rfl, x7, _⟩ := own_bytes o7 TB.out.bytes
                exact ⟨a7, c7, rfl, x7, hb.trans (b7.mono hb.size)⟩
              go_wp2_with fail
              refine wp_region_held_drew (S := (fun w' => Below wr.heap.size wr w' ∧ (convert 31 9 (.slice ta N tc)).run Try.prog w' = .ok (.string SZ) w')) (by kernel_rfl) (⟨(Below.refl _ _).drew, K1.out _ (Below.refl _ _).drew⟩) (fun hHeld => ?_)
              refine wpAnyH_ready (rs := [0]) (by kernel_rfl) (by simp) ?_
              refine AllReadyH.cons (o := { dst := some 62, op := Go.Op.call { callee := Go.Callee.value (Go.Operand.func 13), args := #[], argTypes := #[] }, type := 4, pos := "law.go:89", after := #[], guard := none }) rfl (fun K hK => ?_) AllReadyH.nil
              go_simp
              refine (alive_any _).mono ?_; rintro e w8 ⟨rfl, b8⟩; have B8 := Lib.hid ((Below.refl wr.heap.size wr).drew.trans b8); clear b8
              go_wp2_with fail
              refine hK.out _ _ (⟨B8.out, K1.out _ B8.out⟩) (fun hHeld => ?_)
              clear hK K
              (try simp only [Act.put, List.setIfInBounds_toArray, List.set_cons_zero, List.set_cons_succ])
              refine wpAnyH_take (i := 1) (oi := { dst := some 63, op := Go.Op.move (Go.Operand.tmp 62), type := 4, pos := "law.go:89", after := #[{ on := 0, ground := Go.Ground.data }, { on := 0, ground := Go.Ground.chain }], guard := none }) (v := ?_) rfl (by kernel_rfl) (by kernel_rfl) (by kernel_rfl) (fun _ _ _ h => h) (Or.inl ⟨by rfl, ?_⟩) (by assumption) ?_
              rotate_left 1
              focus ((intro wS hSw; (try dsimp only at hSw); go_simp) <;> (try with_reducible rfl))
              simp only [Act.put, List.setIfInBounds_toArray, List.set_cons_zero, List.set_cons_succ]
              refine wpAnyH_take (i := 2) (oi := { dst := some 64, op := Go.Op.move (Go.Operand.tmp 5), type := 27, pos := "law.go:89", after := #[{ on := 1, ground := Go.Ground.guard }], guard := some (1, true) }) (v := ?_) rfl (by kernel_rfl) (by kernel_rfl) (by kernel_rfl) (fun _ _ _ h => h) (Or.inl ⟨by rfl, ?_⟩) (by assumption) ?_
              rotate_left 1
              focus ((intro wS hSw; (try dsimp only at hSw); go_simp) <;> (try with_reducible rfl))
              simp only [Act.put, List.setIfInBounds_toArray, List.set_cons_zero, List.set_cons_succ]
              refine wpAnyH_take (i := 5) (oi := { dst := some 67, op := Go.Op.move (Go.Operand.tmp 6), type := 31, pos := "law.go:89", after := #[{ on := 1, ground := Go.Ground.guard }], guard := some (1, true) }) (v := ?_) rfl (by kernel_rfl) (by kernel_rfl) (by kernel_rfl) (fun _ _ _ h => h) (Or.inl ⟨by rfl, ?_⟩) (by assumption) ?_
              rotate_left 1
              focus ((intro wS hSw; (try dsimp only at hSw); go_simp) <;> (try with_reducible rfl))
              simp only [Act.put, List.setIfInBounds_toArray, List.set_cons_zero, List.set_cons_succ]
              refine wpAnyH_take (i := 6) (oi := { dst := some 68, op := Go.Op.move (Go.Operand.tmp 11), type := 3, pos := "law.go:89", after := #[{ on := 1, ground := Go.Ground.guard }], guard := some (1, true) }) (v := ?_) rfl (by kernel_rfl) (by kernel_rfl) (by kernel_rfl) (fun _ _ _ h => h) (Or.inl ⟨by rfl, ?_⟩) (by assumption) ?_
              rotate_left 1
              focus ((intro wS hSw; (try dsimp only at hSw); go_simp) <;> (try with_reducible rfl))
              simp only [Act.put, List.setIfInBounds_toArray, List.set_cons_zero, List.set_cons_succ]
              refine wpAnyH_take (i := 7) (oi := { dst := some 69, op := Go.Op.slice 31 (Go.Operand.tmp 67) none (some (Go.Operand.tmp 68)) none, type := 31, pos := "law.go:89", after := #[{ on := 5, ground := Go.Ground.data }, { on := 6, ground := Go.Ground.data }, { on := 1, ground := Go.Ground.guard }], guard := some (1, true) }) (v := ?_) rfl (by kernel_rfl) (by kernel_rfl) (by kernel_rfl) (fun _ _ _ h => h) (Or.inl ⟨by rfl, ?_⟩) (by assumption) ?_
              rotate_left 1
              focus ((intro wS hSw; (try dsimp only at hSw); go_simp) <;> (try with_reducible rfl))
              simp only [Act.put, List.setIfInBounds_toArray, List.set_cons_zero, List.set_cons_succ]
              refine wpAnyH_take (i := 8) (oi := { dst := some 70, op := Go.Op.convert 31 9 (Go.Operand.tmp 69), type := 9, pos := "law.go:89", after := #[{ on := 7, ground := Go.Ground.data }, { on := 1, ground := Go.Ground.guard }], guard := some (1, true) }) (v := ?_) rfl (by kernel_rfl) (by kernel_rfl) (by kernel_rfl) (fun _ _ _ h => h) (Or.inl ⟨by rfl, ?_⟩) (by assumption) ?_
              rotate_left 1
              focus ((intro wS hSw; (try dsimp only at hSw); go_simp) <;> (try with_reducible rfl))
              simp only [Act.put, List.setIfInBounds_toArray, List.set_cons_zero, List.set_cons_succ]
              refine wpAnyH_ready (rs := [3]) (by kernel_rfl) (by simp) ?_
              refine AllReadyH.cons (o := { dst := some 65, op := Go.Op.call { callee := Go.Callee.value (Go.Operand.func 10), args := #[Go.Operand.tmp 64], argTypes := #[27] }, type := 31, pos := "law.go:89", after := #[{ on := 2, ground := Go.Ground.data }, { on := 1, ground := Go.Ground.chain }, { on := 1, ground := Go.Ground.guard }], guard := some (1, true) }) rfl (fun K hK => ?_) AllReadyH.nil
              go_simp
              refine (SX'.out _ B8.out).mono ?_; rintro e w9 ⟨a9, c9, rfl, x9, b9⟩; have hcx := run_str_in (P := Try.prog) Try.underlying31 Try.underlying5 Try.underlying9 x9 N c9 NL.out; rw [← hSZ.out] at hcx; have HCX := Lib.hid hcx; have B9 := Lib.hid b9; clear b9 x9 hcx
              go_wp2_with fail
              refine hK.out _ _ (⟨B9.out, K1.out _ B9.out⟩) (fun hHeld => ?_)
              clear hK K
              (try simp only [Act.put, List.setIfInBounds_toArray, List.set_cons_zero, List.set_cons_succ])
              refine wpAnyH_switch (S2 := (fun w' => (convert 31 9 (.slice a9 N c9)).run Try.prog w' = .ok (.string SZ) w' ∧ Below wr.heap.size wr w' ∧ (convert 31 9 (.slice ta N tc)).run Try.prog w' = .ok (.string SZ) w')) (fun _ h => h.2) ?_
              have hHeld : ((fun w' => (convert 31 9 (.slice a9 N c9)).run Try.prog w' = .ok (.string SZ) w' ∧ Below wr.heap.size wr w' ∧ (convert 31 9 (.slice ta N tc)).run Try.prog w' = .ok (.string SZ) w')) _ := ⟨HCX.out, B9.out, K1.out _ B9.out⟩
              refine wpAnyH_take (i := 4) (oi := { dst := some 66, op := Go.Op.convert 31 9 (Go.Operand.tmp 65), type := 9, pos := "law.go:89", after := #[{ on := 3, ground := Go.Ground.data }, { on := 1, ground := Go.Ground.guard }], guard := some (1, true) }) (v := ?_) rfl (by kernel_rfl) (by kernel_rfl) (by kernel_rfl) (fun _ _ _ h => h) (Or.inl ⟨by rfl, ?_⟩) (by assumption) ?_
              rotate_left 1
              focus ((intro wS hSw; (try dsimp only at hSw); go_simp) <;> (try with_reducible rfl))
              simp only [Act.put, List.setIfInBounds_toArray, List.set_cons_zero, List.set_cons_succ]
              refine wpAnyH_take (i := 9) (oi := { dst := some 71, op := Go.Op.binOp Go.BinOp.eql 9 (Go.Operand.tmp 66) (Go.Operand.tmp 70) 9, type := 4, pos := "law.go:89", after := #[{ on := 4, ground := Go.Ground.data }, { on := 8, ground := Go.Ground.data }, { on := 1, ground := Go.Ground.guard }], guard := some (1, true) }) (v := ?_) rfl (by kernel_rfl) (by kernel_rfl) (by kernel_rfl) (fun _ _ _ h => h) (Or.inl ⟨by rfl, ?_⟩) (by assumption) ?_
              rotate_left 1
              focus ((intro wS hSw; (try dsimp only at hSw); go_simp) <;> (try with_reducible rfl))
              simp only [Act.put, List.setIfInBounds_toArray, List.set_cons_zero, List.set_cons_succ]
              refine wpAnyH_take (i := 10) (oi := { dst := some 72, op := Go.Op.pick (Go.Operand.tmp 63) (Go.Operand.tmp 71) (Go.Operand.const (Go.Value.bool false)), type := 4, pos := "law.go:89", after := #[{ on := 1, ground := Go.Ground.data }, { on := 9, ground := Go.Ground.data }], guard := none }) (v := ?_) rfl (by kernel_rfl) (by kernel_rfl) (by kernel_rfl) (fun _ _ _ h => h) (Or.inl ⟨by rfl, ?_⟩) (by assumption) ?_
              rotate_left 1
              focus ((intro wS hSw; (try dsimp only at hSw); go_simp) <;> (try with_reducible rfl))
              simp only [Act.put, List.setIfInBounds_toArray, List.set_cons_zero, List.set_cons_succ]
              refine wpAnyH_take (i := 11) (oi := { dst := some 73, op := Go.Op.move (Go.Operand.tmp 72), type := 4, pos := "law.go:89", after := #[{ on := 10, ground := Go.Ground.data }, { on := 3, ground := Go.Ground.chain }], guard := none }) (v := ?_) rfl (by kernel_rfl) (by kernel_rfl) (by kernel_rfl) (fun _ _ _ h => h) (Or.inl ⟨by rfl, ?_⟩) (by assumption) ?_
              rotate_left 1
              focus ((intro wS hSw; (try dsimp only at hSw); go_simp) <;> (try with_reducible rfl))
              simp only [Act.put, List.setIfInBounds_toArray, List.set_cons_zero, List.set_cons_succ]
              refine wpAnyH_take (i := 12) (oi := { dst := some 74, op := Go.Op.move (Go.Operand.tmp 7), type := 4, pos := "law.go:89", after := #[{ on := 11, ground := Go.Ground.guard }], guard := some (11, true) }) (v := ?_) rfl (by kernel_rfl) (by kernel_rfl) (by kernel_rfl) (fun _ _ _ h => h) (Or.inl ⟨by rfl, ?_⟩) (by assumption) ?_
              rotate_left 1
              focus ((intro wS hSw; (try dsimp only at hSw); go_simp) <;> (try with_reducible rfl))
              simp only [Act.put, List.setIfInBounds_toArray, List.set_cons_zero, List.set_cons_succ]
              refine wpAnyH_take (i := 13) (oi := { dst := some 75, op := Go.Op.move (Go.Operand.tmp 11), type := 3, pos := "law.go:89", after := #[{ on := 11, ground := Go.Ground.guard }], guard := some (11, true) }) (v := ?_) rfl (by kernel_rfl) (by kernel_rfl) (by kernel_rfl) (fun _ _ _ h => h) (Or.inl ⟨by rfl, ?_⟩) (by assumption) ?_
              rotate_left 1
              focus ((intro wS hSw; (try dsimp only at hSw); go_simp) <;> (try with_reducible rfl))
              simp only [Act.put, List.setIfInBounds_toArray, List.set_cons_zero, List.set_cons_succ]
              refine wpAnyH_take (i := 14) (oi := { dst := some 76, op := Go.Op.move (Go.Operand.tmp 6), type := 31, pos := "law.go:89", after := #[{ on := 11, ground := Go.Ground.guard }], guard := some (11, true) }) (v := ?_) rfl (by kernel_rfl) (by kernel_rfl) (by kernel_rfl) (fun _ _ _ h => h) (Or.inl ⟨by rfl, ?_⟩) (by assumption) ?_
              rotate_left 1
              focus ((intro wS hSw; (try dsimp only at hSw); go_simp) <;> (try with_reducible rfl))
              simp only [Act.put, List.setIfInBounds_toArray, List.set_cons_zero, List.set_cons_succ]
              refine wpAnyH_take (i := 15) (oi := { dst := some 77, op := Go.Op.call { callee := Go.Callee.builtin Go.Builtin.len, args := #[Go.Operand.tmp 76], argTypes := #[31] }, type := 3, pos := "law.go:89", after := #[{ on := 14, ground := Go.Ground.data }, { on := 11, ground := Go.Ground.guard }], guard := some (11, true) }) (v := ?_) rfl (by kernel_rfl) (by kernel_rfl) (by kernel_rfl) (fun _ _ _ h => h) (Or.inl ⟨by rfl, ?_⟩) (by assumption) ?_
              rotate_left 1
              focus ((intro wS hSw; (try dsimp only at hSw); go_simp) <;> (try with_reducible rfl))
              simp only [Act.put, List.setIfInBounds_toArray, List.set_cons_zero, List.set_cons_succ]
              refine wpAnyH_take (i := 16) (oi := { dst := some 78, op := Go.Op.binOp Go.BinOp.lss 3 (Go.Operand.tmp 75) (Go.Operand.tmp 77) 3, type := 4, pos := "law.go:89", after := #[{ on := 13, ground := Go.Ground.data }, { on := 15, ground := Go.Ground.data }, { on := 11, ground := Go.Ground.guard }], guard := some (11, true) }) (v := ?_) rfl (by kernel_rfl) (by kernel_rfl) (by kernel_rfl) (fun _ _ _ h => h) (Or.inl ⟨by rfl, ?_⟩) (by assumption) ?_
              rotate_left 1
              focus ((intro wS hSw; (try dsimp only at hSw); go_simp) <;> (try with_reducible rfl))
              simp only [Act.put, List.setIfInBounds_toArray, List.set_cons_zero, List.set_cons_succ]
              refine wpAnyH_take (i := 17) (oi := { dst := some 79, op := Go.Op.binOp Go.BinOp.eql 4 (Go.Operand.tmp 74) (Go.Operand.tmp 78) 4, type := 4, pos := "law.go:89", after := #[{ on := 12, ground := Go.Ground.data }, { on := 16, ground := Go.Ground.data }, { on := 11, ground := Go.Ground.guard }], guard := some (11, true) }) (v := ?_) rfl (by kernel_rfl) (by kernel_rfl) (by kernel_rfl) (fun _ _ _ h => h) (Or.inl ⟨by rfl, ?_⟩) (by assumption) ?_
              rotate_left 1
              focus ((intro wS hSw; (try dsimp only at hSw); go_simp) <;> (try with_reducible rfl))
              simp only [Act.put, List.setIfInBounds_toArray, List.set_cons_zero, List.set_cons_succ]
              refine wpAnyH_take (i := 18) (oi := { dst := some 80, op := Go.Op.pick (Go.Operand.tmp 73) (Go.Operand.tmp 79) (Go.Operand.const (Go.Value.bool false)), type := 4, pos := "law.go:89", after := #[{ on := 11, ground := Go.Ground.data }, { on := 17, ground := Go.Ground.data }], guard := none }) (v := ?_) rfl (by kernel_rfl) (by kernel_rfl) (by kernel_rfl) (fun _ _ _ h => h) (Or.inl ⟨by rfl, ?_⟩) (by assumption) ?_
              rotate_left 1
              focus ((intro wS hSw; (try dsimp only at hSw); go_simp) <;> (try with_reducible rfl))
              simp only [Act.put, List.setIfInBounds_toArray, List.set_cons_zero, List.set_cons_succ]
              refine wpAnyH_take (i := 19) (oi := { dst := some 4, op := Go.Op.assign (Go.Operand.tmp 80), type := 4, pos := "law.go:89", after := #[{ on := 18, ground := Go.Ground.data }, { on := 11, ground := Go.Ground.chain }, { on := 0, ground := Go.Ground.phase }, { on := 1, ground := Go.Ground.phase }, { on := 2, ground := Go.Ground.phase }, { on := 3, ground := Go.Ground.phase }, { on := 4, ground := Go.Ground.phase }, { on := 5, ground := Go.Ground.phase }, { on := 6, ground := Go.Ground.phase }, { on := 7, ground := Go.Ground.phase }, { on := 8, ground := Go.Ground.phase }, { on := 9, ground := Go.Ground.phase }, { on := 10, ground := Go.Ground.phase }, { on := 11, ground := Go.Ground.phase }, { on := 12, ground := Go.Ground.phase }, { on := 13, ground := Go.Ground.phase }, { on := 14, ground := Go.Ground.phase }, { on := 15, ground := Go.Ground.phase }, { on := 16, ground := Go.Ground.phase }, { on := 17, ground := Go.Ground.phase }, { on := 18, ground := Go.Ground.phase }], guard := none }) (v := ?_) rfl (by kernel_rfl) (by kernel_rfl) (by kernel_rfl) (fun _ _ _ h => h) (Or.inl ⟨by rfl, ?_⟩) (by assumption) ?_
              rotate_left 1
              focus ((intro wS hSw; (try dsimp only at hSw); go_simp) <;> (try with_reducible rfl))
              simp only [Act.put, List.setIfInBounds_toArray, List.set_cons_zero, List.set_cons_succ]
              refine wpAnyH_done (by kernel_rfl) ?_ _
              go_wp2
              go_ret
              exact ⟨rfl, BX.out.trans (B9.out.mono BX.out.size)⟩
end Go.Proofs.Ytodohdhbnihdbaa
