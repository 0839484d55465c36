/-
  SinkMatchesReference, walked.
-/
import Derived.Test.YtodohdhbnihdbaaSnkCat
import Derived.Test.YtodohdhbnihdbaaSnkRefA
namespace Go.Proofs.Ytodohdhbnihdbaa
open Go.RowKit

theorem Rsk.told {w : World} {S : Nat → Prop} {m : Nat} {ys cs : List Int} {F : Int} {r : Nat} (h : Rsk w S m ys F cs r) (N : Nat) (hN : ys.length = N) (SZ : ByteArray) (hZ : SZ = strOfNums ys) :
    ∃ da dc, ∀ w', Below w.heap.size w w' → Below w.heap.size w w' ∧ w'.cell? ⟨m, 0, none⟩ = some (.slice da N dc) ∧ (convert 31 9 (.slice da N dc)).run Try.prog w' = .ok (.string SZ) w' := by
  obtain ⟨da, dc, sa, sc, h1, h2, _⟩ := h
  refine ⟨da, dc, fun w' hb' => ⟨hb', ?_, ?_⟩⟩
  · rw [← hN]; exact (h1.below hb' h1.lt).get 0 rfl
  · rw [hZ]; exact run_str_in (P := Try.prog) Try.underlying31 Try.underlying5 Try.underlying9 (h2.below hb') N dc hN
theorem Rsk.me {w : World} {S : Nat → Prop} {m : Nat} {ys cs : List Int} {F : Int} {r : Nat} (h : Rsk w S m ys F cs r) : S m := by
  obtain ⟨_, _, _, _, _, _, _, _, _, _, h7, _⟩ := h; exact h7

set_option maxRecDepth 100000 in
set_option maxHeartbeats 16000000 in
theorem walk_SinkMatchesReference (ca : Option Addr) (cl cc : Nat) (cs : List Int) (F : Int) (a : Option Addr) (len cap : Nat) (rows : List Row) (pa : Option Addr) (pl pc : Nat) (ps : List Bool) (w : World) (hc : ArgInts .i64 w ca cl cc cs) (hwf : (Lit.int .i64 F).wf = true)
    (hr : ArgRows .u8 w a len cap rows) (hy : ∀ y ∈ rows, y.2.1 ≤ 140737488355328) (hp : ArgBools w pa pl pc ps) :
    Calls Try.prog 3 #[.agg #[.slice ca cl cc, .int .i64 F], .slice a len cap, .slice pa pl pc] w fun e w' => e = .returned (.bool true) ∧ Below w.heap.size w w' := by
  have HR := Lib.hid hr; have HY := Lib.hid hy; have HI := Lib.hid hc.inK; have HCL := Lib.hid hc.1; have HP := Lib.hid hp
  have hFF := (bounds_i64 hwf).2
  clear hr hy hc hwf hp
  by_cases h100 : (100 : Int) < len
  · have kc := fun (w : World) (C : Array Value) (n c : Nat) => Lib.run_convert_bytes_const (P := Try.prog) w 31 5 C n c Try.underlying31 Try.underlying5
    go_enter Try.func3, Try.ntmps3
    go_wp2_with (first | (refine wpList_box_obj rfl 24 _ rfl [.slice ca cl cc, .int .i64 F] rfl ?_; intro w1 h1 b1; have H1 := Lib.hid h1; have B1 := Lib.hid b1; clear h1 b1))
    obtain ⟨w2, h2⟩ := named (w1.alloc (.cells #[.int .u8 97] 5 (1, 2)))
    rw [← h2.out]
    have B2 : Hid (Below w1.heap.size w1 w2) := by show Below _ _ _; rw [h2.out]; exact (Below.refl _ _).alloc (Nat.le_refl _) _
    clear h2 kc
    have H2 := Lib.hid (H1.out.below B2.out H1.out.lt)
    have B12 := Lib.hid (B1.out.trans (B2.out.mono B1.out.size))
    have c0 := H2.out.get 0 rfl
    refine (swrite_nil _ _).mono ?_; rintro e wx ⟨rfl, rfl⟩
    go_wp2_with fail
    refine (sall_nil _ _ _ _).mono ?_; rintro e wx ⟨rfl, rfl⟩
    go_wp2_with fail
    refine (sbytes_nil _).mono ?_; rintro e wx ⟨rfl, rfl⟩
    go_wp2_with fail
    refine (slen_nil _).mono ?_; rintro e wx ⟨rfl, rfl⟩
    go_wp2_with fail
    refine (alive_any _).mono ?_; rintro e w3 ⟨rfl, b3⟩
    go_wp2
    go_ret
    exact ⟨rfl, B12.out.trans (b3.mono B12.out.size)⟩
  · by_cases h5000 : (5000 : Int) < total rows
    · have kc := fun (w : World) (C : Array Value) (n c : Nat) => Lib.run_convert_bytes_const (P := Try.prog) w 31 5 C n c Try.underlying31 Try.underlying5
      go_enter Try.func3, Try.ntmps3
      go_wp2_with (first | (refine wpList_box_obj rfl 24 _ rfl [.slice ca cl cc, .int .i64 F] rfl ?_; intro w1 h1 b1; have H1 := Lib.hid h1; have B1 := Lib.hid b1; clear h1 b1))
      obtain ⟨w2, h2⟩ := named (w1.alloc (.cells #[.int .u8 97] 5 (1, 2)))
      rw [← h2.out]
      have B2 : Hid (Below w1.heap.size w1 w2) := by show Below _ _ _; rw [h2.out]; exact (Below.refl _ _).alloc (Nat.le_refl _) _
      clear h2 kc
      have H2 := Lib.hid (H1.out.below B2.out H1.out.lt)
      have B12 := Lib.hid (B1.out.trans (B2.out.mono B1.out.size))
      have c0 := H2.out.get 0 rfl
      refine (swrite_nil _ _).mono ?_; rintro e wx ⟨rfl, rfl⟩
      go_wp2_with fail
      refine (sall_nil _ _ _ _).mono ?_; rintro e wx ⟨rfl, rfl⟩
      go_wp2_with fail
      refine (sbytes_nil _).mono ?_; rintro e wx ⟨rfl, rfl⟩
      go_wp2_with fail
      refine (slen_nil _).mono ?_; rintro e wx ⟨rfl, rfl⟩
      go_wp2_with fail
      refine (size_any a len cap rows w2 (HR.out.below B12.out) HY.out (by omega)).mono ?_; rintro e wx ⟨rfl, rfl⟩
      go_wp2_with fail
      refine (alive_any _).mono ?_; rintro e w3 ⟨rfl, b3⟩
      go_wp2
      go_ret
      exact ⟨rfl, B12.out.trans (b3.mono B12.out.size)⟩
    · by_cases h300 : (300 : Int) < cl
      · have kc := fun (w : World) (C : Array Value) (n c : Nat) => Lib.run_convert_bytes_const (P := Try.prog) w 31 5 C n c Try.underlying31 Try.underlying5
        go_enter Try.func3, Try.ntmps3
        go_wp2_with (first | (refine wpList_box_obj rfl 24 _ rfl [.slice ca cl cc, .int .i64 F] rfl ?_; intro w1 h1 b1; have H1 := Lib.hid h1; have B1 := Lib.hid b1; clear h1 b1))
        obtain ⟨w2, h2⟩ := named (w1.alloc (.cells #[.int .u8 97] 5 (1, 2)))
        rw [← h2.out]
        have B2 : Hid (Below w1.heap.size w1 w2) := by show Below _ _ _; rw [h2.out]; exact (Below.refl _ _).alloc (Nat.le_refl _) _
        clear h2 kc
        have H2 := Lib.hid (H1.out.below B2.out H1.out.lt)
        have B12 := Lib.hid (B1.out.trans (B2.out.mono B1.out.size))
        have c0 := H2.out.get 0 rfl
        refine (swrite_nil _ _).mono ?_; rintro e wx ⟨rfl, rfl⟩
        go_wp2_with fail
        refine (sall_nil _ _ _ _).mono ?_; rintro e wx ⟨rfl, rfl⟩
        go_wp2_with fail
        refine (sbytes_nil _).mono ?_; rintro e wx ⟨rfl, rfl⟩
        go_wp2_with fail
        refine (slen_nil _).mono ?_; rintro e wx ⟨rfl, rfl⟩
        go_wp2_with fail
        refine (size_any a len cap rows w2 (HR.out.below B12.out) HY.out (by omega)).mono ?_; rintro e wx ⟨rfl, rfl⟩
        go_wp2_with fail
        refine (alive_any _).mono ?_; rintro e w3 ⟨rfl, b3⟩
        go_wp2
        go_ret
        exact ⟨rfl, B12.out.trans (b3.mono B12.out.size)⟩
      · have RB : Hid (∀ y ∈ rows, Bytes y.2.2.2 ∧ y.2.2.2.length = y.2.1) := by
          obtain ⟨_, _, _, h4, _⟩ := HR.out
          exact fun y hy => ⟨(h4 y hy).bytes.bytes, (h4 y hy).1⟩
        have T5 : Hid (total rows ≤ 5000) := by show _ ≤ _; omega
        have kc := fun (w : World) (C : Array Value) (n c : Nat) => Lib.run_convert_bytes_const (P := Try.prog) w 31 5 C n c Try.underlying31 Try.underlying5
        go_enter Try.func3, Try.ntmps3
        go_wp2_with (first | (refine wpList_box_obj rfl 24 _ rfl [.slice ca cl cc, .int .i64 F] rfl ?_; intro w1 h1 b1; have H1 := Lib.hid h1; have B1 := Lib.hid b1; clear h1 b1))
        obtain ⟨w2, h2⟩ := named (w1.alloc (.cells #[.int .u8 97] 5 (1, 2)))
        rw [← h2.out]
        have B2 : Hid (Below w1.heap.size w1 w2) := by show Below _ _ _; rw [h2.out]; exact (Below.refl _ _).alloc (Nat.le_refl _) _
        clear h2 kc
        have H2 := Lib.hid (H1.out.below B2.out H1.out.lt)
        have B12 := Lib.hid (B1.out.trans (B2.out.mono B1.out.size))
        have c0 := H2.out.get 0 rfl
        refine (swrite_nil _ _).mono ?_; rintro e wx ⟨rfl, rfl⟩
        go_wp2_with fail
        refine (sall_nil _ _ _ _).mono ?_; rintro e wx ⟨rfl, rfl⟩
        go_wp2_with fail
        refine (sbytes_nil _).mono ?_; rintro e wx ⟨rfl, rfl⟩
        go_wp2_with fail
        refine (slen_nil _).mono ?_; rintro e wx ⟨rfl, rfl⟩
        go_wp2_with fail
        refine (size_any a len cap rows w2 (HR.out.below B12.out) HY.out (by omega)).mono ?_; rintro e wx ⟨rfl, rfl⟩
        go_wp2_with fail
        have HR2 := Lib.hid (HR.out.below B12.out); have HP2 := Lib.hid (HP.out.below B12.out)
        have K0 : Hid (∀ w', Below w2.heap.size w2 w' → w'.cell? ⟨w.heap.size, 0, none⟩ = some (.slice ca cl cc) ∧ w'.cell? ⟨w.heap.size, 1, none⟩ = some (.int .i64 F)) := fun w' hb => ⟨(H2.out.below hb H2.out.lt).get 0 rfl, (H2.out.below hb H2.out.lt).get 1 rfl⟩
        clear c0
        refine wp_region_held_drew (S := (fun w' => w'.cell? ⟨w.heap.size, 0, none⟩ = some (.slice ca cl cc) ∧ w'.cell? ⟨w.heap.size, 1, none⟩ = some (.int .i64 F))) (by kernel_rfl) (K0.out _ (Below.refl _ _).drew) (fun hHeld => ?_)
        refine wpAnyH_take (i := 0) (oi := { dst := some 62, op := Go.Op.load 24 (Go.Operand.tmp 3), type := 24, pos := "law.go:40", after := #[], guard := none }) (v := ?_) rfl (by kernel_rfl) (by kernel_rfl) (by kernel_rfl) (fun _ _ _ h => h) (Or.inl ⟨by rfl, ?_⟩) (by assumption) ?_
        rotate_left 1
        focus ((intro wS hSw; (try dsimp only at hSw); go_simp) <;> (try with_reducible rfl))
        simp only [Act.put, List.setIfInBounds_toArray, List.set_cons_zero, List.set_cons_succ]
        refine wpAnyH_take (i := 2) (oi := { dst := some 64, op := Go.Op.load 24 (Go.Operand.tmp 3), type := 24, pos := "law.go:40", after := #[], guard := none }) (v := ?_) rfl (by kernel_rfl) (by kernel_rfl) (by kernel_rfl) (fun _ _ _ h => h) (Or.inl ⟨by rfl, ?_⟩) (by assumption) ?_
        rotate_left 1
        focus ((intro wS hSw; (try dsimp only at hSw); go_simp) <;> (try with_reducible rfl))
        simp only [Act.put, List.setIfInBounds_toArray, List.set_cons_zero, List.set_cons_succ]
        refine wpAnyH_ready (rs := [1]) (by kernel_rfl) (by simp) ?_
        refine AllReadyH.cons (o := { dst := some 63, op := Go.Op.call { callee := Go.Callee.value (Go.Operand.func 14), args := #[Go.Operand.tmp 62], argTypes := #[24] }, type := 27, pos := "law.go:40", after := #[{ on := 0, ground := Go.Ground.data }], guard := none }) rfl (fun K hK => ?_) AllReadyH.nil
        go_simp
        refine (snk_new ca cl cc cs F _ ((HI.out.below B12.out).below (Below.refl _ _).drew) HCL.out (by omega)).mono ?_; rintro e w3 ⟨s, rfl, s3, b3⟩; have S3 := Lib.hid s3; have B3 := Lib.hid ((Below.refl w2.heap.size w2).drew.trans b3); clear s3 b3
        go_wp2_with fail
        refine hK.out _ _ (K0.out _ B3.out) (fun hHeld => ?_)
        clear hK K
        (try simp only [Act.put, List.setIfInBounds_toArray, List.set_cons_zero, List.set_cons_succ])
        refine wpAnyH_ready (rs := [3]) (by kernel_rfl) (by simp) ?_
        refine AllReadyH.cons (o := { dst := some 65, op := Go.Op.call { callee := Go.Callee.value (Go.Operand.func 15), args := #[Go.Operand.tmp 64], argTypes := #[24] }, type := 38, pos := "law.go:40", after := #[{ on := 2, ground := Go.Ground.data }, { on := 1, ground := Go.Ground.chain }], guard := none }) rfl (fun K hK => ?_) AllReadyH.nil
        go_simp
        refine (rsk_new ca cl cc cs F _ ((HI.out.below B12.out).below B3.out) HCL.out (by omega)).mono ?_; rintro e w4 ⟨m, rfl, s4, b4⟩; have R4 := Lib.hid s4; have B4 := Lib.hid b4; clear s4 b4
        go_wp2_with fail
        refine hK.out _ _ (K0.out _ (B3.out.trans (B4.out.mono B3.out.size))) (fun hHeld => ?_)
        clear hK K
        (try simp only [Act.put, List.setIfInBounds_toArray, List.set_cons_zero, List.set_cons_succ])
        refine wpAnyH_take (i := 4) (oi := { dst := some 10, op := Go.Op.assign (Go.Operand.tmp 63), type := 27, pos := "law.go:40", after := #[{ on := 1, ground := Go.Ground.data }, { on := 3, ground := Go.Ground.chain }, { on := 0, ground := Go.Ground.phase }, { on := 1, ground := Go.Ground.phase }, { on := 2, ground := Go.Ground.textOnly Go.Departure.lateStores }, { on := 3, ground := Go.Ground.textOnly Go.Departure.lateStoresUnsure }], guard := none }) (v := ?_) rfl (by kernel_rfl) (by kernel_rfl) (by kernel_rfl) (fun _ _ _ h => h) (Or.inl ⟨by rfl, ?_⟩) (by assumption) ?_
        rotate_left 1
        focus ((intro wS hSw; (try dsimp only at hSw); go_simp) <;> (try with_reducible rfl))
        simp only [Act.put, List.setIfInBounds_toArray, List.set_cons_zero, List.set_cons_succ]
        refine wpAnyH_take (i := 5) (oi := { dst := some 11, op := Go.Op.assign (Go.Operand.tmp 65), type := 38, pos := "law.go:40", after := #[{ on := 3, ground := Go.Ground.data }, { on := 4, ground := Go.Ground.chain }, { on := 0, ground := Go.Ground.phase }, { on := 1, ground := Go.Ground.phase }, { on := 2, ground := Go.Ground.phase }, { on := 3, ground := Go.Ground.phase }, { on := 4, ground := Go.Ground.phase }], guard := none }) (v := ?_) rfl (by kernel_rfl) (by kernel_rfl) (by kernel_rfl) (fun _ _ _ h => h) (Or.inl ⟨by rfl, ?_⟩) (by assumption) ?_
        rotate_left 1
        focus ((intro wS hSw; (try dsimp only at hSw); go_simp) <;> (try with_reducible rfl))
        simp only [Act.put, List.setIfInBounds_toArray, List.set_cons_zero, List.set_cons_succ]
        refine wpAnyH_done (by kernel_rfl) ?_ _
        have Z3 := Lib.hid B3.out.size; have Z4 := Lib.hid B4.out.size
        have S4 := Lib.hid (S3.out.below B4.out)
        have B24 := Lib.hid (B3.out.trans (B4.out.mono B3.out.size))
        go_wp2_with fail
        go_loopw [12, 13, 14, 15, 16, 17, 70] (fun _ _ _ _ _ _ i wr => ∃ (S1 S2 : Nat → Prop) (ys : List Int) (j r : Nat), j ≤ len ∧ i = .int .i64 j ∧ ys.length ≤ total (rows.take j) ∧ (∀ k, S1 k → w2.heap.size ≤ k ∧ ¬ S2 k) ∧ (∀ k, S2 k → w2.heap.size ≤ k) ∧ Snk wr S1 s ys F cs r ∧ Rsk wr S2 m ys F cs r ∧ Below w2.heap.size w2 wr) (fun _ _ _ _ _ _ i _ => len - (intOf i).toNat)
        case atStart => exact ⟨(fun k => w2.heap.size ≤ k ∧ k < w3.heap.size), (fun k => w3.heap.size ≤ k ∧ k < w4.heap.size), [], 0, 0, Nat.zero_le _, rfl, Nat.zero_le _, fun k hk => ⟨hk.1, fun h => by have := hk.2; have := h.1; omega⟩, fun k hk => Nat.le_trans Z3.out hk.1, S4.out, R4.out, B24.out⟩
        case round =>
          obtain ⟨S1, S2, ys, j, r, hj, rfl, hyl, hS1, hS2, hs, hm, hbel⟩ := hrel
          have HS1 := Lib.hid hS1; have HS2 := Lib.hid hS2; have SS := Lib.hid hs; have RR := Lib.hid hm; have BR := Lib.hid hbel
          have hT5 : ys.length ≤ 5000 := by have := total_take_le rows j; have := T5.out; omega
          have HYL := Lib.hid hyl
          clear hS1 hS2 hs hm hbel hyl
          by_cases hlt : j < len
          · obtain ⟨b, off, y, rfl, _, hy, hm, hc, hz⟩ := (HR2.out.below BR.out).get j hlt
            have hlt' : (j : Int) < len := by omega
            obtain ⟨ya, yl, yc, zs⟩ := y
            have TS : Hid (total (rows.take (j + 1)) = total (rows.take j) + yl) := total_take hy
            have YL : Hid (zs.length = yl) := hz.1
            have YC : Hid (yl ≤ yc) := hz.2.1
            have hyl5 : yl ≤ 5000 := by have := total_take_le rows (j + 1); have := T5.out; have := TS.out; omega
            have HYA : Hid (∀ x, ya = some x → zs = [] ∨ x.block < w2.heap.size) := by
              obtain ⟨_, _, _, h4, _⟩ := HR2.out
              intro x hx
              rcases (h4 _ hm).bytes with h | ⟨b', off', h1, h2, _⟩
              · exact .inl h
              · simp only at h1; rw [h1] at hx; cases hx; exact .inr h2
            have YBA : Hid (∀ w', Below w2.heap.size w2 w' → BytesIn w' ya zs) := by
              obtain ⟨_, _, _, h4, _⟩ := HR2.out
              exact fun w' hb => (h4 _ hm).bytes.below hb
            clear hz hy hm
            obtain ⟨L, hL⟩ := named ys.length
            have hL5 : L ≤ 5000 := by have := hL.out; omega
            by_cases hpl : j < pl
            · have hpl' : (j : Int) < pl := by omega
              obtain ⟨p1, p2, p3, p4⟩ := HP2.out
              obtain ⟨pb, po, rfl, hpb, hpc⟩ := p4.resolve_left (by omega)
              have hpj : j < ps.length := by omega
              have hcell := (BR.out.cell (p := ⟨pb, po + j, none⟩) hpb).trans (hpc j _ (List.getElem?_eq_getElem hpj))
              generalize ps[j] = B at hcell
              have HPB := Lib.hid hpc
              clear p1 p2 p3 p4 hpc
              cases B with
              | true =>
                obtain ⟨K, hK⟩ := named (allK F L yl)
                obtain ⟨R, hR⟩ := named (allR cs F yl L r yl)
                obtain ⟨E, hE⟩ := named (allE F L yl)
                have hKl : Hid (K ≤ yl) := by show _ ≤ _; rw [hK.out]; exact (allK_le F L yl (by have := SS.out.bytes.2.2.2.2; rw [← hL.out] at this; exact this)).1
                go_wp2_with fail
                refine (snk_all ya yl yc zs wr SS.out (YBA.out _ BR.out) YL.out YC.out (by rw [← hL.out]; omega) hFF (fun x hx => (HYA.out x hx).imp id fun h hs => by have := (HS1.out _ hs).1; omega)).mono ?_; rintro e w7 ⟨rfl, s7, o7⟩
                rw [← hL.out, ← hK.out, ← hR.out] at s7
                rw [← hL.out, ← hE.out]
                have S7 := Lib.hid s7; have Q7 := Lib.hid o7
                have R7 := Lib.hid (RR.out.only o7 (fun k hk h => (HS1.out k h).2 hk))
                have B7 := Lib.hid (BR.out.trans (o7.below (B := w2.heap.size) (fun k hk => (HS1.out k hk).1) BR.out.size))
                clear s7 o7
                go_wp2_with fail
                refine (rsk_all ya yl yc zs w7 R7.out (YBA.out _ B7.out) YL.out YC.out (by rw [← hL.out]; omega) hFF (fun x hx => (HYA.out x hx).imp id fun h hs => by have := HS2.out _ hs; omega)).mono ?_; rintro e w8 ⟨rfl, r8, o8⟩
                rw [← hL.out, ← hK.out, ← hR.out] at r8
                rw [← hL.out, ← hE.out]
                have R8 := Lib.hid r8; have Q8 := Lib.hid o8
                have hG : Hid (∀ k, Grow S1 wr w7 k → w2.heap.size ≤ k ∧ ¬ S2 k) := fun k hk => hk.elim (HS1.out k) (fun h => ⟨Nat.le_trans BR.out.size h.1, fun h2 => by have := RR.out.lt k h2; omega⟩)
                have SX := Lib.hid (S7.out.only o8 (fun k hk h => (hG.out k hk).2 h))
                have B8 := Lib.hid (B7.out.trans (o8.below (B := w2.heap.size) HS2.out B7.out.size))
                clear r8 o8
                obtain ⟨X, hX⟩ := named (ys ++ zs.take K)
                rw [← hX.out] at R8 SX
                obtain ⟨N, hN⟩ := named X.length
                have hNX : Hid (X.length = N) := hN.out.symm
                have hN4 : (N : Int) ≤ 10000 := by have h : X.length = ys.length + (zs.take K).length := by rw [hX.out, List.length_append]
                                                   have h2 : (zs.take K).length ≤ yl := by rw [List.length_take, YL.out]; omega
                                                   have := hN.out; omega
                obtain ⟨SZ, hSZ⟩ := named (strOfNums X)
                obtain ⟨da, dc, k8⟩ := R8.out.told N hNX.out SZ hSZ.out
                have K8 := Lib.hid k8
                clear k8
                go_wp2_with fail
                refine wp_region_held_drew (S := (fun w' => Below w8.heap.size w8 w' ∧ w'.cell? ⟨m, 0, none⟩ = some (.slice da N dc) ∧ (convert 31 9 (.slice da N dc)).run Try.prog w' = .ok (.string SZ) w')) (by kernel_rfl) (K8.out _ (Below.refl _ _).drew) (fun hHeld => ?_)
                refine wpAnyH_take (i := 0) (oi := { dst := some 112, op := Go.Op.move (Go.Operand.tmp 10), type := 27, pos := "law.go:56", after := #[], guard := none }) (v := ?_) rfl (by kernel_rfl) (by kernel_rfl) (by kernel_rfl) (fun _ _ _ h => h) (Or.inl ⟨by rfl, ?_⟩) (by assumption) ?_
                rotate_left 1
                focus ((intro wS hSw; (try dsimp only at hSw); go_simp) <;> (try with_reducible rfl))
                simp only [Act.put, List.setIfInBounds_toArray, List.set_cons_zero, List.set_cons_succ]
                refine wpAnyH_take (i := 3) (oi := { dst := some 115, op := Go.Op.move (Go.Operand.tmp 11), type := 38, pos := "law.go:56", after := #[], guard := none }) (v := ?_) rfl (by kernel_rfl) (by kernel_rfl) (by kernel_rfl) (fun _ _ _ h => h) (Or.inl ⟨by rfl, ?_⟩) (by assumption) ?_
                rotate_left 1
                focus ((intro wS hSw; (try dsimp only at hSw); go_simp) <;> (try with_reducible rfl))
                simp only [Act.put, List.setIfInBounds_toArray, List.set_cons_zero, List.set_cons_succ]
                refine wpAnyH_take (i := 4) (oi := { dst := some 116, op := Go.Op.nilCheck (Go.Operand.tmp 115), type := 0, pos := "law.go:56", after := #[{ on := 3, ground := Go.Ground.data }], guard := none }) (v := ?_) rfl (by kernel_rfl) (by kernel_rfl) (by kernel_rfl) (fun _ _ _ h => h) (Or.inl ⟨by rfl, ?_⟩) (by assumption) ?_
                rotate_left 1
                focus ((intro wS hSw; (try dsimp only at hSw); go_simp) <;> (try with_reducible rfl))
                simp only [Act.put, List.setIfInBounds_toArray, List.set_cons_zero, List.set_cons_succ]
                refine wpAnyH_take (i := 5) (oi := { dst := some 117, op := Go.Op.fieldAddr 44 (Go.Operand.tmp 116) 0, type := 0, pos := "law.go:56", after := #[{ on := 4, ground := Go.Ground.data }], guard := none }) (v := ?_) rfl (by kernel_rfl) (by kernel_rfl) (by kernel_rfl) (fun _ _ _ h => h) (Or.inl ⟨by rfl, ?_⟩) (by assumption) ?_
                rotate_left 1
                focus ((intro wS hSw; (try dsimp only at hSw); go_simp) <;> (try with_reducible rfl))
                simp only [Act.put, List.setIfInBounds_toArray, List.set_cons_zero, List.set_cons_succ]
                refine wpAnyH_take (i := 6) (oi := { dst := some 118, op := Go.Op.load 31 (Go.Operand.tmp 117), type := 31, pos := "law.go:56", after := #[{ on := 5, ground := Go.Ground.data }], guard := none }) (v := ?_) rfl (by kernel_rfl) (by kernel_rfl) (by kernel_rfl) (fun _ _ _ h => h) (Or.inl ⟨by rfl, ?_⟩) (by assumption) ?_
                rotate_left 1
                focus ((intro wS hSw; (try dsimp only at hSw); go_simp) <;> (try with_reducible rfl))
                simp only [Act.put, List.setIfInBounds_toArray, List.set_cons_zero, List.set_cons_succ]
                refine wpAnyH_take (i := 7) (oi := { dst := some 119, op := Go.Op.convert 31 9 (Go.Operand.tmp 118), type := 9, pos := "law.go:56", after := #[{ on := 6, ground := Go.Ground.data }], guard := none }) (v := ?_) rfl (by kernel_rfl) (by kernel_rfl) (by kernel_rfl) (fun _ _ _ h => h) (Or.inl ⟨by rfl, ?_⟩) (by assumption) ?_
                rotate_left 1
                focus ((intro wS hSw; (try dsimp only at hSw); go_simp) <;> (try with_reducible rfl))
                simp only [Act.put, List.setIfInBounds_toArray, List.set_cons_zero, List.set_cons_succ]
                refine wpAnyH_ready (rs := [1]) (by kernel_rfl) (by simp) ?_
                refine AllReadyH.cons (o := { dst := some 113, op := Go.Op.call { callee := Go.Callee.value (Go.Operand.func 10), args := #[Go.Operand.tmp 112], argTypes := #[27] }, type := 31, pos := "law.go:56", after := #[{ on := 0, ground := Go.Ground.data }], guard := none }) rfl (fun K hK => ?_) AllReadyH.nil
                go_simp
                refine (sbytes_told SX.out N hNX.out SZ hSZ.out _ (Below.refl _ _).drew).mono ?_; rintro e w9 ⟨a9, c9, rfl, x9, y9, z9⟩; have X9 := Lib.hid x9; have Y9 := Lib.hid y9; clear x9 y9 z9
                go_wp2_with fail
                refine hK.out _ _ (K8.out _ Y9.out) (fun hHeld => ?_)
                clear hK K
                (try simp only [Act.put, List.setIfInBounds_toArray, List.set_cons_zero, List.set_cons_succ])
                refine wpAnyH_switch (S2 := (fun w' => (convert 31 9 (.slice a9 N c9)).run Try.prog w' = .ok (.string SZ) w' ∧ Below w8.heap.size w8 w' ∧ w'.cell? ⟨m, 0, none⟩ = some (.slice da N dc) ∧ (convert 31 9 (.slice da N dc)).run Try.prog w' = .ok (.string SZ) w')) (fun _ h => h.2) ?_
                have hHeld : ((fun w' => (convert 31 9 (.slice a9 N c9)).run Try.prog w' = .ok (.string SZ) w' ∧ Below w8.heap.size w8 w' ∧ w'.cell? ⟨m, 0, none⟩ = some (.slice da N dc) ∧ (convert 31 9 (.slice da N dc)).run Try.prog w' = .ok (.string SZ) w')) _ := ⟨X9.out _ (Below.refl _ _), K8.out _ Y9.out⟩
                refine wpAnyH_take (i := 2) (oi := { dst := some 114, op := Go.Op.convert 31 9 (Go.Operand.tmp 113), type := 9, pos := "law.go:56", after := #[{ on := 1, ground := Go.Ground.data }], guard := none }) (v := ?_) rfl (by kernel_rfl) (by kernel_rfl) (by kernel_rfl) (fun _ _ _ h => h) (Or.inl ⟨by rfl, ?_⟩) (by assumption) ?_
                rotate_left 1
                focus ((intro wS hSw; (try dsimp only at hSw); go_simp) <;> (try with_reducible rfl))
                simp only [Act.put, List.setIfInBounds_toArray, List.set_cons_zero, List.set_cons_succ]
                refine wpAnyH_take (i := 8) (oi := { dst := some 120, op := Go.Op.binOp Go.BinOp.neq 9 (Go.Operand.tmp 114) (Go.Operand.tmp 119) 9, type := 4, pos := "law.go:56", after := #[{ on := 2, ground := Go.Ground.data }, { on := 7, ground := Go.Ground.data }], guard := none }) (v := ?_) rfl (by kernel_rfl) (by kernel_rfl) (by kernel_rfl) (fun _ _ _ h => h) (Or.inl ⟨by rfl, ?_⟩) (by assumption) ?_
                rotate_left 1
                focus ((intro wS hSw; (try dsimp only at hSw); go_simp) <;> (try with_reducible rfl))
                simp only [Act.put, List.setIfInBounds_toArray, List.set_cons_zero, List.set_cons_succ]
                refine wpAnyH_take (i := 9) (oi := { dst := some 121, op := Go.Op.move (Go.Operand.tmp 120), type := 4, pos := "law.go:56", after := #[{ on := 8, ground := Go.Ground.data }, { on := 1, ground := Go.Ground.chain }], guard := none }) (v := ?_) rfl (by kernel_rfl) (by kernel_rfl) (by kernel_rfl) (fun _ _ _ h => h) (Or.inl ⟨by rfl, ?_⟩) (by assumption) ?_
                rotate_left 1
                focus ((intro wS hSw; (try dsimp only at hSw); go_simp) <;> (try with_reducible rfl))
                simp only [Act.put, List.setIfInBounds_toArray, List.set_cons_zero, List.set_cons_succ]
                refine wpAnyH_take (i := 10) (oi := { dst := some 122, op := Go.Op.move (Go.Operand.tmp 10), type := 27, pos := "law.go:56", after := #[{ on := 9, ground := Go.Ground.guard }], guard := some (9, false) }) (v := ?_) rfl (by kernel_rfl) (by kernel_rfl) (by kernel_rfl) (fun _ _ _ h => h) (Or.inl ⟨by rfl, ?_⟩) (by assumption) ?_
                rotate_left 1
                focus ((intro wS hSw; (try dsimp only at hSw); go_simp) <;> (try with_reducible rfl))
                simp only [Act.put, List.setIfInBounds_toArray, List.set_cons_zero, List.set_cons_succ]
                refine wpAnyH_take (i := 12) (oi := { dst := some 124, op := Go.Op.move (Go.Operand.tmp 11), type := 38, pos := "law.go:56", after := #[{ on := 9, ground := Go.Ground.guard }], guard := some (9, false) }) (v := ?_) rfl (by kernel_rfl) (by kernel_rfl) (by kernel_rfl) (fun _ _ _ h => h) (Or.inl ⟨by rfl, ?_⟩) (by assumption) ?_
                rotate_left 1
                focus ((intro wS hSw; (try dsimp only at hSw); go_simp) <;> (try with_reducible rfl))
                simp only [Act.put, List.setIfInBounds_toArray, List.set_cons_zero, List.set_cons_succ]
                refine wpAnyH_take (i := 13) (oi := { dst := some 125, op := Go.Op.nilCheck (Go.Operand.tmp 124), type := 0, pos := "law.go:56", after := #[{ on := 12, ground := Go.Ground.data }, { on := 9, ground := Go.Ground.guard }], guard := some (9, false) }) (v := ?_) rfl (by kernel_rfl) (by kernel_rfl) (by kernel_rfl) (fun _ _ _ h => h) (Or.inl ⟨by rfl, ?_⟩) (by assumption) ?_
                rotate_left 1
                focus ((intro wS hSw; (try dsimp only at hSw); go_simp) <;> (try with_reducible rfl))
                simp only [Act.put, List.setIfInBounds_toArray, List.set_cons_zero, List.set_cons_succ]
                refine wpAnyH_take (i := 14) (oi := { dst := some 126, op := Go.Op.fieldAddr 44 (Go.Operand.tmp 125) 0, type := 0, pos := "law.go:56", after := #[{ on := 13, ground := Go.Ground.data }, { on := 9, ground := Go.Ground.guard }], guard := some (9, false) }) (v := ?_) rfl (by kernel_rfl) (by kernel_rfl) (by kernel_rfl) (fun _ _ _ h => h) (Or.inl ⟨by rfl, ?_⟩) (by assumption) ?_
                rotate_left 1
                focus ((intro wS hSw; (try dsimp only at hSw); go_simp) <;> (try with_reducible rfl))
                simp only [Act.put, List.setIfInBounds_toArray, List.set_cons_zero, List.set_cons_succ]
                refine wpAnyH_take (i := 15) (oi := { dst := some 127, op := Go.Op.load 31 (Go.Operand.tmp 126), type := 31, pos := "law.go:56", after := #[{ on := 14, ground := Go.Ground.data }, { on := 9, ground := Go.Ground.guard }], guard := some (9, false) }) (v := ?_) rfl (by kernel_rfl) (by kernel_rfl) (by kernel_rfl) (fun _ _ _ h => h) (Or.inl ⟨by rfl, ?_⟩) (by assumption) ?_
                rotate_left 1
                focus ((intro wS hSw; (try dsimp only at hSw); go_simp) <;> (try with_reducible rfl))
                simp only [Act.put, List.setIfInBounds_toArray, List.set_cons_zero, List.set_cons_succ]
                refine wpAnyH_take (i := 16) (oi := { dst := some 128, op := Go.Op.call { callee := Go.Callee.builtin Go.Builtin.len, args := #[Go.Operand.tmp 127], argTypes := #[31] }, type := 3, pos := "law.go:56", after := #[{ on := 15, ground := Go.Ground.data }, { on := 9, ground := Go.Ground.guard }], guard := some (9, false) }) (v := ?_) rfl (by kernel_rfl) (by kernel_rfl) (by kernel_rfl) (fun _ _ _ h => h) (Or.inl ⟨by rfl, ?_⟩) (by assumption) ?_
                rotate_left 1
                focus ((intro wS hSw; (try dsimp only at hSw); go_simp) <;> (try with_reducible rfl))
                simp only [Act.put, List.setIfInBounds_toArray, List.set_cons_zero, List.set_cons_succ]
                refine wpAnyH_ready (rs := [11]) (by kernel_rfl) (by simp) ?_
                refine AllReadyH.cons (o := { dst := some 123, op := Go.Op.call { callee := Go.Callee.value (Go.Operand.func 11), args := #[Go.Operand.tmp 122], argTypes := #[27] }, type := 2, pos := "law.go:56", after := #[{ on := 10, ground := Go.Ground.data }, { on := 9, ground := Go.Ground.chain }, { on := 9, ground := Go.Ground.guard }], guard := some (9, false) }) rfl (fun K hK => ?_) AllReadyH.nil
                go_simp
                refine (slen_told SX.out N hNX.out _ Y9.out).mono ?_; rintro e w11 ⟨rfl, rfl⟩
                go_wp2_with fail
                refine hK.out _ _ (⟨X9.out _ (Below.refl _ _), K8.out _ Y9.out⟩) (fun hHeld => ?_)
                clear hK K
                (try simp only [Act.put, List.setIfInBounds_toArray, List.set_cons_zero, List.set_cons_succ])
                refine wpAnyH_take (i := 17) (oi := { dst := some 129, op := Go.Op.binOp Go.BinOp.neq 2 (Go.Operand.tmp 123) (Go.Operand.tmp 128) 2, type := 4, pos := "law.go:56", after := #[{ on := 11, ground := Go.Ground.data }, { on := 16, ground := Go.Ground.data }, { on := 9, ground := Go.Ground.guard }], guard := some (9, false) }) (v := ?_) rfl (by kernel_rfl) (by kernel_rfl) (by kernel_rfl) (fun _ _ _ h => h) (Or.inl ⟨by rfl, ?_⟩) (by assumption) ?_
                rotate_left 1
                focus ((intro wS hSw; (try dsimp only at hSw); go_simp) <;> (try with_reducible rfl))
                simp only [Act.put, List.setIfInBounds_toArray, List.set_cons_zero, List.set_cons_succ]
                refine wpAnyH_take (i := 18) (oi := { dst := some 130, op := Go.Op.pick (Go.Operand.tmp 121) (Go.Operand.const (Go.Value.bool true)) (Go.Operand.tmp 129), type := 4, pos := "law.go:56", after := #[{ on := 9, ground := Go.Ground.data }, { on := 17, ground := Go.Ground.data }], guard := none }) (v := ?_) rfl (by kernel_rfl) (by kernel_rfl) (by kernel_rfl) (fun _ _ _ h => h) (Or.inl ⟨by rfl, ?_⟩) (by assumption) ?_
                rotate_left 1
                focus ((intro wS hSw; (try dsimp only at hSw); go_simp) <;> (try with_reducible rfl))
                simp only [Act.put, List.setIfInBounds_toArray, List.set_cons_zero, List.set_cons_succ]
                refine wpAnyH_done (by kernel_rfl) ?_ _
                go_wp2_with fail
                go_roundw
                case rel => exact ⟨Grow S1 wr w7, Grow S2 w7 w8, X, j + 1, R, by omega, by go_num, by rw [TS.out, hX.out, List.length_append, List.length_take, YL.out]; have := HYL.out; omega, fun k hk => ⟨(hG.out k hk).1, fun h => h.elim (hG.out k hk).2 (fun h => by have := S7.out.lt k hk; omega)⟩, fun k hk => hk.elim (HS2.out k) (fun h => Nat.le_trans B7.out.size h.1), SX.out.below Y9.out, R8.out.only (T := fun _ => False) (.of_below Y9.out (Nat.le_refl _)) (fun _ _ h => h), B8.out.trans (Y9.out.mono B8.out.size)⟩
                case measure => simp [intOf]; omega
              | false =>
                obtain ⟨K, hK⟩ := named (wrK cs F L r yl)
                obtain ⟨R, hR⟩ := named (wrR F L r yl)
                obtain ⟨E, hE⟩ := named (wrE F L yl)
                have hKl : Hid (K ≤ yl) := by show _ ≤ _; rw [hK.out]; exact wrK_le _ _ _ _ _
                go_wp2_with fail
                refine (snk_write ya yl yc zs wr SS.out (YBA.out _ BR.out) YL.out YC.out (by rw [← hL.out]; omega) hFF).mono ?_; rintro e w7 ⟨rfl, s7, o7⟩
                rw [← hL.out, ← hK.out, ← hR.out] at s7
                rw [← hL.out, ← hK.out, ← hE.out]
                have S7 := Lib.hid s7; have Q7 := Lib.hid o7
                have R7 := Lib.hid (RR.out.only o7 (fun k hk h => (HS1.out k h).2 hk))
                have B7 := Lib.hid (BR.out.trans (o7.below (B := w2.heap.size) (fun k hk => (HS1.out k hk).1) BR.out.size))
                clear s7 o7
                go_wp2_with fail
                refine (rsk_write ya yl yc zs w7 R7.out (YBA.out _ B7.out) YL.out YC.out (by rw [← hL.out]; omega) hFF).mono ?_; rintro e w8 ⟨rfl, r8, o8⟩
                rw [← hL.out, ← hK.out, ← hR.out] at r8
                rw [← hL.out, ← hK.out, ← hE.out]
                have R8 := Lib.hid r8; have Q8 := Lib.hid o8
                have hG : Hid (∀ k, Grow S1 wr w7 k → w2.heap.size ≤ k ∧ ¬ S2 k) := fun k hk => hk.elim (HS1.out k) (fun h => ⟨Nat.le_trans BR.out.size h.1, fun h2 => by have := RR.out.lt k h2; omega⟩)
                have SX := Lib.hid (S7.out.only o8 (fun k hk h => (hG.out k hk).2 h))
                have B8 := Lib.hid (B7.out.trans (o8.below (B := w2.heap.size) HS2.out B7.out.size))
                clear r8 o8
                obtain ⟨X, hX⟩ := named (ys ++ zs.take K)
                rw [← hX.out] at R8 SX
                obtain ⟨N, hN⟩ := named X.length
                have hNX : Hid (X.length = N) := hN.out.symm
                have hN4 : (N : Int) ≤ 10000 := by have h : X.length = ys.length + (zs.take K).length := by rw [hX.out, List.length_append]
                                                   have h2 : (zs.take K).length ≤ yl := by rw [List.length_take, YL.out]; omega
                                                   have := hN.out; omega
                obtain ⟨SZ, hSZ⟩ := named (strOfNums X)
                obtain ⟨da, dc, k8⟩ := R8.out.told N hNX.out SZ hSZ.out
                have K8 := Lib.hid k8
                clear k8
                go_wp2_with fail
                refine wp_region_held_drew (S := (fun w' => Below w8.heap.size w8 w' ∧ w'.cell? ⟨m, 0, none⟩ = some (.slice da N dc) ∧ (convert 31 9 (.slice da N dc)).run Try.prog w' = .ok (.string SZ) w')) (by kernel_rfl) (K8.out _ (Below.refl _ _).drew) (fun hHeld => ?_)
                refine wpAnyH_take (i := 0) (oi := { dst := some 112, op := Go.Op.move (Go.Operand.tmp 10), type := 27, pos := "law.go:56", after := #[], guard := none }) (v := ?_) rfl (by kernel_rfl) (by kernel_rfl) (by kernel_rfl) (fun _ _ _ h => h) (Or.inl ⟨by rfl, ?_⟩) (by assumption) ?_
                rotate_left 1
                focus ((intro wS hSw; (try dsimp only at hSw); go_simp) <;> (try with_reducible rfl))
                simp only [Act.put, List.setIfInBounds_toArray, List.set_cons_zero, List.set_cons_succ]
                refine wpAnyH_take (i := 3) (oi := { dst := some 115, op := Go.Op.move (Go.Operand.tmp 11), type := 38, pos := "law.go:56", after := #[], guard := none }) (v := ?_) rfl (by kernel_rfl) (by kernel_rfl) (by kernel_rfl) (fun _ _ _ h => h) (Or.inl ⟨by rfl, ?_⟩) (by assumption) ?_
                rotate_left 1
                focus ((intro wS hSw; (try dsimp only at hSw); go_simp) <;> (try with_reducible rfl))
                simp only [Act.put, List.setIfInBounds_toArray, List.set_cons_zero, List.set_cons_succ]
                refine wpAnyH_take (i := 4) (oi := { dst := some 116, op := Go.Op.nilCheck (Go.Operand.tmp 115), type := 0, pos := "law.go:56", after := #[{ on := 3, ground := Go.Ground.data }], guard := none }) (v := ?_) rfl (by kernel_rfl) (by kernel_rfl) (by kernel_rfl) (fun _ _ _ h => h) (Or.inl ⟨by rfl, ?_⟩) (by assumption) ?_
                rotate_left 1
                focus ((intro wS hSw; (try dsimp only at hSw); go_simp) <;> (try with_reducible rfl))
                simp only [Act.put, List.setIfInBounds_toArray, List.set_cons_zero, List.set_cons_succ]
                refine wpAnyH_take (i := 5) (oi := { dst := some 117, op := Go.Op.fieldAddr 44 (Go.Operand.tmp 116) 0, type := 0, pos := "law.go:56", after := #[{ on := 4, ground := Go.Ground.data }], guard := none }) (v := ?_) rfl (by kernel_rfl) (by kernel_rfl) (by kernel_rfl) (fun _ _ _ h => h) (Or.inl ⟨by rfl, ?_⟩) (by assumption) ?_
                rotate_left 1
                focus ((intro wS hSw; (try dsimp only at hSw); go_simp) <;> (try with_reducible rfl))
                simp only [Act.put, List.setIfInBounds_toArray, List.set_cons_zero, List.set_cons_succ]
                refine wpAnyH_take (i := 6) (oi := { dst := some 118, op := Go.Op.load 31 (Go.Operand.tmp 117), type := 31, pos := "law.go:56", after := #[{ on := 5, ground := Go.Ground.data }], guard := none }) (v := ?_) rfl (by kernel_rfl) (by kernel_rfl) (by kernel_rfl) (fun _ _ _ h => h) (Or.inl ⟨by rfl, ?_⟩) (by assumption) ?_
                rotate_left 1
                focus ((intro wS hSw; (try dsimp only at hSw); go_simp) <;> (try with_reducible rfl))
                simp only [Act.put, List.setIfInBounds_toArray, List.set_cons_zero, List.set_cons_succ]
                refine wpAnyH_take (i := 7) (oi := { dst := some 119, op := Go.Op.convert 31 9 (Go.Operand.tmp 118), type := 9, pos := "law.go:56", after := #[{ on := 6, ground := Go.Ground.data }], guard := none }) (v := ?_) rfl (by kernel_rfl) (by kernel_rfl) (by kernel_rfl) (fun _ _ _ h => h) (Or.inl ⟨by rfl, ?_⟩) (by assumption) ?_
                rotate_left 1
                focus ((intro wS hSw; (try dsimp only at hSw); go_simp) <;> (try with_reducible rfl))
                simp only [Act.put, List.setIfInBounds_toArray, List.set_cons_zero, List.set_cons_succ]
                refine wpAnyH_ready (rs := [1]) (by kernel_rfl) (by simp) ?_
                refine AllReadyH.cons (o := { dst := some 113, op := Go.Op.call { callee := Go.Callee.value (Go.Operand.func 10), args := #[Go.Operand.tmp 112], argTypes := #[27] }, type := 31, pos := "law.go:56", after := #[{ on := 0, ground := Go.Ground.data }], guard := none }) rfl (fun K hK => ?_) AllReadyH.nil
                go_simp
                refine (sbytes_told SX.out N hNX.out SZ hSZ.out _ (Below.refl _ _).drew).mono ?_; rintro e w9 ⟨a9, c9, rfl, x9, y9, z9⟩; have X9 := Lib.hid x9; have Y9 := Lib.hid y9; clear x9 y9 z9
                go_wp2_with fail
                refine hK.out _ _ (K8.out _ Y9.out) (fun hHeld => ?_)
                clear hK K
                (try simp only [Act.put, List.setIfInBounds_toArray, List.set_cons_zero, List.set_cons_succ])
                refine wpAnyH_switch (S2 := (fun w' => (convert 31 9 (.slice a9 N c9)).run Try.prog w' = .ok (.string SZ) w' ∧ Below w8.heap.size w8 w' ∧ w'.cell? ⟨m, 0, none⟩ = some (.slice da N dc) ∧ (convert 31 9 (.slice da N dc)).run Try.prog w' = .ok (.string SZ) w')) (fun _ h => h.2) ?_
                have hHeld : ((fun w' => (convert 31 9 (.slice a9 N c9)).run Try.prog w' = .ok (.string SZ) w' ∧ Below w8.heap.size w8 w' ∧ w'.cell? ⟨m, 0, none⟩ = some (.slice da N dc) ∧ (convert 31 9 (.slice da N dc)).run Try.prog w' = .ok (.string SZ) w')) _ := ⟨X9.out _ (Below.refl _ _), K8.out _ Y9.out⟩
                refine wpAnyH_take (i := 2) (oi := { dst := some 114, op := Go.Op.convert 31 9 (Go.Operand.tmp 113), type := 9, pos := "law.go:56", after := #[{ on := 1, ground := Go.Ground.data }], guard := none }) (v := ?_) rfl (by kernel_rfl) (by kernel_rfl) (by kernel_rfl) (fun _ _ _ h => h) (Or.inl ⟨by rfl, ?_⟩) (by assumption) ?_
                rotate_left 1
                focus ((intro wS hSw; (try dsimp only at hSw); go_simp) <;> (try with_reducible rfl))
                simp only [Act.put, List.setIfInBounds_toArray, List.set_cons_zero, List.set_cons_succ]
                refine wpAnyH_take (i := 8) (oi := { dst := some 120, op := Go.Op.binOp Go.BinOp.neq 9 (Go.Operand.tmp 114) (Go.Operand.tmp 119) 9, type := 4, pos := "law.go:56", after := #[{ on := 2, ground := Go.Ground.data }, { on := 7, ground := Go.Ground.data }], guard := none }) (v := ?_) rfl (by kernel_rfl) (by kernel_rfl) (by kernel_rfl) (fun _ _ _ h => h) (Or.inl ⟨by rfl, ?_⟩) (by assumption) ?_
                rotate_left 1
                focus ((intro wS hSw; (try dsimp only at hSw); go_simp) <;> (try with_reducible rfl))
                simp only [Act.put, List.setIfInBounds_toArray, List.set_cons_zero, List.set_cons_succ]
                refine wpAnyH_take (i := 9) (oi := { dst := some 121, op := Go.Op.move (Go.Operand.tmp 120), type := 4, pos := "law.go:56", after := #[{ on := 8, ground := Go.Ground.data }, { on := 1, ground := Go.Ground.chain }], guard := none }) (v := ?_) rfl (by kernel_rfl) (by kernel_rfl) (by kernel_rfl) (fun _ _ _ h => h) (Or.inl ⟨by rfl, ?_⟩) (by assumption) ?_
                rotate_left 1
                focus ((intro wS hSw; (try dsimp only at hSw); go_simp) <;> (try with_reducible rfl))
                simp only [Act.put, List.setIfInBounds_toArray, List.set_cons_zero, List.set_cons_succ]
                refine wpAnyH_take (i := 10) (oi := { dst := some 122, op := Go.Op.move (Go.Operand.tmp 10), type := 27, pos := "law.go:56", after := #[{ on := 9, ground := Go.Ground.guard }], guard := some (9, false) }) (v := ?_) rfl (by kernel_rfl) (by kernel_rfl) (by kernel_rfl) (fun _ _ _ h => h) (Or.inl ⟨by rfl, ?_⟩) (by assumption) ?_
                rotate_left 1
                focus ((intro wS hSw; (try dsimp only at hSw); go_simp) <;> (try with_reducible rfl))
                simp only [Act.put, List.setIfInBounds_toArray, List.set_cons_zero, List.set_cons_succ]
                refine wpAnyH_take (i := 12) (oi := { dst := some 124, op := Go.Op.move (Go.Operand.tmp 11), type := 38, pos := "law.go:56", after := #[{ on := 9, ground := Go.Ground.guard }], guard := some (9, false) }) (v := ?_) rfl (by kernel_rfl) (by kernel_rfl) (by kernel_rfl) (fun _ _ _ h => h) (Or.inl ⟨by rfl, ?_⟩) (by assumption) ?_
                rotate_left 1
                focus ((intro wS hSw; (try dsimp only at hSw); go_simp) <;> (try with_reducible rfl))
                simp only [Act.put, List.setIfInBounds_toArray, List.set_cons_zero, List.set_cons_succ]
                refine wpAnyH_take (i := 13) (oi := { dst := some 125, op := Go.Op.nilCheck (Go.Operand.tmp 124), type := 0, pos := "law.go:56", after := #[{ on := 12, ground := Go.Ground.data }, { on := 9, ground := Go.Ground.guard }], guard := some (9, false) }) (v := ?_) rfl (by kernel_rfl) (by kernel_rfl) (by kernel_rfl) (fun _ _ _ h => h) (Or.inl ⟨by rfl, ?_⟩) (by assumption) ?_
                rotate_left 1
                focus ((intro wS hSw; (try dsimp only at hSw); go_simp) <;> (try with_reducible rfl))
                simp only [Act.put, List.setIfInBounds_toArray, List.set_cons_zero, List.set_cons_succ]
                refine wpAnyH_take (i := 14) (oi := { dst := some 126, op := Go.Op.fieldAddr 44 (Go.Operand.tmp 125) 0, type := 0, pos := "law.go:56", after := #[{ on := 13, ground := Go.Ground.data }, { on := 9, ground := Go.Ground.guard }], guard := some (9, false) }) (v := ?_) rfl (by kernel_rfl) (by kernel_rfl) (by kernel_rfl) (fun _ _ _ h => h) (Or.inl ⟨by rfl, ?_⟩) (by assumption) ?_
                rotate_left 1
                focus ((intro wS hSw; (try dsimp only at hSw); go_simp) <;> (try with_reducible rfl))
                simp only [Act.put, List.setIfInBounds_toArray, List.set_cons_zero, List.set_cons_succ]
                refine wpAnyH_take (i := 15) (oi := { dst := some 127, op := Go.Op.load 31 (Go.Operand.tmp 126), type := 31, pos := "law.go:56", after := #[{ on := 14, ground := Go.Ground.data }, { on := 9, ground := Go.Ground.guard }], guard := some (9, false) }) (v := ?_) rfl (by kernel_rfl) (by kernel_rfl) (by kernel_rfl) (fun _ _ _ h => h) (Or.inl ⟨by rfl, ?_⟩) (by assumption) ?_
                rotate_left 1
                focus ((intro wS hSw; (try dsimp only at hSw); go_simp) <;> (try with_reducible rfl))
                simp only [Act.put, List.setIfInBounds_toArray, List.set_cons_zero, List.set_cons_succ]
                refine wpAnyH_take (i := 16) (oi := { dst := some 128, op := Go.Op.call { callee := Go.Callee.builtin Go.Builtin.len, args := #[Go.Operand.tmp 127], argTypes := #[31] }, type := 3, pos := "law.go:56", after := #[{ on := 15, ground := Go.Ground.data }, { on := 9, ground := Go.Ground.guard }], guard := some (9, false) }) (v := ?_) rfl (by kernel_rfl) (by kernel_rfl) (by kernel_rfl) (fun _ _ _ h => h) (Or.inl ⟨by rfl, ?_⟩) (by assumption) ?_
                rotate_left 1
                focus ((intro wS hSw; (try dsimp only at hSw); go_simp) <;> (try with_reducible rfl))
                simp only [Act.put, List.setIfInBounds_toArray, List.set_cons_zero, List.set_cons_succ]
                refine wpAnyH_ready (rs := [11]) (by kernel_rfl) (by simp) ?_
                refine AllReadyH.cons (o := { dst := some 123, op := Go.Op.call { callee := Go.Callee.value (Go.Operand.func 11), args := #[Go.Operand.tmp 122], argTypes := #[27] }, type := 2, pos := "law.go:56", after := #[{ on := 10, ground := Go.Ground.data }, { on := 9, ground := Go.Ground.chain }, { on := 9, ground := Go.Ground.guard }], guard := some (9, false) }) rfl (fun K hK => ?_) AllReadyH.nil
                go_simp
                refine (slen_told SX.out N hNX.out _ Y9.out).mono ?_; rintro e w11 ⟨rfl, rfl⟩
                go_wp2_with fail
                refine hK.out _ _ (⟨X9.out _ (Below.refl _ _), K8.out _ Y9.out⟩) (fun hHeld => ?_)
                clear hK K
                (try simp only [Act.put, List.setIfInBounds_toArray, List.set_cons_zero, List.set_cons_succ])
                refine wpAnyH_take (i := 17) (oi := { dst := some 129, op := Go.Op.binOp Go.BinOp.neq 2 (Go.Operand.tmp 123) (Go.Operand.tmp 128) 2, type := 4, pos := "law.go:56", after := #[{ on := 11, ground := Go.Ground.data }, { on := 16, ground := Go.Ground.data }, { on := 9, ground := Go.Ground.guard }], guard := some (9, false) }) (v := ?_) rfl (by kernel_rfl) (by kernel_rfl) (by kernel_rfl) (fun _ _ _ h => h) (Or.inl ⟨by rfl, ?_⟩) (by assumption) ?_
                rotate_left 1
                focus ((intro wS hSw; (try dsimp only at hSw); go_simp) <;> (try with_reducible rfl))
                simp only [Act.put, List.setIfInBounds_toArray, List.set_cons_zero, List.set_cons_succ]
                refine wpAnyH_take (i := 18) (oi := { dst := some 130, op := Go.Op.pick (Go.Operand.tmp 121) (Go.Operand.const (Go.Value.bool true)) (Go.Operand.tmp 129), type := 4, pos := "law.go:56", after := #[{ on := 9, ground := Go.Ground.data }, { on := 17, ground := Go.Ground.data }], guard := none }) (v := ?_) rfl (by kernel_rfl) (by kernel_rfl) (by kernel_rfl) (fun _ _ _ h => h) (Or.inl ⟨by rfl, ?_⟩) (by assumption) ?_
                rotate_left 1
                focus ((intro wS hSw; (try dsimp only at hSw); go_simp) <;> (try with_reducible rfl))
                simp only [Act.put, List.setIfInBounds_toArray, List.set_cons_zero, List.set_cons_succ]
                refine wpAnyH_done (by kernel_rfl) ?_ _
                go_wp2_with fail
                go_roundw
                case rel => exact ⟨Grow S1 wr w7, Grow S2 w7 w8, X, j + 1, R, by omega, by go_num, by rw [TS.out, hX.out, List.length_append, List.length_take, YL.out]; have := HYL.out; omega, fun k hk => ⟨(hG.out k hk).1, fun h => h.elim (hG.out k hk).2 (fun h => by have := S7.out.lt k hk; omega)⟩, fun k hk => hk.elim (HS2.out k) (fun h => Nat.le_trans B7.out.size h.1), SX.out.below Y9.out, R8.out.only (T := fun _ => False) (.of_below Y9.out (Nat.le_refl _)) (fun _ _ h => h), B8.out.trans (Y9.out.mono B8.out.size)⟩
                case measure => simp [intOf]; omega
            · have hpl' : ¬ (j : Int) < pl := by omega
              obtain ⟨K, hK⟩ := named (wrK cs F L r yl)
              obtain ⟨R, hR⟩ := named (wrR F L r yl)
              obtain ⟨E, hE⟩ := named (wrE F L yl)
              have hKl : Hid (K ≤ yl) := by show _ ≤ _; rw [hK.out]; exact wrK_le _ _ _ _ _
              go_wp2_with fail
              refine (snk_write ya yl yc zs wr SS.out (YBA.out _ BR.out) YL.out YC.out (by rw [← hL.out]; omega) hFF).mono ?_; rintro e w7 ⟨rfl, s7, o7⟩
              rw [← hL.out, ← hK.out, ← hR.out] at s7
              rw [← hL.out, ← hK.out, ← hE.out]
              have S7 := Lib.hid s7; have Q7 := Lib.hid o7
              have R7 := Lib.hid (RR.out.only o7 (fun k hk h => (HS1.out k h).2 hk))
              have B7 := Lib.hid (BR.out.trans (o7.below (B := w2.heap.size) (fun k hk => (HS1.out k hk).1) BR.out.size))
              clear s7 o7
              go_wp2_with fail
              refine (rsk_write ya yl yc zs w7 R7.out (YBA.out _ B7.out) YL.out YC.out (by rw [← hL.out]; omega) hFF).mono ?_; rintro e w8 ⟨rfl, r8, o8⟩
              rw [← hL.out, ← hK.out, ← hR.out] at r8
              rw [← hL.out, ← hK.out, ← hE.out]
              have R8 := Lib.hid r8; have Q8 := Lib.hid o8
              have hG : Hid (∀ k, Grow S1 wr w7 k → w2.heap.size ≤ k ∧ ¬ S2 k) := fun k hk => hk.elim (HS1.out k) (fun h => ⟨Nat.le_trans BR.out.size h.1, fun h2 => by have := RR.out.lt k h2; omega⟩)
              have SX := Lib.hid (S7.out.only o8 (fun k hk h => (hG.out k hk).2 h))
              have B8 := Lib.hid (B7.out.trans (o8.below (B := w2.heap.size) HS2.out B7.out.size))
              clear r8 o8
              obtain ⟨X, hX⟩ := named (ys ++ zs.take K)
              rw [← hX.out] at R8 SX
              obtain ⟨N, hN⟩ := named X.length
              have hNX : Hid (X.length = N) := hN.out.symm
              have hN4 : (N : Int) ≤ 10000 := by have h : X.length = ys.length + (zs.take K).length := by rw [hX.out, List.length_append]
                                                 have h2 : (zs.take K).length ≤ yl := by rw [List.length_take, YL.out]; omega
                                                 have := hN.out; omega
              obtain ⟨SZ, hSZ⟩ := named (strOfNums X)
              obtain ⟨da, dc, k8⟩ := R8.out.told N hNX.out SZ hSZ.out
              have K8 := Lib.hid k8
              clear k8
              go_wp2_with fail
              refine wp_region_held_drew (S := (fun w' => Below w8.heap.size w8 w' ∧ w'.cell? ⟨m, 0, none⟩ = some (.slice da N dc) ∧ (convert 31 9 (.slice da N dc)).run Try.prog w' = .ok (.string SZ) w')) (by kernel_rfl) (K8.out _ (Below.refl _ _).drew) (fun hHeld => ?_)
              refine wpAnyH_take (i := 0) (oi := { dst := some 112, op := Go.Op.move (Go.Operand.tmp 10), type := 27, pos := "law.go:56", after := #[], guard := none }) (v := ?_) rfl (by kernel_rfl) (by kernel_rfl) (by kernel_rfl) (fun _ _ _ h => h) (Or.inl ⟨by rfl, ?_⟩) (by assumption) ?_
              rotate_left 1
              focus ((intro wS hSw; (try dsimp only at hSw); go_simp) <;> (try with_reducible rfl))
              simp only [Act.put, List.setIfInBounds_toArray, List.set_cons_zero, List.set_cons_succ]
              refine wpAnyH_take (i := 3) (oi := { dst := some 115, op := Go.Op.move (Go.Operand.tmp 11), type := 38, pos := "law.go:56", after := #[], guard := none }) (v := ?_) rfl (by kernel_rfl) (by kernel_rfl) (by kernel_rfl) (fun _ _ _ h => h) (Or.inl ⟨by rfl, ?_⟩) (by assumption) ?_
              rotate_left 1
              focus ((intro wS hSw; (try dsimp only at hSw); go_simp) <;> (try with_reducible rfl))
              simp only [Act.put, List.setIfInBounds_toArray, List.set_cons_zero, List.set_cons_succ]
              refine wpAnyH_take (i := 4) (oi := { dst := some 116, op := Go.Op.nilCheck (Go.Operand.tmp 115), type := 0, pos := "law.go:56", after := #[{ on := 3, ground := Go.Ground.data }], guard := none }) (v := ?_) rfl (by kernel_rfl) (by kernel_rfl) (by kernel_rfl) (fun _ _ _ h => h) (Or.inl ⟨by rfl, ?_⟩) (by assumption) ?_
              rotate_left 1
              focus ((intro wS hSw; (try dsimp only at hSw); go_simp) <;> (try with_reducible rfl))
              simp only [Act.put, List.setIfInBounds_toArray, List.set_cons_zero, List.set_cons_succ]
              refine wpAnyH_take (i := 5) (oi := { dst := some 117, op := Go.Op.fieldAddr 44 (Go.Operand.tmp 116) 0, type := 0, pos := "law.go:56", after := #[{ on := 4, ground := Go.Ground.data }], guard := none }) (v := ?_) rfl (by kernel_rfl) (by kernel_rfl) (by kernel_rfl) (fun _ _ _ h => h) (Or.inl ⟨by rfl, ?_⟩) (by assumption) ?_
              rotate_left 1
              focus ((intro wS hSw; (try dsimp only at hSw); go_simp) <;> (try with_reducible rfl))
              simp only [Act.put, List.setIfInBounds_toArray, List.set_cons_zero, List.set_cons_succ]
              refine wpAnyH_take (i := 6) (oi := { dst := some 118, op := Go.Op.load 31 (Go.Operand.tmp 117), type := 31, pos := "law.go:56", after := #[{ on := 5, ground := Go.Ground.data }], guard := none }) (v := ?_) rfl (by kernel_rfl) (by kernel_rfl) (by kernel_rfl) (fun _ _ _ h => h) (Or.inl ⟨by rfl, ?_⟩) (by assumption) ?_
              rotate_left 1
              focus ((intro wS hSw; (try dsimp only at hSw); go_simp) <;> (try with_reducible rfl))
              simp only [Act.put, List.setIfInBounds_toArray, List.set_cons_zero, List.set_cons_succ]
              refine wpAnyH_take (i := 7) (oi := { dst := some 119, op := Go.Op.convert 31 9 (Go.Operand.tmp 118), type := 9, pos := "law.go:56", after := #[{ on := 6, ground := Go.Ground.data }], guard := none }) (v := ?_) rfl (by kernel_rfl) (by kernel_rfl) (by kernel_rfl) (fun _ _ _ h => h) (Or.inl ⟨by rfl, ?_⟩) (by assumption) ?_
              rotate_left 1
              focus ((intro wS hSw; (try dsimp only at hSw); go_simp) <;> (try with_reducible rfl))
              simp only [Act.put, List.setIfInBounds_toArray, List.set_cons_zero, List.set_cons_succ]
              refine wpAnyH_ready (rs := [1]) (by kernel_rfl) (by simp) ?_
              refine AllReadyH.cons (o := { dst := some 113, op := Go.Op.call { callee := Go.Callee.value (Go.Operand.func 10), args := #[Go.Operand.tmp 112], argTypes := #[27] }, type := 31, pos := "law.go:56", after := #[{ on := 0, ground := Go.Ground.data }], guard := none }) rfl (fun K hK => ?_) AllReadyH.nil
              go_simp
              refine (sbytes_told SX.out N hNX.out SZ hSZ.out _ (Below.refl _ _).drew).mono ?_; rintro e w9 ⟨a9, c9, rfl, x9, y9, z9⟩; have X9 := Lib.hid x9; have Y9 := Lib.hid y9; clear x9 y9 z9
              go_wp2_with fail
              refine hK.out _ _ (K8.out _ Y9.out) (fun hHeld => ?_)
              clear hK K
              (try simp only [Act.put, List.setIfInBounds_toArray, List.set_cons_zero, List.set_cons_succ])
              refine wpAnyH_switch (S2 := (fun w' => (convert 31 9 (.slice a9 N c9)).run Try.prog w' = .ok (.string SZ) w' ∧ Below w8.heap.size w8 w' ∧ w'.cell? ⟨m, 0, none⟩ = some (.slice da N dc) ∧ (convert 31 9 (.slice da N dc)).run Try.prog w' = .ok (.string SZ) w')) (fun _ h => h.2) ?_
              have hHeld : ((fun w' => (convert 31 9 (.slice a9 N c9)).run Try.prog w' = .ok (.string SZ) w' ∧ Below w8.heap.size w8 w' ∧ w'.cell? ⟨m, 0, none⟩ = some (.slice da N dc) ∧ (convert 31 9 (.slice da N dc)).run Try.prog w' = .ok (.string SZ) w')) _ := ⟨X9.out _ (Below.refl _ _), K8.out _ Y9.out⟩
              refine wpAnyH_take (i := 2) (oi := { dst := some 114, op := Go.Op.convert 31 9 (Go.Operand.tmp 113), type := 9, pos := "law.go:56", after := #[{ on := 1, ground := Go.Ground.data }], guard := none }) (v := ?_) rfl (by kernel_rfl) (by kernel_rfl) (by kernel_rfl) (fun _ _ _ h => h) (Or.inl ⟨by rfl, ?_⟩) (by assumption) ?_
              rotate_left 1
              focus ((intro wS hSw; (try dsimp only at hSw); go_simp) <;> (try with_reducible rfl))
              simp only [Act.put, List.setIfInBounds_toArray, List.set_cons_zero, List.set_cons_succ]
              refine wpAnyH_take (i := 8) (oi := { dst := some 120, op := Go.Op.binOp Go.BinOp.neq 9 (Go.Operand.tmp 114) (Go.Operand.tmp 119) 9, type := 4, pos := "law.go:56", after := #[{ on := 2, ground := Go.Ground.data }, { on := 7, ground := Go.Ground.data }], guard := none }) (v := ?_) rfl (by kernel_rfl) (by kernel_rfl) (by kernel_rfl) (fun _ _ _ h => h) (Or.inl ⟨by rfl, ?_⟩) (by assumption) ?_
              rotate_left 1
              focus ((intro wS hSw; (try dsimp only at hSw); go_simp) <;> (try with_reducible rfl))
              simp only [Act.put, List.setIfInBounds_toArray, List.set_cons_zero, List.set_cons_succ]
              refine wpAnyH_take (i := 9) (oi := { dst := some 121, op := Go.Op.move (Go.Operand.tmp 120), type := 4, pos := "law.go:56", after := #[{ on := 8, ground := Go.Ground.data }, { on := 1, ground := Go.Ground.chain }], guard := none }) (v := ?_) rfl (by kernel_rfl) (by kernel_rfl) (by kernel_rfl) (fun _ _ _ h => h) (Or.inl ⟨by rfl, ?_⟩) (by assumption) ?_
              rotate_left 1
              focus ((intro wS hSw; (try dsimp only at hSw); go_simp) <;> (try with_reducible rfl))
              simp only [Act.put, List.setIfInBounds_toArray, List.set_cons_zero, List.set_cons_succ]
              refine wpAnyH_take (i := 10) (oi := { dst := some 122, op := Go.Op.move (Go.Operand.tmp 10), type := 27, pos := "law.go:56", after := #[{ on := 9, ground := Go.Ground.guard }], guard := some (9, false) }) (v := ?_) rfl (by kernel_rfl) (by kernel_rfl) (by kernel_rfl) (fun _ _ _ h => h) (Or.inl ⟨by rfl, ?_⟩) (by assumption) ?_
              rotate_left 1
              focus ((intro wS hSw; (try dsimp only at hSw); go_simp) <;> (try with_reducible rfl))
              simp only [Act.put, List.setIfInBounds_toArray, List.set_cons_zero, List.set_cons_succ]
              refine wpAnyH_take (i := 12) (oi := { dst := some 124, op := Go.Op.move (Go.Operand.tmp 11), type := 38, pos := "law.go:56", after := #[{ on := 9, ground := Go.Ground.guard }], guard := some (9, false) }) (v := ?_) rfl (by kernel_rfl) (by kernel_rfl) (by kernel_rfl) (fun _ _ _ h => h) (Or.inl ⟨by rfl, ?_⟩) (by assumption) ?_
              rotate_left 1
              focus ((intro wS hSw; (try dsimp only at hSw); go_simp) <;> (try with_reducible rfl))
              simp only [Act.put, List.setIfInBounds_toArray, List.set_cons_zero, List.set_cons_succ]
              refine wpAnyH_take (i := 13) (oi := { dst := some 125, op := Go.Op.nilCheck (Go.Operand.tmp 124), type := 0, pos := "law.go:56", after := #[{ on := 12, ground := Go.Ground.data }, { on := 9, ground := Go.Ground.guard }], guard := some (9, false) }) (v := ?_) rfl (by kernel_rfl) (by kernel_rfl) (by kernel_rfl) (fun _ _ _ h => h) (Or.inl ⟨by rfl, ?_⟩) (by assumption) ?_
              rotate_left 1
              focus ((intro wS hSw; (try dsimp only at hSw); go_simp) <;> (try with_reducible rfl))
              simp only [Act.put, List.setIfInBounds_toArray, List.set_cons_zero, List.set_cons_succ]
              refine wpAnyH_take (i := 14) (oi := { dst := some 126, op := Go.Op.fieldAddr 44 (Go.Operand.tmp 125) 0, type := 0, pos := "law.go:56", after := #[{ on := 13, ground := Go.Ground.data }, { on := 9, ground := Go.Ground.guard }], guard := some (9, false) }) (v := ?_) rfl (by kernel_rfl) (by kernel_rfl) (by kernel_rfl) (fun _ _ _ h => h) (Or.inl ⟨by rfl, ?_⟩) (by assumption) ?_
              rotate_left 1
              focus ((intro wS hSw; (try dsimp only at hSw); go_simp) <;> (try with_reducible rfl))
              simp only [Act.put, List.setIfInBounds_toArray, List.set_cons_zero, List.set_cons_succ]
              refine wpAnyH_take (i := 15) (oi := { dst := some 127, op := Go.Op.load 31 (Go.Operand.tmp 126), type := 31, pos := "law.go:56", after := #[{ on := 14, ground := Go.Ground.data }, { on := 9, ground := Go.Ground.guard }], guard := some (9, false) }) (v := ?_) rfl (by kernel_rfl) (by kernel_rfl) (by kernel_rfl) (fun _ _ _ h => h) (Or.inl ⟨by rfl, ?_⟩) (by assumption) ?_
              rotate_left 1
              focus ((intro wS hSw; (try dsimp only at hSw); go_simp) <;> (try with_reducible rfl))
              simp only [Act.put, List.setIfInBounds_toArray, List.set_cons_zero, List.set_cons_succ]
              refine wpAnyH_take (i := 16) (oi := { dst := some 128, op := Go.Op.call { callee := Go.Callee.builtin Go.Builtin.len, args := #[Go.Operand.tmp 127], argTypes := #[31] }, type := 3, pos := "law.go:56", after := #[{ on := 15, ground := Go.Ground.data }, { on := 9, ground := Go.Ground.guard }], guard := some (9, false) }) (v := ?_) rfl (by kernel_rfl) (by kernel_rfl) (by kernel_rfl) (fun _ _ _ h => h) (Or.inl ⟨by rfl, ?_⟩) (by assumption) ?_
              rotate_left 1
              focus ((intro wS hSw; (try dsimp only at hSw); go_simp) <;> (try with_reducible rfl))
              simp only [Act.put, List.setIfInBounds_toArray, List.set_cons_zero, List.set_cons_succ]
              refine wpAnyH_ready (rs := [11]) (by kernel_rfl) (by simp) ?_
              refine AllReadyH.cons (o := { dst := some 123, op := Go.Op.call { callee := Go.Callee.value (Go.Operand.func 11), args := #[Go.Operand.tmp 122], argTypes := #[27] }, type := 2, pos := "law.go:56", after := #[{ on := 10, ground := Go.Ground.data }, { on := 9, ground := Go.Ground.chain }, { on := 9, ground := Go.Ground.guard }], guard := some (9, false) }) rfl (fun K hK => ?_) AllReadyH.nil
              go_simp
              refine (slen_told SX.out N hNX.out _ Y9.out).mono ?_; rintro e w11 ⟨rfl, rfl⟩
              go_wp2_with fail
              refine hK.out _ _ (⟨X9.out _ (Below.refl _ _), K8.out _ Y9.out⟩) (fun hHeld => ?_)
              clear hK K
              (try simp only [Act.put, List.setIfInBounds_toArray, List.set_cons_zero, List.set_cons_succ])
              refine wpAnyH_take (i := 17) (oi := { dst := some 129, op := Go.Op.binOp Go.BinOp.neq 2 (Go.Operand.tmp 123) (Go.Operand.tmp 128) 2, type := 4, pos := "law.go:56", after := #[{ on := 11, ground := Go.Ground.data }, { on := 16, ground := Go.Ground.data }, { on := 9, ground := Go.Ground.guard }], guard := some (9, false) }) (v := ?_) rfl (by kernel_rfl) (by kernel_rfl) (by kernel_rfl) (fun _ _ _ h => h) (Or.inl ⟨by rfl, ?_⟩) (by assumption) ?_
              rotate_left 1
              focus ((intro wS hSw; (try dsimp only at hSw); go_simp) <;> (try with_reducible rfl))
              simp only [Act.put, List.setIfInBounds_toArray, List.set_cons_zero, List.set_cons_succ]
              refine wpAnyH_take (i := 18) (oi := { dst := some 130, op := Go.Op.pick (Go.Operand.tmp 121) (Go.Operand.const (Go.Value.bool true)) (Go.Operand.tmp 129), type := 4, pos := "law.go:56", after := #[{ on := 9, ground := Go.Ground.data }, { on := 17, ground := Go.Ground.data }], guard := none }) (v := ?_) rfl (by kernel_rfl) (by kernel_rfl) (by kernel_rfl) (fun _ _ _ h => h) (Or.inl ⟨by rfl, ?_⟩) (by assumption) ?_
              rotate_left 1
              focus ((intro wS hSw; (try dsimp only at hSw); go_simp) <;> (try with_reducible rfl))
              simp only [Act.put, List.setIfInBounds_toArray, List.set_cons_zero, List.set_cons_succ]
              refine wpAnyH_done (by kernel_rfl) ?_ _
              go_wp2_with fail
              go_roundw
              case rel => exact ⟨Grow S1 wr w7, Grow S2 w7 w8, X, j + 1, R, by omega, by go_num, by rw [TS.out, hX.out, List.length_append, List.length_take, YL.out]; have := HYL.out; omega, fun k hk => ⟨(hG.out k hk).1, fun h => h.elim (hG.out k hk).2 (fun h => by have := S7.out.lt k hk; omega)⟩, fun k hk => hk.elim (HS2.out k) (fun h => Nat.le_trans B7.out.size h.1), SX.out.below Y9.out, R8.out.only (T := fun _ => False) (.of_below Y9.out (Nat.le_refl _)) (fun _ _ h => h), B8.out.trans (Y9.out.mono B8.out.size)⟩
              case measure => simp [intOf]; omega
          · obtain rfl : len = j := by omega
            go_wp2_with fail
            refine (alive_any _).mono ?_; rintro e w6 ⟨rfl, b6⟩
            go_wp2
            go_ret
            have bb := B12.out.trans (BR.out.mono B12.out.size)
            exact ⟨rfl, bb.trans (b6.mono bb.size)⟩
end Go.Proofs.Ytodohdhbnihdbaa
