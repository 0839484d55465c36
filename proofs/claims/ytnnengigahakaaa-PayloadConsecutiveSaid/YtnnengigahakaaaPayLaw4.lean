/-
  PayloadConsecutive, walked.
-/
import Derived.Test.YtnnengigahakaaaPayAlive
import Derived.Test.YtnnengigahakaaaPayRead
import Derived.Test.YtnnengigahakaaaPayMore
import Derived.Test.YtnnengigahakaaaStructArg
import Derived.Test.YtnnengigahakaaaRowTot
import Derived.Test.YtnnengigahakaaaSwitch
namespace Go.Proofs.Ytnnengigahakaaa
open Go.RowKit

/-- the rows' bytes -/
def rowsZ (rows : List Row) : List (List Int) := rows.map fun y => y.2.2.2
theorem rowsZ_get {rows : List Row} {j : Nat} {y : Row} (h : rows[j]? = some y) : (rowsZ rows)[j]? = some y.2.2.2 := by
  unfold rowsZ; rw [List.getElem?_map, h]; rfl

set_option maxRecDepth 100000 in
set_option maxHeartbeats 8000000 in
theorem walk_PayloadConsecutive (a : Option Addr) (len cap : Nat) (rows : List Row) (ca : Option Addr) (cl cc : Nat) (cs : List Int) (F : Int) (w : World) (hr : ArgRows .u8 w a len cap rows) (hy : ∀ y ∈ rows, y.2.1 ≤ 140737488355328) (hc : ArgInts .i64 w ca cl cc cs) (_ : (Lit.int .i64 F).wf = true) :
    Calls Try.prog 6 #[.slice a len cap, .agg #[.slice ca cl cc, .int .i64 F]] w fun e w' => e = .returned (.bool true) ∧ Below w.heap.size w w' := by
  have HR := Lib.hid hr; have HY := Lib.hid hy; have HRL := Lib.hid hr.1; have HI := Lib.hid hc.inK; have HCL := Lib.hid hc.1
  clear hr hy hc
  by_cases h50 : (50 : Int) < len
  · go_enter Try.func6, Try.ntmps6
    go_wp2_with (first | (refine wpList_box_obj rfl 25 _ rfl [.slice ca cl cc, .int .i64 F] rfl ?_; intro w1 h1 b1; have H1 := Lib.hid h1; have B1 := Lib.hid b1; have c0 := h1.get 0 rfl; have c1 := h1.get 1 rfl; clear h1 b1))
    have HR1 := Lib.hid (HR.out.below B1.out)
    go_loop [5, 21] (fun n i => ∃ (j : Nat) (x : Int), j ≤ len ∧ i = .int .i64 j ∧ n = .int .i64 x) (fun _ i => len - (intOf i).toNat)
    case atStart => exact ⟨0, 0, Nat.zero_le _, rfl, rfl⟩
    case round =>
      obtain ⟨j, x, hj, rfl, rfl⟩ := hrel
      by_cases hlt : j < len
      · obtain ⟨b, off, y, rfl, _, hy, hm, hcell, _⟩ := HR1.out.get j hlt
        have hlt' : (j : Int) < len := by omega
        obtain ⟨l, hl⟩ := named y.2.1
        rw [← hl.out] at hcell
        have hj9 : (j : Int) ≤ 9223372036854775806 := by
          have := HR.out.2.1; have h2 := HR.out.2.2.1; unfold maxLen at h2; omega
        clear hy hm
        go_wp2_with fail
        go_round
        case rel => exact ⟨j + 1, _, by omega, by go_num, rfl⟩
        case measure => simp [intOf]; omega
      · obtain rfl : len = j := by omega
        by_cases h5 : (5000 : Int) < x
        · go_wp2_with fail
          refine (alive_any _).mono ?_; rintro e w2 ⟨rfl, b2⟩
          go_wp2
          go_ret
          exact ⟨rfl, B1.out.trans (b2.mono B1.out.size)⟩
        · go_wp2_with fail
          refine (alive_any _).mono ?_; rintro e w2 ⟨rfl, b2⟩
          go_wp2
          go_ret
          exact ⟨rfl, B1.out.trans (b2.mono B1.out.size)⟩
  · go_enter Try.func6, Try.ntmps6
    go_wp2_with (first | (refine wpList_box_obj rfl 25 _ rfl [.slice ca cl cc, .int .i64 F] rfl ?_; intro w1 h1 b1; have H1 := Lib.hid h1; have B1 := Lib.hid b1; have c0 := h1.get 0 rfl; have c1 := h1.get 1 rfl; clear h1 b1))
    have HR1 := Lib.hid (HR.out.below B1.out)
    go_loop [5, 21] (fun n i => ∃ j : Nat, j ≤ len ∧ i = .int .i64 j ∧ n = .int .i64 (total (rows.take j))) (fun _ i => len - (intOf i).toNat)
    case atStart => exact ⟨0, Nat.zero_le _, rfl, rfl⟩
    case round =>
      obtain ⟨j, hj, rfl, rfl⟩ := hrel
      by_cases hlt : j < len
      · obtain ⟨b, off, y, rfl, _, hy, hm, hcell, _⟩ := HR1.out.get j hlt
        have hlt' : (j : Int) < len := by omega
        obtain ⟨x, hx⟩ := named (total (rows.take j))
        obtain ⟨l, hl⟩ := named y.2.1
        have TS : Hid (total (rows.take (j + 1)) = x + l) := by show _ = _; rw [total_take hy, hx.out, hl.out]
        have hx2 : x ≤ 14073748835532800 := by
          have h1 := total_le (rows.take j) fun z hz => HY.out z (List.mem_of_mem_take hz)
          rw [← hx.out] at h1
          refine Nat.le_trans h1 (Nat.le_trans (Nat.mul_le_mul_right 140737488355328 (show (rows.take j).length ≤ 100 from ?_)) (Nat.le_refl 14073748835532800))
          rw [List.length_take, HRL.out]; omega
        have hl2 : l ≤ 140737488355328 := by rw [hl.out]; exact HY.out y hm
        rw [← hx.out]
        rw [← hl.out] at hcell
        clear hy hm
        go_wp2_with fail
        go_round
        case rel => exact ⟨j + 1, by omega, by go_num, by rw [TS.out]; go_num⟩
        case measure => simp [intOf]; omega
      · obtain rfl : len = j := by omega
        have ht : total (rows.take len) = total rows := by rw [List.take_of_length_le (by rw [HRL.out]; exact Nat.le_refl _)]
        rw [ht]
        obtain ⟨x, hx⟩ := named (total rows)
        rw [← hx.out]
        clear ht
        by_cases h5 : (5000 : Int) < x
        · go_wp2_with fail
          refine (alive_any _).mono ?_; rintro e w2 ⟨rfl, b2⟩
          go_wp2
          go_ret
          exact ⟨rfl, B1.out.trans (b2.mono B1.out.size)⟩
        · by_cases h300 : (300 : Int) < cl
          · go_wp2_with fail
            refine (alive_any _).mono ?_; rintro e w2 ⟨rfl, b2⟩
            go_wp2
            go_ret
            exact ⟨rfl, B1.out.trans (b2.mono B1.out.size)⟩
          · have hz : (Try.prog.info? 25).map (·.zero) = some (some (.agg [Value.slice none 0 0, .int .i64 0].toArray)) := by kernel_rfl
            have hs : (Try.prog.info? 25).map (·.size) = some 2 := by kernel_rfl
            have HZ := Lib.hid hz; have HS := Lib.hid hs
            have T5 : Hid (total rows ≤ 5000) := by show _ ≤ _; rw [← hx.out]; omega
            clear hz hs
            go_wp2_with (first | (refine wpList_alloc_obj rfl 25 rfl [.slice none 0 0, .int .i64 0] HZ.out ?_; intro w3 h3 b3; have H3 := Lib.hid h3; have B3 := Lib.hid b3; clear h3 b3) | (refine wpList_store_obj rfl 25 _ _ rfl w1.heap.size rfl [.slice ca cl cc, .int .i64 (-1)] [.slice none 0 0, .int .i64 0] rfl 25 H3.out HS.out rfl (by intro v hv; simp at hv; rcases hv with rfl | rfl <;> rfl) ?_; intro w4 h4 t4; have H4 := Lib.hid h4; have T4 := Lib.hid t4; have d0 := h4.get 0 rfl; have d1 := h4.get 1 rfl; clear h4 t4))
            have B14 : Hid (Below w1.heap.size w1 w4) := B3.out.trans (T4.out.below (Nat.le_refl _))
            have K0 : Hid (∀ w', Below w4.heap.size w4 w' → w'.cell? ⟨w1.heap.size, 0, none⟩ = some (.slice ca cl cc) ∧ w'.cell? ⟨w1.heap.size, 1, none⟩ = some (.int .i64 (-1))) := fun w' hb => ⟨(H4.out.below hb H4.out.lt).get 0 rfl, (H4.out.below hb H4.out.lt).get 1 rfl⟩
            have HR4 := Lib.hid (HR1.out.below B14.out); have HI4 := Lib.hid ((HI.out.below B1.out).below B14.out)
            have HYA : Hid (∀ y ∈ rows, ∀ x, y.1 = some x → y.2.2.2 = [] ∨ x.block < w4.heap.size) := by
              obtain ⟨_, _, _, h4, _⟩ := HR4.out
              intro y hm x hx
              rcases (h4 _ hm).bytes with h | ⟨b', off', h1, h2, _⟩
              · exact .inl h
              · rw [h1] at hx; cases hx; exact .inr h2
            clear c0 c1 HR1
            refine (snk_new ca cl cc cs (-1) w4 HI4.out HCL.out (by omega)).mono ?_; rintro e w5 ⟨m, rfl, s5, b5⟩
            have S5 := Lib.hid s5; have B5 := Lib.hid b5
            clear s5 b5 d0 d1
            go_wp2_with fail
            refine (wtr_new w5 S5.out).mono ?_; rintro e w6 ⟨g, rfl, s6, b6⟩
            have HS6 : Hid (∀ k, Grow (fun k => w4.heap.size ≤ k ∧ k < w5.heap.size) w5 w6 k → w4.heap.size ≤ k) := fun k hk => hk.elim (fun h => h.1) (fun h => Nat.le_trans B5.out.size h.1)
            obtain ⟨S0, hS0⟩ := named (Grow (fun k => w4.heap.size ≤ k ∧ k < w5.heap.size) w5 w6)
            rw [← hS0.out] at s6 HS6
            have W6 := Lib.hid s6; have B6 := Lib.hid (B5.out.trans (b6.mono B5.out.size))
            clear s6 b6 S5 hS0
            obtain ⟨L, hL⟩ := named (rowsZ rows)
            go_wp2_with fail
            go_loopw [53] (fun i wr => ∃ (S : Nat → Prop) (j : Nat) (P : List Int), j ≤ len ∧ i = .int .i64 j ∧ P = pcat (L.take j) ∧ Wtr wr S g m P (-1) P.length 0 ∧ (∀ k, S k → w4.heap.size ≤ k) ∧ P.length ≤ total (rows.take j) + 511 * j ∧ Below w4.heap.size w4 wr) (fun i _ => len - (intOf i).toNat)
            case atStart => exact ⟨S0, 0, [], Nat.zero_le _, rfl, rfl, W6.out, HS6.out, Nat.zero_le _, B6.out⟩
            case round =>
              obtain ⟨S, j, P, hj, rfl, hP, hw, hS, hpl, hbel⟩ := hrel
              have HP := Lib.hid hP; have WR := Lib.hid hw; have HS' := Lib.hid hS; have HPL := Lib.hid hpl; have B4R := Lib.hid hbel
              clear hP hw hS hpl hbel W6 HS6 B6
              have HPM : Hid (P.length % 512 = 0) := by show _ = _; rw [HP.out]; exact pcat_len _
              by_cases hlt : j < len
              · obtain ⟨b, off, y, rfl, _, hy, hm, hcell, hz⟩ := (HR4.out.below B4R.out).get j hlt
                have hlt' : (j : Int) < len := by omega
                have hya := HYA.out y hm
                obtain ⟨ya, yl, yc, ys⟩ := y
                have YL : Hid (ys.length = yl) := hz.1
                have YC : Hid (yl ≤ yc) := hz.2.1
                have YB : Hid (BytesIn wr ya ys) := hz.bytes
                have HYA' : Hid (∀ x, ya = some x → ys = [] ∨ x.block < w4.heap.size) := hya
                have hLj : L[j]? = some ys := by rw [hL.out]; exact rowsZ_get hy
                have TS : Hid (total (rows.take (j + 1)) = total (rows.take j) + yl) := total_take hy
                have hT5 : total (rows.take (j + 1)) ≤ 5000 := Nat.le_trans (total_take_le rows (j + 1)) T5.out
                obtain ⟨_, q2, q3⟩ := pcat_drop hLj
                rw [YL.out, ← HP.out] at q2 q3
                obtain ⟨p, hp⟩ := named (padN yl)
                rw [← hp.out] at q2 q3
                have Q2 := Lib.hid q2; have Q3 := Lib.hid q3
                have hp5 : p < 512 := by rw [hp.out]; unfold padN; omega
                have hn8 : P.length + yl ≤ 80000000 := by have := HPL.out; have := TS.out; omega
                have hcell' : wr.cell? ⟨b, off + j, none⟩ = some (.slice ya yl yc) := hcell
                clear hy hm hz hya hLj q2 q3 hcell
                go_wp2_with fail
                refine (pwrite_any ya yl yc ys wr WR.out YB.out YL.out YC.out hn8 (by decide) (fun x hx => (HYA'.out x hx).imp id fun h hs => by have := HS'.out _ hs; omega) p (by rw [hp.out, padN_at HPM.out])).mono ?_; rintro e w7 ⟨rfl, s7, o7⟩
                obtain ⟨k1, k2⟩ := ww_neg (F := -1) (by decide) P.length (yl + p)
                have et : (ys ++ zeros p).take (yl + p) = ys ++ zeros p := List.take_of_length_le (by rw [List.length_append, YL.out, zeros_length]; exact Nat.le_refl _)
                rw [k1, k2, et, ← Q3.out, ← Q2.out] at s7
                rw [k2]
                have W7 := Lib.hid s7
                have HS7 : Hid (∀ k, Grow S wr w7 k → w4.heap.size ≤ k) := fun k hk => hk.elim (HS'.out k) (fun h => Nat.le_trans B4R.out.size h.1)
                have B7 := Lib.hid (B4R.out.trans (o7.below (B := w4.heap.size) HS'.out B4R.out.size))
                clear s7 o7 k1 k2 et
                go_wp2_with fail
                go_roundw
                case rel => exact ⟨_, j + 1, pcat (L.take (j + 1)), by omega, by go_num, rfl, W7.out, HS7.out, by rw [Q2.out, TS.out]; have := HPL.out; omega, B7.out⟩
                case measure => simp [intOf]; omega
              · obtain rfl : len = j := by omega
                obtain ⟨Y, hY⟩ := named (pcat L)
                have HLL : Hid (L.length = len) := by show _ = _; rw [hL.out]; unfold rowsZ; rw [List.length_map, HRL.out]
                have hPY : P = Y := by rw [HP.out, hY.out, List.take_of_length_le (by rw [HLL.out]; exact Nat.le_refl _)]
                subst hPY
                obtain ⟨D, hD⟩ := named P.length
                have YL : Hid (P.length = D) := hD.out.symm
                have D9 : Hid (D ≤ 30550) := by
                  show _ ≤ _
                  have h1 := HPL.out; have h2 := T5.out; have h3 := total_take_le rows len
                  rw [hD.out]; omega
                obtain ⟨S', cs', r', hs', hsub, _⟩ := WR.out.sink
                have SX := Lib.hid hs'
                have YB : Hid (Bytes P) := hs'.bytes.1
                have HSX : Hid (∀ k, S' k → k < wr.heap.size) := fun k hk => WR.out.lt.1 k (hsub k hk)
                have EN : Hid (endN (-1) D = D) := by show _ = _; unfold endN; rw [if_neg (by omega)]
                have EE : Hid (endE (-1) D = 4) := by show _ = _; unfold endE; rw [if_neg (by omega)]
                have ET : Hid (P.take D = P) := List.take_of_length_le (by rw [YL.out]; exact Nat.le_refl _)
                clear hs' hsub hj hlt
                go_wp2_with fail
                refine wp_region_held_drew (S := (fun w' => w'.cell? ⟨w1.heap.size, 0, none⟩ = some (.slice ca cl cc) ∧ w'.cell? ⟨w1.heap.size, 1, none⟩ = some (.int .i64 (-1)))) (by kernel_rfl) (K0.out _ (B4R.out.trans ((Below.refl wr.heap.size wr).drew.mono B4R.out.size))) (fun hHeld => ?_)
                refine wpAnyH_take (i := 0) (oi := { dst := some 62, op := Go.Op.move (Go.Operand.tmp 9), type := 45, pos := "law.go:123", after := #[], guard := none }) (v := ?_) rfl (by kernel_rfl) (by kernel_rfl) (by kernel_rfl) (fun _ _ _ h => h) (Or.inl ⟨by rfl, ?_⟩) (by assumption) ?_
                rotate_left 1
                focus ((intro wS hSw; (try dsimp only at hSw); go_simp) <;> (try with_reducible rfl))
                simp only [Act.put, List.setIfInBounds_toArray, List.set_cons_zero, List.set_cons_succ]
                refine wpAnyH_take (i := 2) (oi := { dst := some 64, op := Go.Op.load 25 (Go.Operand.tmp 8), type := 25, pos := "law.go:123", after := #[], guard := none }) (v := ?_) rfl (by kernel_rfl) (by kernel_rfl) (by kernel_rfl) (fun _ _ _ h => h) (Or.inl ⟨by rfl, ?_⟩) (by assumption) ?_
                rotate_left 1
                focus ((intro wS hSw; (try dsimp only at hSw); go_simp) <;> (try with_reducible rfl))
                simp only [Act.put, List.setIfInBounds_toArray, List.set_cons_zero, List.set_cons_succ]
                refine wpAnyH_ready (rs := [1]) (by kernel_rfl) (by simp) ?_
                refine AllReadyH.cons (o := { dst := some 63, op := Go.Op.call { callee := Go.Callee.value (Go.Operand.func 19), args := #[Go.Operand.tmp 62], argTypes := #[45] }, type := 22, pos := "law.go:123", after := #[{ on := 0, ground := Go.Ground.data }], guard := none }) rfl (fun K hK => ?_) AllReadyH.nil
                go_simp
                refine (sbytes_any wr.drew (SX.out.below (Below.refl _ _).drew)).mono ?_; rintro e v2 ⟨vv, rfl, o2, k2⟩
                rw [YL.out] at o2
                obtain ⟨a9, c9, hv9, x9, xc9, _, _, y9⟩ := own_any o2
                subst hv9
                have X9 := Lib.hid x9; have XC9 := Lib.hid xc9
                have K2 : Hid (Below wr.heap.size wr v2) := (Below.refl wr.heap.size wr).drew.trans k2
                have V2 := Lib.hid (B4R.out.trans (K2.out.mono B4R.out.size))
                clear o2 k2 x9 xc9 y9
                go_wp2_with fail
                refine hK.out _ _ (K0.out _ V2.out) (fun hHeld => ?_)
                clear hK K
                (try simp only [Act.put, List.setIfInBounds_toArray, List.set_cons_zero, List.set_cons_succ])
                refine wpAnyH_ready (rs := [3]) (by kernel_rfl) (by simp) ?_
                refine AllReadyH.cons (o := { dst := some 65, op := Go.Op.call { callee := Go.Callee.value (Go.Operand.func 10), args := #[Go.Operand.tmp 63, Go.Operand.tmp 64], argTypes := #[22, 25] }, type := 30, pos := "law.go:123", after := #[{ on := 1, ground := Go.Ground.data }, { on := 2, ground := Go.Ground.data }, { on := 1, ground := Go.Ground.chain }], guard := none }) rfl (fun K hK => ?_) AllReadyH.nil
                go_simp
                refine (new_any a9 D c9 P ca cl cc cs (-1) v2 (X9.out.bytes YB.out) YL.out XC9.out (by have := D9.out; omega) (HI4.out.below V2.out) HCL.out (by omega)).mono ?_; rintro e v3 ⟨s, rfl, s3, b3⟩
                rw [EN.out, EE.out, ET.out] at s3
                have S3 := Lib.hid s3; have K3 := Lib.hid (K2.out.trans (b3.mono K2.out.size))
                have V3 := Lib.hid (V2.out.trans (b3.mono V2.out.size))
                clear s3 b3
                go_wp2_with fail
                refine hK.out _ _ (K0.out _ V3.out) (fun hHeld => ?_)
                clear hK K
                (try simp only [Act.put, List.setIfInBounds_toArray, List.set_cons_zero, List.set_cons_succ])
                refine wpAnyH_ready (rs := [4]) (by kernel_rfl) (by simp) ?_
                refine AllReadyH.cons (o := { dst := some 66, op := Go.Op.call { callee := Go.Callee.value (Go.Operand.func 9), args := #[Go.Operand.tmp 65], argTypes := #[30] }, type := 28, pos := "law.go:123", after := #[{ on := 3, ground := Go.Ground.data }, { on := 3, ground := Go.Ground.chain }], guard := none }) rfl (fun K hK => ?_) AllReadyH.nil
                go_simp
                refine (rdr_new v3 S3.out).mono ?_; rintro e v4 ⟨p, rfl, r4, b4⟩
                have R4 := Lib.hid r4; have K4 := Lib.hid (K3.out.trans (b4.mono K3.out.size))
                have V4 := Lib.hid (V3.out.trans (b4.mono V3.out.size))
                clear r4 b4
                go_wp2_with fail
                refine hK.out _ _ (K0.out _ V4.out) (fun hHeld => ?_)
                clear hK K
                (try simp only [Act.put, List.setIfInBounds_toArray, List.set_cons_zero, List.set_cons_succ])
                refine wpAnyH_take (i := 5) (oi := { dst := some 13, op := Go.Op.assign (Go.Operand.tmp 66), type := 28, pos := "law.go:123", after := #[{ on := 4, ground := Go.Ground.data }, { on := 4, ground := Go.Ground.chain }, { on := 0, ground := Go.Ground.phase }, { on := 1, ground := Go.Ground.phase }, { on := 2, ground := Go.Ground.phase }, { on := 3, ground := Go.Ground.phase }, { on := 4, ground := Go.Ground.phase }], guard := none }) (v := ?_) rfl (by kernel_rfl) (by kernel_rfl) (by kernel_rfl) (fun _ _ _ h => h) (Or.inl ⟨by rfl, ?_⟩) (by assumption) ?_
                rotate_left 1
                focus ((intro wS hSw; (try dsimp only at hSw); go_simp) <;> (try with_reducible rfl))
                simp only [Act.put, List.setIfInBounds_toArray, List.set_cons_zero, List.set_cons_succ]
                refine wpAnyH_done (by kernel_rfl) ?_ _
                go_wp2_with fail
                have SX4 := Lib.hid (SX.out.below K4.out)
                have HSX4 : Hid (∀ k, S' k → k < v2.heap.size) := fun k hk => Nat.lt_of_lt_of_le (HSX.out k hk) K2.out.size
                have LV : Hid (w4.heap.size ≤ v2.heap.size) := V2.out.size
                obtain ⟨lo, hlo⟩ := named v2.heap.size
                obtain ⟨hi, hhi⟩ := named v4.heap.size
                have R4' : Hid (Rdr v4 lo hi p P 4 0 0) := by show Rdr _ _ _ _ _ _ _ _; rw [hlo.out, hhi.out]; exact R4.out
                rw [← hlo.out] at HSX4 LV
                clear R4 S3 WR SX HSX K2 K3 K4 V2 V3 X9 XC9 B4R HS'
                clear HP HPM hD
                go_loopw [69] (fun i wr => ∃ (j O : Nat), j ≤ len ∧ i = .int .i64 j ∧ O = (pcat (L.take j)).length ∧ Rdr wr lo hi p P 4 O 0 ∧ Snk wr S' m P (-1) cs' r' ∧ Below w4.heap.size w4 wr) (fun i _ => len - (intOf i).toNat)
                case atStart => exact ⟨0, 0, Nat.zero_le _, rfl, rfl, R4'.out, SX4.out, V4.out⟩
                case round =>
                  obtain ⟨j, O, hj, rfl, hO, hr, hs, hbel⟩ := hrel
                  have HO := Lib.hid hO; have RR := Lib.hid hr; have SR := Lib.hid hs; have BR := Lib.hid hbel
                  clear hO hr hs hbel R4' SX4 V4
                  by_cases hlt : j < len
                  · obtain ⟨b, off, y, rfl, _, hy, hm, hcell, hz⟩ := (HR4.out.below BR.out).get j hlt
                    have hlt' : (j : Int) < len := by omega
                    have hrow := HR4.out.2.2.2.1 y hm
                    have hyl : y.2.1 ≤ 5000 := Nat.le_trans (total_row hm) T5.out
                    obtain ⟨ya, yl, yc, ys⟩ := y
                    have YL' : Hid (ys.length = yl) := hz.1
                    have YA : Hid (∀ w', Below w4.heap.size w4 w' → BytesIn w' ya ys) := fun w' hb => hrow.bytes.below hb
                    have YBY : Hid (Bytes ys) := hz.bytes.bytes
                    have hLj : L[j]? = some ys := by rw [hL.out]; exact rowsZ_get hy
                    obtain ⟨q1, q2, q3⟩ := pcat_drop hLj
                    rw [← HO.out, ← hY.out] at q1
                    rw [← HO.out] at q2
                    obtain ⟨d, hd⟩ := named (padN ys.length)
                    rw [← hd.out] at q1 q2
                    have hyl' : yl ≤ 5000 := hyl
                    obtain ⟨e1, e2, e3, e4, e5⟩ := rd_full (E := 4) q1 hd.out (by rw [YL'.out]; omega) RR.out.size.2.2.2
                    rw [YL'.out] at e1 e2 e3 e4 e5 q2
                    have HQ : Hid (rdE P 4 O 0 yl = 0 ∧ rdP P O 0 yl = O + (yl + d) ∧ rdD P O 0 yl = ys ∧ rdO P O 0 yl = O + (yl + d) ∧ rdS P 4 O 0 yl = 0) := ⟨e1, e2, e3, e4, e5⟩
                    have Q2 := Lib.hid q2
                    obtain ⟨O', hO'⟩ := named (O + (yl + d))
                    have hcell' : wr.cell? ⟨b, off + j, none⟩ = some (.slice ya yl yc) := hcell
                    obtain ⟨SZ, hSZ⟩ := named (strOfNums ys)
                    clear hy hm hz hrow hLj q1 q2 q3 e1 e2 e3 e4 e5 hcell hyl
                    go_wp2_with fail
                    refine (pread_any (yl : Int) wr RR.out (.inr rfl)).mono ?_; rintro e w7 ⟨⟨b7, c7, rfl, l7, i7, x7⟩, r7, u7⟩
                    rw [HQ.out.2.2.1] at i7
                    rw [HQ.out.2.2.2.1, HQ.out.2.2.2.2, ← hO'.out] at r7
                    rw [HQ.out.1, HQ.out.2.1, HQ.out.2.2.1, YL'.out, ← hO'.out]
                    have R7 := Lib.hid r7
                    have B7 := Lib.hid (BR.out.trans (u7.below (B := w4.heap.size) LV.out BR.out.size))
                    have S7 := Lib.hid (SR.out.only (T := fun k => lo ≤ k ∧ k < hi) ⟨u7.os, u7.tape, u7.output, u7.size, fun k hk hj => u7.block k hk (by omega)⟩ (fun k hk h => by have := HSX4.out k hk; omega))
                    have k6 : (convert 22 9 (.slice b7 yl c7)).run Try.prog w7 = .ok (.string SZ) w7 := by
                      rw [hSZ.out]; exact run_str_in (P := Try.prog) Try.underlying22 Try.underlying5 Try.underlying9 (i7.bytes YBY.out) yl c7 YL'.out
                    have k7 : (convert 22 9 (.slice ya yl yc)).run Try.prog w7 = .ok (.string SZ) w7 := by
                      rw [hSZ.out]; exact run_str_in (P := Try.prog) Try.underlying22 Try.underlying5 Try.underlying9 (YA.out _ B7.out) yl yc YL'.out
                    clear l7 i7 x7 r7 u7
                    go_wp2_with fail
                    refine (rdr_off w7 R7.out).mono ?_; rintro e w8 ⟨rfl, rfl⟩
                    go_wp2_with fail
                    go_roundw
                    case rel => exact ⟨j + 1, O', by omega, by go_num, by rw [Q2.out, hO'.out], R7.out, S7.out, B7.out⟩
                    case measure => simp [intOf]; omega
                  · obtain rfl : len = j := by omega
                    have hOD : O = D := by rw [HO.out, List.take_of_length_le (by rw [HLL.out]; exact Nat.le_refl _), ← hY.out, YL.out]
                    subst hOD
                    go_wp2_with fail
                    refine (alive_any _).mono ?_; rintro e w7 ⟨rfl, b7⟩
                    have R7 := Lib.hid (RR.out.below b7); have S7 := Lib.hid (SR.out.below b7); have B7 := Lib.hid (BR.out.trans (b7.mono BR.out.size))
                    clear b7
                    go_wp2_with fail
                    refine (rdr_off w7 R7.out).mono ?_; rintro e w8 ⟨rfl, rfl⟩
                    go_wp2_with fail
                    refine (slen_any w7 S7.out).mono ?_; rintro e w8 ⟨rfl, rfl⟩
                    rw [YL.out]
                    go_wp2_with fail
                    go_ret
                    exact ⟨rfl, B1.out.trans ((B14.out.trans (B7.out.mono B14.out.size)).mono B1.out.size)⟩
end Go.Proofs.Ytnnengigahakaaa
