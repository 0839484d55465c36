/-
  SinkChunkSizes, walked.
-/
import Derived.Test.YtodohdhbnihdbaaSnkAlive
import Derived.Test.YtodohdhbnihdbaaStructArg
namespace Go.Proofs.Ytodohdhbnihdbaa
open Go.RowKit

set_option maxRecDepth 100000 in
set_option maxHeartbeats 8000000 in
theorem walk_SinkChunkSizes (a : Option Addr) (len cap : Nat) (zs : List Int) (pa : Option Addr) (pl pc : Nat) (ps : List Int) (w : World) (hz : ArgInts .u8 w a len cap zs) (hp : ArgInts .u16 w pa pl pc ps) :
    Calls Try.prog 7 #[.slice a len cap, .slice pa pl pc] w fun e w' => e = .returned (.bool true) ∧ Below w.heap.size w w' := by
  have HB := Lib.hid hz.bytes; have HL := Lib.hid hz.1
  have HP := Lib.hid hp
  clear hz hp
  by_cases hl0 : len = 0
  · subst hl0
    go_enter Try.func7, Try.ntmps7
    go_wp2_with fail
    refine (alive_any _).mono ?_; rintro e w2 ⟨rfl, b2⟩
    go_wp2
    go_ret
    exact ⟨rfl, b2⟩
  · have hl0' : ((len : Int) == 0) = false := by simp; omega
    by_cases h100 : (100 : Int) < len
    · go_enter Try.func7, Try.ntmps7
      go_wp2_with fail
      refine (alive_any _).mono ?_; rintro e w2 ⟨rfl, b2⟩
      go_wp2
      go_ret
      exact ⟨rfl, b2⟩
    · by_cases h100' : (100 : Int) < pl
      · go_enter Try.func7, Try.ntmps7
        go_wp2_with fail
        refine (alive_any _).mono ?_; rintro e w2 ⟨rfl, b2⟩
        go_wp2
        go_ret
        exact ⟨rfl, b2⟩
      · have HI8 := Lib.hid i64T
        obtain ⟨b, off, rfl, hb, hrow⟩ : ∃ b off, a = some ⟨b, off, none⟩ ∧ b < w.heap.size ∧ RowAt w b off zs := by
          rcases HB.out with h | h
          · have := HL.out; rw [h] at this; simp at this; omega
          · exact h
        have HR := Lib.hid hrow; clear hrow
        go_enter Try.func7, Try.ntmps7
        go_wp2_with (refine wpList_make_k rfl _ _ 22 3 .i64 8 rfl Try.underlying22 HI8.out len rfl rfl (by omega) (by unfold maxLen; omega) ?_; intro w1 h1 b1; have H1 := Lib.hid h1; have B1 := Lib.hid b1; clear h1 b1)
        go_loopw [6, 7, 36] (fun _ _ i wr => ∃ (j : Nat) (ys : List Int), j ≤ len ∧ i = .int .i64 j ∧ ys.length = len ∧ (∀ q, q < j → ys.getD q 0 = zs.getD q 0) ∧ ObjAt wr w.heap.size 3 (ys.map (.int .i64)) ∧ Below w.heap.size w wr) (fun _ _ i _ => len - (intOf i).toNat)
        case atStart => exact ⟨0, zeros len, by omega, rfl, zeros_length _, by omega, H1.out, B1.out⟩
        case round =>
          obtain ⟨j, ys, hj, rfl, hyl, hyz, hob, hbel⟩ := hrel
          have YL := Lib.hid hyl; have YZ := Lib.hid hyz; have OB := Lib.hid hob; have BR := Lib.hid hbel
          clear hyl hyz hob hbel
          by_cases hlt : j < len
          · obtain ⟨d, hd, d0, d1, hcj⟩ := (HR.out.below BR.out hb).get j (by rw [HL.out]; exact hlt)
            have HD := Lib.hid hd; clear hd
            have hlt' : (j : Int) < len := by omega
            have hcell : wr.cell? ⟨w.heap.size, j, none⟩ = some (.int .i64 (ys.getD j 0)) := by
              rw [OB.out.cell, List.getElem?_map, List.getElem?_eq_getElem (by rw [YL.out]; exact hlt), List.getD_eq_getElem?_getD, List.getElem?_eq_getElem (by rw [YL.out]; exact hlt)]; rfl
            have hfz := OB.out.frozen j
            go_wp2
            go_roundw
            case rel =>
              refine ⟨j + 1, ys.set j d, by omega, by go_num, by rw [List.length_set]; exact YL.out, fun q hq => ?_, by rw [List.map_set]; exact OB.out.set j _, BR.out.setCell (Nat.le_refl _) _⟩
              by_cases hqj : q = j
              · subst hqj
                rw [List.getD_eq_getElem?_getD, List.getElem?_set_self (by rw [YL.out]; exact hlt), HD.out]; rfl
              · rw [List.getD_eq_getElem?_getD, List.getElem?_set_ne (by omega), ← List.getD_eq_getElem?_getD]
                exact YZ.out q (by omega)
            case measure => simp [intOf]; omega
          · obtain rfl : j = len := by omega
            have hys : ys = zs := by
              apply List.ext_getElem
              · rw [YL.out, HL.out]
              · intro q h1 h2
                have := YZ.out q (by rw [← HL.out]; exact h2)
                simpa [List.getD_eq_getElem?_getD, List.getElem?_eq_getElem h1, List.getElem?_eq_getElem h2] using this
            subst hys
            have CI := Lib.hid (cells_row OB.out)
            obtain ⟨Bz, hBz⟩ := named wr.heap.size
            have G1 : Hid (w.heap.size < Bz) := by show _ < _; rw [hBz.out]; exact OB.out.lt
            go_wp2_with fail
            refine (snk_new (some ⟨w.heap.size, 0, none⟩) j j ys (-1) wr CI.out YL.out (by omega)).mono ?_; rintro e w3 ⟨m, rfl, s3, b3⟩
            have S3 := Lib.hid s3
            have C3 := Lib.hid (CI.out.below b3)
            have BB := Lib.hid (BR.out.trans (b3.mono (Nat.le_of_lt OB.out.lt)))
            have S3' := Lib.hid (show ∀ k, (wr.heap.size ≤ k ∧ k < w3.heap.size) → Bz ≤ k by intro k hk; rw [hBz.out]; exact hk.1)
            have Z3 : Hid (Bz ≤ w3.heap.size) := by show _ ≤ _; rw [hBz.out]; exact b3.size
            clear s3 b3 OB
            go_wp2_with fail
            go_loopw [9, 10, 12, 13, 14, 15, 16, 54] (fun t n _ _ _ _ _ i wx => ∃ (S : Nat → Prop) (xs : List Int) (r q : Nat), q ≤ pl ∧ i = .int .i64 q ∧ t = .int .i64 xs.length ∧ n = .int .i64 r ∧ xs.length ≤ q * 600 ∧ (∀ k, S k → Bz ≤ k) ∧ Snk wx S m xs (-1) ys r ∧ InK .i64 wx (some ⟨w.heap.size, 0, none⟩) ys ∧ Below w.heap.size w wx) (fun _ _ _ _ _ _ _ i _ => pl - (intOf i).toNat)
            case atStart => exact ⟨_, [], 0, 0, Nat.zero_le _, rfl, rfl, rfl, by simp, S3'.out, S3.out, C3.out, BB.out⟩
            case round =>
              obtain ⟨S, xs, r, q, hq, rfl, rfl, rfl, hxl, hS, hs, hck, hbel⟩ := hrel
              have SX := Lib.hid hs; have CK := Lib.hid hck; have BX := Lib.hid hbel; have HS := Lib.hid hS
              clear hs hck hbel hS
              by_cases hlt : q < pl
              · have hlt' : (q : Int) < pl := by omega
                obtain ⟨p1, p2, p3, p4, p5⟩ := HP.out
                obtain ⟨pb, po, rfl, hpb, hpc⟩ := p5.resolve_left (by omega)
                obtain ⟨x, hx⟩ := named (ps.getD q 0)
                have hxb : 0 ≤ x ∧ x ≤ 65535 := by
                  have hm : ps.getD q 0 ∈ ps := by rw [List.getD_eq_getElem?_getD, List.getElem?_eq_getElem (by omega)]; exact List.getElem_mem _
                  rw [hx.out]; exact bounds_u16 (p4 _ hm)
                have hcell : wr.cell? ⟨pb, po + q, none⟩ = some (.int .u16 x) := by rw [hx.out]; exact (BX.out.cell (p := ⟨pb, po + q, none⟩) hpb).trans (hpc q (by omega))
                obtain ⟨n, hn⟩ : ∃ n : Nat, x % 600 = n := ⟨(x % 600).toNat, by omega⟩
                have hn6 : n < 600 := by omega
                have HPC := Lib.hid hpc; have HX := Lib.hid hxb
                clear p1 p2 p3 p4 p5 hpc
                obtain ⟨i0, HI⟩ := info_u8 (P := Try.prog) (e := 5) (by kernel_rfl)
                obtain ⟨L, hL⟩ := named xs.length
                have hL6 : L ≤ 60000 := by have := hL.out; omega
                have hLq : Hid (L ≤ q * 600) := by show _ ≤ _; have := hL.out; omega
                rw [← hL.out]
                go_wp2_with (refine wpList_make_arr rfl _ _ 31 5 rfl Try.underlying31 i0 HI n (congrArg (Value.int .i64) hn) (congrArg (Value.int .i64) hn) (by omega) ?_; intro w2 h2 b2; have H2 := Lib.hid h2; have B2 := Lib.hid b2; clear h2 b2)
                obtain ⟨Z, hZ⟩ := named (zeros n)
                rw [← hZ.out] at H2
                have ZL : Hid (Z.length = n) := by show _ = _; rw [hZ.out, zeros_length]
                refine (snk_write (some ⟨wr.heap.size, 0, none⟩) n n Z w2 (SX.out.below B2.out) H2.out.bytes ZL.out (Nat.le_refl _) (by rw [← hL.out]; omega) (by decide)).mono ?_; rintro e w4 ⟨rfl, s4, o4⟩
                rw [← hL.out] at s4
                have hnf : ∀ L, ¬ full (-1) L := fun L => by unfold full; omega
                have e2 : wrE (-1) xs.length n = 0 := by unfold wrE; split; rfl; rw [if_neg (hnf _)]
                rw [e2, ← hL.out]
                obtain ⟨C, hC⟩ := named (chunkZ ys r)
                obtain ⟨k, hk⟩ := named (wrK ys (-1) L r n)
                have hkk : min (n : Int) C = k := by
                  have := chunkZ_pos ys r
                  rw [hk.out, hC.out]; unfold wrK
                  by_cases hn0 : n = 0
                  · rw [if_pos (.inl hn0)]; omega
                  · rw [if_neg (fun h => h.elim hn0 (hnf _)), if_neg (by omega)]; omega
                obtain ⟨R, hR⟩ := named (wrR (-1) L r n)
                have hRR : R = if n = 0 then r else r + 1 := by
                  rw [hR.out]; unfold wrR
                  by_cases hn0 : n = 0
                  · rw [if_pos (.inl hn0), if_pos hn0]
                  · rw [if_neg (fun h => h.elim hn0 (hnf _)), if_neg hn0]
                rw [← hk.out, ← hR.out] at s4
                rw [← hk.out]
                have S4 := Lib.hid s4
                have ZK : Hid ((xs ++ Z.take k).length = L + k) := by show _ = _; rw [List.length_append, List.length_take, ZL.out, ← hL.out]; omega
                have B4 := Lib.hid (o4.below (B := Bz) HS.out (by have := SX.out.lt m SX.out.me; have := HS.out m SX.out.me; have := B2.out.size; omega))
                have hr0 := SX.out.bytes.2.2.2.1
                rw [← hL.out] at hr0
                have HR0 := Lib.hid hr0
                have HZW : Hid (Bz ≤ w2.heap.size) := by show _ ≤ _; have := SX.out.lt m SX.out.me; have := HS.out m SX.out.me; have := B2.out.size; omega
                obtain ⟨y, hy⟩ := named (r % j)
                have hyl : y < j := by rw [hy.out]; exact Nat.mod_lt _ (by omega)
                have hmod : (r : Int) % (j : Int) = (y : Int) := by rw [hy.out]; omega
                obtain ⟨d, hd⟩ := named (ys.getD y 0)
                have ck4 : InK .i64 w4 (some ⟨w.heap.size, 0, none⟩) ys := (CK.out.below B2.out).only o4 (fun x hx => by cases hx; intro h; have := HS.out _ h; have := G1.out; simp at *; omega)
                have hcell := ck4.get y (by rw [YL.out]; exact hyl)
                rw [← hd.out, Nat.zero_add] at hcell
                have CK4 := Lib.hid ck4
                have hmx : max (1 : Int) d = C := by
                  rw [hC.out, hd.out, hy.out]; unfold chunkZ; rw [if_neg (by rw [YL.out]; omega), YL.out]; omega
                have HK := Lib.hid hkk; have HMX := Lib.hid hmx; have HRR := Lib.hid hRR
                have hyl' : (y : Int) < j := by omega
                clear hnf hkk hmx hRR s4 ck4 e2 hr0 hyl
                have hk6 : (k : Int) ≤ 600 := by have := HK.out; omega
                go_wp2_with (first | (refine wpList_max2 rfl _ _ _ rfl .i64 .i64 1 d C rfl rfl HMX.out ?_) | (refine wpList_min2 rfl _ _ _ rfl .i64 .i64 n C k (by first | rfl | exact congrArg (Value.int .i64) hn) rfl HK.out ?_))
                refine (slen_any w4 S4.out).mono ?_; rintro e w5 ⟨rfl, rfl⟩
                rw [ZK.out]
                have BW := Lib.hid ((BX.out.trans (B2.out.mono BX.out.size)).trans (B4.out.mono (Nat.le_of_lt G1.out)))
                by_cases hn0 : n = 0
                · subst hn0
                  go_wp2_with fail
                  go_roundw
                  case rel => exact ⟨_, xs ++ Z.take k, R, q + 1, by omega, by go_num, by rw [ZK.out]; go_num, by rw [HRR.out]; simp, by rw [ZK.out]; have := hLq.out; omega, fun z hz => hz.elim (HS.out z) (fun h => Nat.le_trans HZW.out h.1), S4.out, CK4.out, BW.out⟩
                  case measure => simp [intOf]; omega
                · have hn1 : (0 : Int) < n := by omega
                  have hr6 : (r : Int) ≤ 60000 := by have := HR0.out; omega
                  go_wp2_with fail
                  go_roundw
                  case rel => exact ⟨_, xs ++ Z.take k, R, q + 1, by omega, by go_num, by rw [ZK.out]; go_num, by rw [HRR.out, if_neg hn0]; go_num, by rw [ZK.out]; have := hLq.out; omega, fun z hz => hz.elim (HS.out z) (fun h => Nat.le_trans HZW.out h.1), S4.out, CK4.out, BW.out⟩
                  case measure => simp [intOf]; omega
              · obtain rfl : q = pl := by omega
                go_wp2_with fail
                refine (alive_any _).mono ?_; rintro e w6 ⟨rfl, b6⟩
                go_wp2
                go_ret
                exact ⟨rfl, BX.out.trans (b6.mono BX.out.size)⟩
end Go.Proofs.Ytodohdhbnihdbaa
