/-
  Walks of the reference of layer 3, of the statements' own 'block', and of their example.
-/
import Derived.Test.YtbbaleambgaanaaGreatDoorPk12
import Derived.Test.YtbbaleambgaanaaGreatDoorPk10
import Derived.Test.YtbbaleambgaanaaGreatDoorPk09
import Derived.Test.YtbbaleambgaanaaGreatDoorPk13
namespace Go.Proofs.YtbbaleambgaanaaGreatDoor.Chk
open Go.RowKit
open Oct

theorem blank_at (zs : List Int) (j : Nat) (hl : zs.length = 512) : (blankZ zs).getD j 0 = if 148 ≤ j ∧ j < 156 then 32 else zs.getD j 0 := by
  unfold blankZ lay
  have ht : (zs.take 148).length = 148 := by rw [List.length_take, hl]; rfl
  have h8 := sp8_length
  simp only [List.getD_eq_getElem?_getD]
  by_cases h1 : j < 148
  · rw [List.getElem?_append_left (by omega), if_neg (by omega), List.getElem?_take, if_pos h1]
  · rw [List.getElem?_append_right (by omega), ht]
    by_cases h2 : j < 156
    · rw [List.getElem?_append_left (by omega), if_pos (by omega)]
      have : ∀ i, i < 8 → (sp8[i]?).getD 0 = 32 := by decide
      exact this _ (by omega)
    · rw [List.getElem?_append_right (by omega), if_neg (by omega), List.getElem?_drop, h8, show 148 + 8 + (j - 148 - 8) = j by omega]

set_option maxHeartbeats 1000000 in
theorem rsum_ok (a : Option Addr) (cap : Nat) (zs : List Int) (w : World) (hl : zs.length = 512) (hb : BytesIn w a zs) :
    Calls Tryz.prog 126 #[.slice a 512 cap] w fun e w' => e = .returned (.tuple #[.int .i64 (sumZ zs), .int .i64 0]) ∧ w = w' := by
  obtain ⟨b, off, rfl, _, hr⟩ : ∃ b off, a = some ⟨b, off, none⟩ ∧ b < w.heap.size ∧ RowAt w b off zs := by
    rcases hb with hb | hb
    · rw [hb] at hl; cases hl
    · exact hb
  have hbb : Bytes zs := hr.2
  have BD := Lib.hid (take_sum_bd (blank_bytes hbb))
  have HN := Lib.hid (blank_length hl)
  have HA := Lib.hid (fun j => blank_at zs j hl)
  have HL := Lib.hid hl
  have HR := Lib.hid hr
  clear hl hb hr hbb
  go_enter Tryz.func126, Tryz.ntmps126
  go_wp2
  go_loop [4, 5] (fun n i => ∃ j : Nat, j ≤ 512 ∧ i = .int .i64 j ∧ n = .int .i64 ((blankZ zs).take j).sum) (fun _ i => 512 - (intOf i).toNat)
  case atStart => exact ⟨0, Nat.zero_le _, rfl, rfl⟩
  case round =>
    obtain ⟨j, hj, rfl, rfl⟩ := hrel
    obtain ⟨d0, d1⟩ := BD.out j
    by_cases hlt : j < 512
    · obtain ⟨c, hc, c0, c1, hcj⟩ := HR.out.get j (by rw [HL.out]; exact hlt)
      have HC := Lib.hid hc; clear hc
      obtain ⟨S, hS⟩ := named ((blankZ zs).take j).sum
      rw [← hS.out] at d0 d1 ⊢
      have hlt' : (j : Int) < 512 := by omega
      by_cases h1 : 148 ≤ j
      · have h1' : (148 : Int) ≤ j := by omega
        by_cases h2 : j < 156
        · have h2' : (j : Int) < 156 := by omega
          have HS : Hid (((blankZ zs).take (j + 1)).sum = S + 32) := by
            show _ = _; rw [sum_take_succ (by rw [HN.out]; exact hlt), hS.out, HA.out, if_pos ⟨h1, h2⟩]
          go_wp2
          go_round
          case rel => exact ⟨j + 1, by omega, by go_num, by rw [HS.out]⟩
          case measure => simp [intOf]; omega
        · have h2' : ¬ (j : Int) < 156 := by omega
          have HS : Hid (((blankZ zs).take (j + 1)).sum = S + c) := by
            show _ = _; rw [sum_take_succ (by rw [HN.out]; exact hlt), hS.out, HA.out, if_neg (by omega), HC.out]
          go_wp2
          go_round
          case rel => exact ⟨j + 1, by omega, by go_num, by rw [HS.out]⟩
          case measure => simp [intOf]; omega
      · have h1' : ¬ (148 : Int) ≤ j := by omega
        have HS : Hid (((blankZ zs).take (j + 1)).sum = S + c) := by
          show _ = _; rw [sum_take_succ (by rw [HN.out]; exact hlt), hS.out, HA.out, if_neg (by omega), HC.out]
        go_wp2
        go_round
        case rel => exact ⟨j + 1, by omega, by go_num, by rw [HS.out]⟩
        case measure => simp [intOf]; omega
    · obtain rfl : j = 512 := by omega
      go_wp2
      go_ret2
      exact ⟨by rw [List.take_of_length_le (by rw [HN.out]; exact Nat.le_refl _)]; rfl, rfl⟩

set_option maxHeartbeats 1000000 in
theorem rsum_bad (a : Option Addr) (len cap : Nat) (w : World) (hl : ¬ len = 512) :
    Calls Tryz.prog 126 #[.slice a len cap] w fun e w' => e = .returned (.tuple #[.int .i64 0, .int .i64 2]) ∧ w = w' := by
  have h2 : ((len : Int) == 512) = false := by simp; omega
  have h3 : ((len : Int) != 512) = true := by simp; omega
  clear hl
  go_enter Tryz.func126, Tryz.ntmps126
  go_wp2
  go_ret2
  exact ⟨rfl, rfl⟩

set_option maxHeartbeats 1000000 in
theorem rseal_bad (a : Option Addr) (len cap : Nat) (w : World) (hl : ¬ len = 512) :
    Calls Tryz.prog 68 #[.slice a len cap] w fun e w' => e = .returned (.tuple #[.slice none 0 0, .int .i64 2]) ∧ w = w' := by
  go_enter Tryz.func68, Tryz.ntmps68
  go_wp2_with fail
  refine (rsum_bad a len cap _ hl).mono ?_; rintro e w1 ⟨rfl, rfl⟩
  go_wp2
  go_ret2
  exact ⟨rfl, rfl⟩

set_option maxHeartbeats 1000000 in
theorem rseal_okB (a : Option Addr) (cap : Nat) (zs : List Int) (w : World) (hl : zs.length = 512) (hb : BytesIn w a zs) (hc : 512 ≤ cap) :
    Calls Tryz.prog 68 #[.slice a 512 cap] w (RetB (sealZ zs) 512 0 w) := by
  obtain ⟨b, off, rfl, hlt, hr⟩ : ∃ b off, a = some ⟨b, off, none⟩ ∧ b < w.heap.size ∧ RowAt w b off zs := by
    rcases hb with hb | hb
    · rw [hb] at hl; cases hl
    · exact hb
  have hz : Bytes zs := hr.2
  have HL := Lib.hid hl; clear hl
  have HB := Lib.hid hb; clear hb
  have HR := Lib.hid hr; clear hr
  have HZ := Lib.hid hz; clear hz
  have HLT := Lib.hid hlt; clear hlt
  obtain ⟨i0, HI⟩ := info_u8 Tryz.info5
  have HT := Lib.hid hdrT
  have c1 : ¬ cap = 0 := by omega
  have c2 : ¬ cap = 156 := by omega
  have c3 : ¬ cap < 148 := by omega
  have c4 : 148 ≤ cap := by omega
  go_enter Tryz.func68, Tryz.ntmps68
  go_wp2_with fail
  refine (rsum_ok _ cap zs _ HL.out HB.out).mono ?_; rintro e w1 ⟨rfl, rfl⟩
  obtain ⟨n, hn⟩ := named (sumZ zs)
  have FN : Hid (0 ≤ n ∧ n ≤ mx 6) := by show _ ∧ _; rw [hn.out]; exact sumZ_fits HZ.out HL.out
  rw [← hn.out]
  go_wp2_with fail
  refine (rfmt_ok n 7 6 _ (by decide) (by decide) (by decide) FN.out.1 FN.out.2).mono ?_; rintro e w1 ⟨b1, cp1, rfl, hrow1, hlt1, hb1⟩
  have R1 := Lib.hid hrow1; have B1 := Lib.hid hb1; have L1 := Lib.hid hlt1; clear hrow1 hb1 hlt1
  have Z1 := Lib.hid B1.out.size
  have D1 : Hid (BytesIn w1 (some ⟨b1, 0, none⟩) (fld 6 n)) := .of_row R1.out L1.out
  have X1 : Hid (BytesIn w1 (some ⟨b, off, none⟩) (zs.take 148)) := .inr ⟨b, off, rfl, Nat.lt_of_lt_of_le HLT.out Z1.out, (HR.out.below B1.out HLT.out).take 148⟩
  have Y1 : Hid (BytesIn w1 (some ⟨b, off + 156, none⟩) (zs.drop 156)) := .inr ⟨b, off + 156, rfl, Nat.lt_of_lt_of_le HLT.out Z1.out, (HR.out.below B1.out HLT.out).drop 156⟩
  go_wp2_with (first | (refine wpList_lit_none rfl 24 5 rfl Tryz.underlying24 HT.out.elem ?_; intro w2 h2 b2; have O2 := Lib.hid h2; have B2 := Lib.hid b2; clear h2 b2; have Z2 := Lib.hid B2.out.size) | (at_builtin; refine wpList_append_in rfl _ _ 24 rfl w1.heap.size 5 i0 Tryz.underlying24 HI (.slice (some ⟨w1.heap.size, 0, none⟩) 0 0) 0 [] rfl O2.out (some ⟨b, off, none⟩) 148 cap (zs.take 148) rfl (X1.out.below B2.out) (by rw [List.length_take, HL.out]; rfl) (by decide) Z2.out ?_; intro v3 w3 h3 b3; have O3 := Lib.hid h3; have B3 := Lib.hid (B2.out.trans b3); clear h3 b3; have Z3 := Lib.hid B3.out.size) | (at_builtin; refine wpList_append_in rfl _ _ 24 rfl w1.heap.size 5 i0 Tryz.underlying24 HI v3 _ _ rfl O3.out (some ⟨b1, 0, none⟩) 7 cp1 (fld 6 n) rfl (D1.out.below B3.out) (fld_length _ _) (by decide) Z3.out ?_; intro v4 w4 h4 b4; have O4 := Lib.hid h4; have B4 := Lib.hid (B3.out.trans b4); clear h4 b4; have Z4 := Lib.hid B4.out.size) | (refine wpList_lit_one rfl 24 5 _ rfl Tryz.underlying24 Tryz.info5 32 rfl (by decide) ?_; intro w5 h5 b5; have A5 := Lib.hid h5; have O5 := Lib.hid (own_keep O4.out b5 (Nat.le_refl _)); have B5 := Lib.hid (B4.out.trans (b5.mono Z4.out)); clear h5 b5; have Z5 := Lib.hid B5.out.size) | (at_builtin; refine wpList_append_in rfl _ _ 24 rfl w1.heap.size 5 i0 Tryz.underlying24 HI v4 _ _ rfl O5.out (some ⟨w4.heap.size, 0, none⟩) 1 1 [32] rfl A5.out.bytes rfl (by decide) Z5.out ?_; intro v6 w6 h6 b6; have O6 := Lib.hid h6; have B6 := Lib.hid (B5.out.trans b6); clear h6 b6; have Z6 := Lib.hid B6.out.size) | (at_builtin; refine wpList_append_in rfl _ _ 24 rfl w1.heap.size 5 i0 Tryz.underlying24 HI v6 _ _ rfl O6.out (some ⟨b, off + 156, none⟩) 356 (cap - 156) (zs.drop 156) rfl (Y1.out.below B6.out) (by rw [List.length_drop, HL.out]) (by decide) Z6.out ?_; intro v7 w7 h7 b7; have O7 := Lib.hid h7; have B7 := Lib.hid (B6.out.trans b7); clear h7 b7))
  have hz : [] ++ zs.take 148 ++ fld 6 n ++ [32] ++ zs.drop 156 = sealZ zs := by
    rw [hn.out]; unfold sealZ lay fieldZ; simp [fld_length]
  have o7 := O7.out
  rw [hz] at o7
  obtain ⟨g, c, rfl, _, hg, hrow, hcc, hcm⟩ := own_form o7 (by decide) (seal_bytes HZ.out)
  have G7 := Lib.hid hg; have R7 := Lib.hid hrow; have C7 := Lib.hid hcc; have M7 := Lib.hid hcm
  clear o7 hrow hz hg hcc hcm
  go_ret2
  exact ⟨_, _, rfl, R7.out, G7.out, B1.out.trans (B7.out.mono Z1.out), C7.out, M7.out⟩
theorem rseal_ok (a : Option Addr) (cap : Nat) (zs : List Int) (w : World) (hl : zs.length = 512) (hb : BytesIn w a zs) (hc : 512 ≤ cap) :
    Calls Tryz.prog 68 #[.slice a 512 cap] w (RetBytes (sealZ zs) 512 0 w) := (rseal_okB a cap zs w hl hb hc).mono fun _ _ h => h.ret

theorem str_ne {xs ys : List Int} (hx : Bytes xs) (hy : Bytes ys) (h : ¬ xs = ys) : ¬ strOfNums xs = strOfNums ys := fun e => h (by
  rw [← numsOf_strOfNums hx, ← numsOf_strOfNums hy, e])
end Go.Proofs.YtbbaleambgaanaaGreatDoor.Chk
/-
  Layer 10: the reference's Plan: the target fits, the path fits, the size fits.
-/
namespace Go.Proofs.YtbbaleambgaanaaGreatDoor.Fit
open Go.RowKit Pxr Pnm

set_option maxHeartbeats 8000000 in
set_option maxRecDepth 100000 in
theorem rpl_fff (k : Int) (p : ByteArray) (m : Int) (t : ByteArray) (s : Int) (w : World) (T : Int) (PF NM : ByteArray) (k0 : 0 ≤ k) (k4 : k < 4)
    (KT : Hid (T = tyZ k))
    (C1 : Hid (∀ w', Below w.heap.size w w' → Calls Tryz.prog 60 #[.agg (enV k p m t s).toArray] w' fun e w'' => e = .returned (.int .i64 0) ∧ Below w'.heap.size w' w''))
    (C2 : Hid (∀ w', Calls Tryz.prog 61 #[.string p] w' fun e w'' => e = .returned (.tuple #[.string PF, .string NM, .bool true]) ∧ Below w'.heap.size w' w''))
    (ht : (t.size : Int) ≤ 100) (hs : s ≤ 8589934591) :
    Calls Tryz.prog 26 #[.agg (enV k p m t s).toArray] w (RetPl T NM PF t m s [] 0 w) := by
  have HO := Lib.hid hdTr; have EO := Lib.hid enT
  have HZ := Lib.hid zHr
  have S1 := Lib.hid sStr; have S6 := Lib.hid sI64
  obtain ⟨i0, hI⟩ := recI
  have hJ := Lib.hid recJ
  have HU := Lib.hid Tryz.underlying57
  have HUB := Lib.hid Tryz.underlying24
  have HJB := Lib.hid u8J
  go_enter Tryz.func26, Tryz.ntmps26
  go_wp2_with (first | (refine wpList_box_obj rfl 23 _ rfl (enV k p m t s) rfl ?_; intro w1 g1 b1; have H1 := Lib.hid g1; have B1 := Lib.hid b1; clear g1 b1) | (refine wpList_alloc_obj rfl 67 rfl Ust.hd0 HZ.out ?_; intro w2 g2 b2; have R2 := Lib.hid g2; have E2 := Lib.hid (H1.out.below b2 H1.out.lt); have B2 := Lib.hid (belT B1.out b2); have c0 := E2.out.get 0 rfl; have c1 := E2.out.get 1 rfl; have c2 := E2.out.get 2 rfl; have c3 := E2.out.get 3 rfl; have c4 := E2.out.get 4 rfl; clear g2 b2))
  refine (C1.out w2 B2.out).mono ?_; rintro e w3 ⟨rfl, b3⟩
  have E3 := Lib.hid (E2.out.below b3 E2.out.lt)
  have R3 := Lib.hid (R2.out.below b3 R2.out.lt)
  have B3 := Lib.hid (belT B2.out b3)
  have N1 : Hid (w.heap.size < w1.heap.size) := H1.out.lt
  have N2 : Hid (w1.heap.size < w3.heap.size) := R3.out.lt
  clear b3 c0 c1 c2 c3 c4
  have KS : Hid (∀ w', Below w3.heap.size w3 w' → (fun w' : World => w'.cell? ⟨w.heap.size, 0, none⟩ = some (.int .i64 k) ∧ w'.cell? ⟨w.heap.size, 2, none⟩ = some (.int .i64 m)) w') := fun w' hb => ⟨(E3.out.below hb E3.out.lt).get 0 rfl, (E3.out.below hb E3.out.lt).get 2 rfl⟩
  go_wp2_with fail
  refine wp_region_held_drew (S := (fun w' : World => w'.cell? ⟨w.heap.size, 0, none⟩ = some (.int .i64 k) ∧ w'.cell? ⟨w.heap.size, 2, none⟩ = some (.int .i64 m))) (by kernel_rfl) (KS.out _ (Below.refl _ _).drew) (fun hHeld => ?_)
  refine wpAnyH_take (i := 1) (oi := { dst := some 18, op := Go.Op.fieldAddr 23 (Go.Operand.tmp 1) 0, type := 0, pos := "ref.go:70", after := #[], guard := none }) (v := ?_) rfl (by kernel_rfl) (by kernel_rfl) (by kernel_rfl) (fun _ _ _ h => h) (Or.inl ⟨by rfl, ?_⟩) (by assumption) ?_
  rotate_left 1
  focus ((intro wS hSw; (try dsimp only at hSw); go_simp) <;> (try with_reducible rfl))
  simp only [Act.put, List.setIfInBounds_toArray, List.set_cons_zero, List.set_cons_succ]
  refine wpAnyH_take (i := 2) (oi := { dst := some 19, op := Go.Op.load 3 (Go.Operand.tmp 18), type := 3, pos := "ref.go:70", after := #[{ on := 1, ground := Go.Ground.data }], guard := none }) (v := ?_) rfl (by kernel_rfl) (by kernel_rfl) (by kernel_rfl) (fun _ _ _ h => h) (Or.inl ⟨by rfl, ?_⟩) (by assumption) ?_
  rotate_left 1
  focus ((intro wS hSw; (try dsimp only at hSw); go_simp) <;> (try with_reducible rfl))
  simp only [Act.put, List.setIfInBounds_toArray, List.set_cons_zero, List.set_cons_succ]
  refine wpAnyH_take (i := 5) (oi := { dst := some 22, op := Go.Op.fieldAddr 23 (Go.Operand.tmp 1) 2, type := 0, pos := "ref.go:70", after := #[], guard := none }) (v := ?_) rfl (by kernel_rfl) (by kernel_rfl) (by kernel_rfl) (fun _ _ _ h => h) (Or.inl ⟨by rfl, ?_⟩) (by assumption) ?_
  rotate_left 1
  focus ((intro wS hSw; (try dsimp only at hSw); go_simp) <;> (try with_reducible rfl))
  simp only [Act.put, List.setIfInBounds_toArray, List.set_cons_zero, List.set_cons_succ]
  refine wpAnyH_take (i := 6) (oi := { dst := some 23, op := Go.Op.load 3 (Go.Operand.tmp 22), type := 3, pos := "ref.go:70", after := #[{ on := 5, ground := Go.Ground.data }], guard := none }) (v := ?_) rfl (by kernel_rfl) (by kernel_rfl) (by kernel_rfl) (fun _ _ _ h => h) (Or.inl ⟨by rfl, ?_⟩) (by assumption) ?_
  rotate_left 1
  focus ((intro wS hSw; (try dsimp only at hSw); go_simp) <;> (try with_reducible rfl))
  simp only [Act.put, List.setIfInBounds_toArray, List.set_cons_zero, List.set_cons_succ]
  refine wpAnyH_ready (rs := [0, 8]) (by kernel_rfl) (by simp) ?_
  refine AllReadyH.cons (o := { dst := some 17, op := Go.Op.buildSlice 24 4 #[(0, Go.Operand.const (Go.Value.int Go.IntKind.u8 53)), (1, Go.Operand.const (Go.Value.int Go.IntKind.u8 48)), (2, Go.Operand.const (Go.Value.int Go.IntKind.u8 50)), (3, Go.Operand.const (Go.Value.int Go.IntKind.u8 49))], type := 24, pos := "ref.go:70", after := #[], guard := none }) rfl (fun K hK => ?_) (AllReadyH.cons (o := { dst := some 6, op := Go.Op.alloc 67, type := 0, pos := "ref.go:70", after := #[], guard := none }) rfl (fun K hK => ?_) AllReadyH.nil)
  · refine step_lit_u8_4 rfl 24 5 (.const (.int .u8 53)) (.const (.int .u8 48)) (.const (.int .u8 50)) (.const (.int .u8 49)) rfl HUB.out HJB.out 53 48 50 49 rfl rfl rfl rfl ?_
    intro wl gl bl
    have RL := Lib.hid gl; have BL := Lib.hid bl; clear gl bl
    have DL : Hid (Below w3.heap.size w3 wl) := (Below.refl _ _).drew.trans BL.out
    have KL : Hid (∀ w', Below wl.heap.size wl w' → w'.cell? ⟨w3.heap.size, k.toNat, none⟩ = some (.int .u8 T)) := fun w' hb => by rw [KT.out]; exact (RL.out.below hb RL.out.lt).get k.toNat (tys_at k0 k4)
    refine hK.out _ _ (KS.out _ DL.out) (fun hHeld => ?_)
    clear hK K
    (try simp only [Act.put, List.setIfInBounds_toArray, List.set_cons_zero, List.set_cons_succ])
    refine wpAnyH_switch (S2 := (fun w' : World => w'.cell? ⟨w3.heap.size, k.toNat, none⟩ = some (.int .u8 T) ∧ w'.cell? ⟨w.heap.size, 0, none⟩ = some (.int .i64 k) ∧ w'.cell? ⟨w.heap.size, 2, none⟩ = some (.int .i64 m))) (fun _ h => h.2) ?_
    have hHeld : ((fun w' : World => w'.cell? ⟨w3.heap.size, k.toNat, none⟩ = some (.int .u8 T) ∧ w'.cell? ⟨w.heap.size, 0, none⟩ = some (.int .i64 k) ∧ w'.cell? ⟨w.heap.size, 2, none⟩ = some (.int .i64 m))) _ := ⟨KL.out _ (Below.refl _ _), KS.out _ DL.out⟩
    refine wpAnyH_take (i := 3) (oi := { dst := some 20, op := Go.Op.indexAddr 24 (Go.Operand.tmp 17) (Go.Operand.tmp 19), type := 0, pos := "ref.go:70", after := #[{ on := 0, ground := Go.Ground.data }, { on := 2, ground := Go.Ground.data }], guard := none }) (v := ?_) rfl (by kernel_rfl) (by kernel_rfl) (by kernel_rfl) (fun _ _ _ h => h) (Or.inl ⟨by rfl, ?_⟩) (by assumption) ?_
    rotate_left 1
    focus ((intro wS hSw; (try dsimp only at hSw); go_simp) <;> (try with_reducible rfl))
    simp only [Act.put, List.setIfInBounds_toArray, List.set_cons_zero, List.set_cons_succ]
    refine wpAnyH_take (i := 4) (oi := { dst := some 21, op := Go.Op.load 5 (Go.Operand.tmp 20), type := 5, pos := "ref.go:70", after := #[{ on := 3, ground := Go.Ground.data }], guard := none }) (v := ?_) rfl (by kernel_rfl) (by kernel_rfl) (by kernel_rfl) (fun _ _ _ h => h) (Or.inl ⟨by rfl, ?_⟩) (by assumption) ?_
    rotate_left 1
    focus ((intro wS hSw; (try dsimp only at hSw); go_simp) <;> (try with_reducible rfl))
    simp only [Act.put, List.setIfInBounds_toArray, List.set_cons_zero, List.set_cons_succ]
    refine wpAnyH_take (i := 7) (oi := { dst := some 24, op := Go.Op.build 67 #[(0, Go.Operand.tmp 21), (4, Go.Operand.tmp 23)], type := 67, pos := "ref.go:70", after := #[{ on := 4, ground := Go.Ground.data }, { on := 6, ground := Go.Ground.data }], guard := none }) (v := ?_) rfl (by kernel_rfl) (by kernel_rfl) (by kernel_rfl) (fun _ _ _ h => h) (Or.inl ⟨by rfl, ?_⟩) (by assumption) ?_
    rotate_left 1
    focus ((intro wS hSw; (try dsimp only at hSw); go_simp) <;> (try with_reducible rfl))
    simp only [Act.put, List.setIfInBounds_toArray, List.set_cons_zero, List.set_cons_succ]
    refine wpAnyH_ready (rs := [8]) (by kernel_rfl) (by simp) ?_
    refine AllReadyH.cons (o := { dst := some 6, op := Go.Op.alloc 67, type := 0, pos := "ref.go:70", after := #[], guard := none }) rfl (fun K hK => ?_) AllReadyH.nil
    refine step_alloc_obj rfl 67 rfl Ust.hd0 HZ.out ?_
    intro w4 g4 b4
    have R4 := Lib.hid g4; have A4 := Lib.hid b4; clear g4 b4
    have D4 : Hid (Below w3.heap.size w3 w4) := DL.out.trans (A4.out.mono DL.out.size)
    refine hK.out _ _ (⟨KL.out _ A4.out, KS.out _ D4.out⟩) (fun hHeld => ?_)
    clear hK K
    (try simp only [Act.put, List.setIfInBounds_toArray, List.set_cons_zero, List.set_cons_succ])
    refine wpAnyH_ready (rs := [9]) (by kernel_rfl) (by simp) ?_
    refine AllReadyH.cons (o := { dst := none, op := Go.Op.store 67 (Go.Operand.tmp 6) (Go.Operand.tmp 24), type := 0, pos := "ref.go:70", after := #[{ on := 8, ground := Go.Ground.data }, { on := 7, ground := Go.Ground.data }, { on := 0, ground := Go.Ground.phase }, { on := 1, ground := Go.Ground.phase }, { on := 2, ground := Go.Ground.phase }, { on := 3, ground := Go.Ground.phase }, { on := 4, ground := Go.Ground.phase }, { on := 5, ground := Go.Ground.phase }, { on := 6, ground := Go.Ground.phase }, { on := 7, ground := Go.Ground.phase }, { on := 8, ground := Go.Ground.phase }], guard := none }) rfl (fun K hK => ?_) AllReadyH.nil
    refine step_store_obj rfl 67 (.tmp 6) (.tmp 24) rfl wl.heap.size rfl (Ust.hdV T emp emp emp m 0) Ust.hd0 rfl 67 R4.out HO.out.2 rfl (hd_one _ _ _ _ _ _) ?_
    intro w5 g5 t5
    have R5 := Lib.hid g5; have T5 := Lib.hid t5; clear g5 t5
    have A5 : Hid (Below wl.heap.size wl w5) := A4.out.trans (T5.out.below (Nat.le_refl _))
    refine hK.out _ _ (⟨KL.out _ A5.out, KS.out _ (D4.out.trans (T5.out.below DL.out.size))⟩) (fun hHeld => ?_)
    clear hK K
    (try simp only [Act.put])
    refine wpAnyH_done (by kernel_rfl) ?_ _
    have D5 : Hid (Below w3.heap.size w3 w5) := D4.out.trans (T5.out.below DL.out.size)
    have N3 : Hid (w3.heap.size ≤ wl.heap.size) := DL.out.size
    have X5 : Hid (ObjAt w5 wl.heap.size 67 (Ust.hdV T emp emp emp m 0)) := R5.out
    have E5 := Lib.hid (E3.out.below D5.out E3.out.lt)
    have Q5 := Lib.hid (R3.out.below D5.out R3.out.lt)
    have B5 := Lib.hid (belT B3.out D5.out)
    have LB : Hid (w.heap.size < wl.heap.size ∧ w1.heap.size < wl.heap.size) := ⟨by have := N1.out; have := N2.out; have := N3.out; omega, by have := N2.out; have := N3.out; omega⟩
    have c1 := E5.out.get 1 rfl; have c3 := E5.out.get 3 rfl; have c4 := E5.out.get 4 rfl
    go_wp2_with (first | (refine wpList_store_cell rfl 9 _ _ rfl wl.heap.size 3 rfl (.string t) rfl rfl S1.out 67 _ X5.out (by show 3 < 6; decide) ?_; intro w6 g6 t6; have X6 : Hid (ObjAt w6 wl.heap.size 67 (Ust.hdV T emp emp t m 0)) := g6; have E6 := Lib.hid (E5.out.turnB t6 (Nat.ne_of_lt LB.out.1)); have Q6 := Lib.hid (Q5.out.turnB t6 (Nat.ne_of_lt LB.out.2)); have B6 := Lib.hid (B5.out.trans (t6.below (Nat.le_of_lt LB.out.1))); clear g6 t6 c1 c3 c4; have c1 := E6.out.get 1 rfl; have c3 := E6.out.get 3 rfl; have c4 := E6.out.get 4 rfl))
    refine (C2.out w6).mono ?_; rintro e w7 ⟨rfl, b7⟩
    have E7 := Lib.hid (E6.out.below b7 E6.out.lt)
    have Q7 := Lib.hid (Q6.out.below b7 Q6.out.lt)
    have X7 := Lib.hid (X6.out.below b7 X6.out.lt)
    have B7 := Lib.hid (belT B6.out b7)
    clear b7 c1 c3 c4
    have c1 := E7.out.get 1 rfl; have c3 := E7.out.get 3 rfl; have c4 := E7.out.get 4 rfl
    go_wp2_with (first | (refine wpList_store_cell rfl 9 _ _ rfl wl.heap.size 2 rfl (.string PF) rfl rfl S1.out 67 _ X7.out (by show 2 < 6; decide) ?_; intro w8 g8 t8; have X8 : Hid (ObjAt w8 wl.heap.size 67 (Ust.hdV T emp PF t m 0)) := g8; have E8 := Lib.hid (E7.out.turnB t8 (Nat.ne_of_lt LB.out.1)); have Q8 := Lib.hid (Q7.out.turnB t8 (Nat.ne_of_lt LB.out.2)); have B8 := Lib.hid (B7.out.trans (t8.below (Nat.le_of_lt LB.out.1))); clear g8 t8 c1 c3 c4; have c1 := E8.out.get 1 rfl; have c3 := E8.out.get 3 rfl; have c4 := E8.out.get 4 rfl) | (refine wpList_store_cell rfl 9 _ _ rfl wl.heap.size 1 rfl (.string NM) rfl rfl S1.out 67 _ X8.out (by show 1 < 6; decide) ?_; intro w9 g9 t9; have X9 : Hid (ObjAt w9 wl.heap.size 67 (Ust.hdV T NM PF t m 0)) := g9; have E9 := Lib.hid (E8.out.turnB t9 (Nat.ne_of_lt LB.out.1)); have Q9 := Lib.hid (Q8.out.turnB t9 (Nat.ne_of_lt LB.out.2)); have B9 := Lib.hid (B8.out.trans (t9.below (Nat.le_of_lt LB.out.1))); clear g9 t9 c1 c3 c4; have c1 := E9.out.get 1 rfl; have c3 := E9.out.get 3 rfl; have c4 := E9.out.get 4 rfl) | (refine wpList_store_cell rfl 2 _ _ rfl wl.heap.size 5 rfl (.int .i64 s) rfl rfl S6.out 67 _ X9.out (by show 5 < 6; decide) ?_; intro w10 g10 t10; have X10 : Hid (ObjAt w10 wl.heap.size 67 (Ust.hdV T NM PF t m s)) := g10; have E10 := Lib.hid (E9.out.turnB t10 (Nat.ne_of_lt LB.out.1)); have Q10 := Lib.hid (Q9.out.turnB t10 (Nat.ne_of_lt LB.out.2)); have B10 := Lib.hid (B9.out.trans (t10.below (Nat.le_of_lt LB.out.1))); clear g10 t10 c1 c3 c4; have c1 := E10.out.get 1 rfl; have c3 := E10.out.get 3 rfl; have c4 := E10.out.get 4 rfl) | (refine wpList_load_obj rfl 67 6 HO.out _ rfl wl.heap.size rfl 67 (Ust.hdV T NM PF t m s) X10.out rfl ?_) | (refine wpList_store_obj rfl 67 _ _ rfl w1.heap.size rfl (Ust.hdV T NM PF t m s) Ust.hd0 rfl 67 Q10.out HO.out.2 rfl (hd_one _ _ _ _ _ _) ?_; intro w11 g11 t11; have Q11 := Lib.hid g11; have T11 := Lib.hid t11; clear g11 t11))
    exact bodyPost_ret (results_obj_two Tryz.results26 HO.out _ w1.heap.size rfl _ (Ust.hdV T NM PF t m s) Q11.out rfl) rfl (.nil (B10.out.trans (T11.out.below (Nat.le_of_lt N1.out))))
  · refine step_alloc_obj rfl 67 rfl Ust.hd0 HZ.out ?_
    intro w4 g4 b4
    have R4 : Hid (ObjAt w4 w3.heap.size 67 Ust.hd0) := g4; have A4 : Hid (Below w3.heap.size w3 w4) := (Below.refl _ _).drew.trans b4; clear g4 b4
    refine hK.out _ _ (KS.out _ A4.out) (fun hHeld => ?_)
    clear hK K
    (try simp only [Act.put, List.setIfInBounds_toArray, List.set_cons_zero, List.set_cons_succ])
    refine wpAnyH_ready (rs := [0]) (by kernel_rfl) (by simp) ?_
    refine AllReadyH.cons (o := { dst := some 17, op := Go.Op.buildSlice 24 4 #[(0, Go.Operand.const (Go.Value.int Go.IntKind.u8 53)), (1, Go.Operand.const (Go.Value.int Go.IntKind.u8 48)), (2, Go.Operand.const (Go.Value.int Go.IntKind.u8 50)), (3, Go.Operand.const (Go.Value.int Go.IntKind.u8 49))], type := 24, pos := "ref.go:70", after := #[], guard := none }) rfl (fun K hK => ?_) AllReadyH.nil
    refine step_lit_u8_4 rfl 24 5 (.const (.int .u8 53)) (.const (.int .u8 48)) (.const (.int .u8 50)) (.const (.int .u8 49)) rfl HUB.out HJB.out 53 48 50 49 rfl rfl rfl rfl ?_
    intro wl gl bl
    have RL := Lib.hid gl; have BL := Lib.hid bl; clear gl bl
    have DL : Hid (Below w3.heap.size w3 wl) := A4.out.trans (BL.out.mono A4.out.size)
    have KL : Hid (∀ w', Below wl.heap.size wl w' → w'.cell? ⟨w4.heap.size, k.toNat, none⟩ = some (.int .u8 T)) := fun w' hb => by rw [KT.out]; exact (RL.out.below hb RL.out.lt).get k.toNat (tys_at k0 k4)
    refine hK.out _ _ (KS.out _ DL.out) (fun hHeld => ?_)
    clear hK K
    (try simp only [Act.put, List.setIfInBounds_toArray, List.set_cons_zero, List.set_cons_succ])
    refine wpAnyH_switch (S2 := (fun w' : World => w'.cell? ⟨w4.heap.size, k.toNat, none⟩ = some (.int .u8 T) ∧ w'.cell? ⟨w.heap.size, 0, none⟩ = some (.int .i64 k) ∧ w'.cell? ⟨w.heap.size, 2, none⟩ = some (.int .i64 m))) (fun _ h => h.2) ?_
    have hHeld : ((fun w' : World => w'.cell? ⟨w4.heap.size, k.toNat, none⟩ = some (.int .u8 T) ∧ w'.cell? ⟨w.heap.size, 0, none⟩ = some (.int .i64 k) ∧ w'.cell? ⟨w.heap.size, 2, none⟩ = some (.int .i64 m))) _ := ⟨KL.out _ (Below.refl _ _), KS.out _ DL.out⟩
    refine wpAnyH_take (i := 3) (oi := { dst := some 20, op := Go.Op.indexAddr 24 (Go.Operand.tmp 17) (Go.Operand.tmp 19), type := 0, pos := "ref.go:70", after := #[{ on := 0, ground := Go.Ground.data }, { on := 2, ground := Go.Ground.data }], guard := none }) (v := ?_) rfl (by kernel_rfl) (by kernel_rfl) (by kernel_rfl) (fun _ _ _ h => h) (Or.inl ⟨by rfl, ?_⟩) (by assumption) ?_
    rotate_left 1
    focus ((intro wS hSw; (try dsimp only at hSw); go_simp) <;> (try with_reducible rfl))
    simp only [Act.put, List.setIfInBounds_toArray, List.set_cons_zero, List.set_cons_succ]
    refine wpAnyH_take (i := 4) (oi := { dst := some 21, op := Go.Op.load 5 (Go.Operand.tmp 20), type := 5, pos := "ref.go:70", after := #[{ on := 3, ground := Go.Ground.data }], guard := none }) (v := ?_) rfl (by kernel_rfl) (by kernel_rfl) (by kernel_rfl) (fun _ _ _ h => h) (Or.inl ⟨by rfl, ?_⟩) (by assumption) ?_
    rotate_left 1
    focus ((intro wS hSw; (try dsimp only at hSw); go_simp) <;> (try with_reducible rfl))
    simp only [Act.put, List.setIfInBounds_toArray, List.set_cons_zero, List.set_cons_succ]
    refine wpAnyH_take (i := 7) (oi := { dst := some 24, op := Go.Op.build 67 #[(0, Go.Operand.tmp 21), (4, Go.Operand.tmp 23)], type := 67, pos := "ref.go:70", after := #[{ on := 4, ground := Go.Ground.data }, { on := 6, ground := Go.Ground.data }], guard := none }) (v := ?_) rfl (by kernel_rfl) (by kernel_rfl) (by kernel_rfl) (fun _ _ _ h => h) (Or.inl ⟨by rfl, ?_⟩) (by assumption) ?_
    rotate_left 1
    focus ((intro wS hSw; (try dsimp only at hSw); go_simp) <;> (try with_reducible rfl))
    simp only [Act.put, List.setIfInBounds_toArray, List.set_cons_zero, List.set_cons_succ]
    refine wpAnyH_ready (rs := [9]) (by kernel_rfl) (by simp) ?_
    refine AllReadyH.cons (o := { dst := none, op := Go.Op.store 67 (Go.Operand.tmp 6) (Go.Operand.tmp 24), type := 0, pos := "ref.go:70", after := #[{ on := 8, ground := Go.Ground.data }, { on := 7, ground := Go.Ground.data }, { on := 0, ground := Go.Ground.phase }, { on := 1, ground := Go.Ground.phase }, { on := 2, ground := Go.Ground.phase }, { on := 3, ground := Go.Ground.phase }, { on := 4, ground := Go.Ground.phase }, { on := 5, ground := Go.Ground.phase }, { on := 6, ground := Go.Ground.phase }, { on := 7, ground := Go.Ground.phase }, { on := 8, ground := Go.Ground.phase }], guard := none }) rfl (fun K hK => ?_) AllReadyH.nil
    have R4l := Lib.hid (R4.out.below BL.out R4.out.lt)
    refine step_store_obj rfl 67 (.tmp 6) (.tmp 24) rfl w3.heap.size rfl (Ust.hdV T emp emp emp m 0) Ust.hd0 rfl 67 R4l.out HO.out.2 rfl (hd_one _ _ _ _ _ _) ?_
    intro w5 g5 t5
    have R5 := Lib.hid g5; have T5 := Lib.hid t5; clear g5 t5
    have kl5 : w5.cell? ⟨w4.heap.size, k.toNat, none⟩ = some (.int .u8 T) := by rw [KT.out]; exact (RL.out.turned T5.out (Nat.ne_of_gt R4.out.lt)).get k.toNat (tys_at k0 k4)
    refine hK.out _ _ (⟨kl5, KS.out _ (DL.out.trans (T5.out.below (Nat.le_refl _)))⟩) (fun hHeld => ?_)
    clear hK K
    (try simp only [Act.put])
    refine wpAnyH_done (by kernel_rfl) ?_ _
    have D5 : Hid (Below w3.heap.size w3 w5) := DL.out.trans (T5.out.below (Nat.le_refl _))
    have N3 : Hid (w3.heap.size ≤ w3.heap.size) := Nat.le_refl _
    have X5 : Hid (ObjAt w5 w3.heap.size 67 (Ust.hdV T emp emp emp m 0)) := R5.out
    have E5 := Lib.hid (E3.out.below D5.out E3.out.lt)
    have Q5 := Lib.hid (R3.out.below D5.out R3.out.lt)
    have B5 := Lib.hid (belT B3.out D5.out)
    have LB : Hid (w.heap.size < w3.heap.size ∧ w1.heap.size < w3.heap.size) := ⟨by have := N1.out; have := N2.out; have := N3.out; omega, by have := N2.out; have := N3.out; omega⟩
    have c1 := E5.out.get 1 rfl; have c3 := E5.out.get 3 rfl; have c4 := E5.out.get 4 rfl
    go_wp2_with (first | (refine wpList_store_cell rfl 9 _ _ rfl w3.heap.size 3 rfl (.string t) rfl rfl S1.out 67 _ X5.out (by show 3 < 6; decide) ?_; intro w6 g6 t6; have X6 : Hid (ObjAt w6 w3.heap.size 67 (Ust.hdV T emp emp t m 0)) := g6; have E6 := Lib.hid (E5.out.turnB t6 (Nat.ne_of_lt LB.out.1)); have Q6 := Lib.hid (Q5.out.turnB t6 (Nat.ne_of_lt LB.out.2)); have B6 := Lib.hid (B5.out.trans (t6.below (Nat.le_of_lt LB.out.1))); clear g6 t6 c1 c3 c4; have c1 := E6.out.get 1 rfl; have c3 := E6.out.get 3 rfl; have c4 := E6.out.get 4 rfl))
    refine (C2.out w6).mono ?_; rintro e w7 ⟨rfl, b7⟩
    have E7 := Lib.hid (E6.out.below b7 E6.out.lt)
    have Q7 := Lib.hid (Q6.out.below b7 Q6.out.lt)
    have X7 := Lib.hid (X6.out.below b7 X6.out.lt)
    have B7 := Lib.hid (belT B6.out b7)
    clear b7 c1 c3 c4
    have c1 := E7.out.get 1 rfl; have c3 := E7.out.get 3 rfl; have c4 := E7.out.get 4 rfl
    go_wp2_with (first | (refine wpList_store_cell rfl 9 _ _ rfl w3.heap.size 2 rfl (.string PF) rfl rfl S1.out 67 _ X7.out (by show 2 < 6; decide) ?_; intro w8 g8 t8; have X8 : Hid (ObjAt w8 w3.heap.size 67 (Ust.hdV T emp PF t m 0)) := g8; have E8 := Lib.hid (E7.out.turnB t8 (Nat.ne_of_lt LB.out.1)); have Q8 := Lib.hid (Q7.out.turnB t8 (Nat.ne_of_lt LB.out.2)); have B8 := Lib.hid (B7.out.trans (t8.below (Nat.le_of_lt LB.out.1))); clear g8 t8 c1 c3 c4; have c1 := E8.out.get 1 rfl; have c3 := E8.out.get 3 rfl; have c4 := E8.out.get 4 rfl) | (refine wpList_store_cell rfl 9 _ _ rfl w3.heap.size 1 rfl (.string NM) rfl rfl S1.out 67 _ X8.out (by show 1 < 6; decide) ?_; intro w9 g9 t9; have X9 : Hid (ObjAt w9 w3.heap.size 67 (Ust.hdV T NM PF t m 0)) := g9; have E9 := Lib.hid (E8.out.turnB t9 (Nat.ne_of_lt LB.out.1)); have Q9 := Lib.hid (Q8.out.turnB t9 (Nat.ne_of_lt LB.out.2)); have B9 := Lib.hid (B8.out.trans (t9.below (Nat.le_of_lt LB.out.1))); clear g9 t9 c1 c3 c4; have c1 := E9.out.get 1 rfl; have c3 := E9.out.get 3 rfl; have c4 := E9.out.get 4 rfl) | (refine wpList_store_cell rfl 2 _ _ rfl w3.heap.size 5 rfl (.int .i64 s) rfl rfl S6.out 67 _ X9.out (by show 5 < 6; decide) ?_; intro w10 g10 t10; have X10 : Hid (ObjAt w10 w3.heap.size 67 (Ust.hdV T NM PF t m s)) := g10; have E10 := Lib.hid (E9.out.turnB t10 (Nat.ne_of_lt LB.out.1)); have Q10 := Lib.hid (Q9.out.turnB t10 (Nat.ne_of_lt LB.out.2)); have B10 := Lib.hid (B9.out.trans (t10.below (Nat.le_of_lt LB.out.1))); clear g10 t10 c1 c3 c4; have c1 := E10.out.get 1 rfl; have c3 := E10.out.get 3 rfl; have c4 := E10.out.get 4 rfl) | (refine wpList_load_obj rfl 67 6 HO.out _ rfl w3.heap.size rfl 67 (Ust.hdV T NM PF t m s) X10.out rfl ?_) | (refine wpList_store_obj rfl 67 _ _ rfl w1.heap.size rfl (Ust.hdV T NM PF t m s) Ust.hd0 rfl 67 Q10.out HO.out.2 rfl (hd_one _ _ _ _ _ _) ?_; intro w11 g11 t11; have Q11 := Lib.hid g11; have T11 := Lib.hid t11; clear g11 t11))
    exact bodyPost_ret (results_obj_two Tryz.results26 HO.out _ w1.heap.size rfl _ (Ust.hdV T NM PF t m s) Q11.out rfl) rfl (.nil (B10.out.trans (T11.out.below (Nat.le_of_lt N1.out))))
end Go.Proofs.YtbbaleambgaanaaGreatDoor.Fit
