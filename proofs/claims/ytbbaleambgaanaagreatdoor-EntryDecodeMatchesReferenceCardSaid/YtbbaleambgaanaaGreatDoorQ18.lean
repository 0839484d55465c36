/- PaySmall EtrEnc EtrPEnc StrRep EtrAlive -/
import Derived.Test.YtbbaleambgaanaaGreatDoorQ5
import Derived.Test.YtbbaleambgaanaaGreatDoorQ8
import Derived.Test.YtbbaleambgaanaaGreatDoorQ12
import Derived.Test.YtbbaleambgaanaaGreatDoorQ16
import Derived.Test.YtbbaleambgaanaaGreatDoorQ17
import Derived.Test.YtbbaleambgaanaaGreatDoorQ14
import Derived.Test.YtbbaleambgaanaaGreatDoorQ0
import Derived.Lib.Repeat
import Derived.Test.YtbbaleambgaanaaGreatDoorQ6
namespace Go.Proofs.YtbbaleambgaanaaGreatDoor
open Go.RowKit
theorem blocks_any (z : Int) (hz : z ≤ 9223372036854775807) (w : World) : Calls Tryz.prog 59 #[.int .i64 z] w fun e w' => e = .returned (.int .i64 (blkN z.toNat : Nat)) ∧ w = w' := by
  by_cases h0 : z ≤ 0
  · have e : blkN z.toNat = 0 := by rw [show z.toNat = 0 by omega]; rfl
    rw [e]
    clear hz e
    go_enter Tryz.func59, Tryz.ntmps59
    go_wp2
    go_ret
    exact ⟨rfl, rfl⟩
  · obtain ⟨s, rfl⟩ : ∃ s : Nat, z = s + 1 := ⟨(z - 1).toNat, by omega⟩
    have e : ((blkN ((s : Int) + 1).toNat : Nat) : Int) = (s : Int) / 512 + 1 := by
      rw [show ((s : Int) + 1).toNat = s + 1 by omega]; unfold blkN; omega
    rw [e]
    have h1 : ¬ (s : Int) + 1 ≤ 0 := by omega
    have h2 : (s : Int) + 1 - 1 = s := by omega
    have h3 : (s : Int) ≤ 9223372036854775806 := by omega
    clear h0 e hz
    go_enter Tryz.func59, Tryz.ntmps59
    go_wp2
    go_ret
    exact ⟨rfl, rfl⟩
theorem nz_any (d : Int) (w : World) : Calls Tryz.prog 159 #[.int .u8 d] w fun e w' => e = .returned (.bool (d != 0)) ∧ w = w' := by
  go_enter Tryz.func159, Tryz.ntmps159
  go_wp2
  go_ret
  exact ⟨rfl, rfl⟩
set_option maxHeartbeats 1000000 in
theorem ixf_any (a : Option Addr) (n c : Nat) (P : List Int) (w : World) (hi : InK .u8 w a P) (hl : P.length = n) (hn : n ≤ 9223372036854775807) :
    Calls Tryz.prog 69 #[.slice a n c, .func (.func 159) #[] #[]] w fun e w' => e = .returned (.int .i64 (if nzI P < n then (nzI P : Int) else -1)) ∧ w = w' := by
  have HI := Lib.hid hi; have HL := Lib.hid hl
  have hn' : (n : Int) ≤ 9223372036854775807 := by omega
  obtain ⟨R, hR⟩ := named (if nzI P < n then (nzI P : Int) else -1)
  obtain ⟨k, hk⟩ := named (nzI P)
  rw [← hR.out]
  clear hi hl hn
  go_enter Tryz.func69, Tryz.ntmps69
  go_wp2_with fail
  go_loop [5, 8] (fun _ i => ∃ j : Nat, j ≤ k ∧ i = .int .i64 j) (fun _ i => n - (intOf i).toNat)
  case atStart => exact ⟨0, Nat.zero_le _, rfl⟩
  case round =>
    obtain ⟨j, hj, rfl⟩ := hrel
    have HJ := Lib.hid hj
    clear hj
    have hkn : k ≤ n := by rw [hk.out, ← HL.out]; exact nzI_le P
    by_cases hlt : j < n
    · have hlt' : (j : Int) < n := by omega
      obtain ⟨b, off, rfl, _⟩ := HI.out.plain (by rw [HL.out]; omega)
      obtain ⟨d, hd⟩ := named (P.getD j 0)
      have hcell := HI.out.get j (by rw [HL.out]; exact hlt)
      rw [← hd.out] at hcell
      by_cases hjk : j < k
      · have hd0 : d = 0 := by rw [hd.out]; exact nzI_zero (by rw [← hk.out]; exact hjk)
        have hne : (d != 0) = false := by rw [hd0]; rfl
        clear hd hd0
        go_wp2_with fail
        refine (nz_any d w).mono ?_; rintro e w1 ⟨rfl, rfl⟩
        rw [hne]
        go_wp2_with fail
        go_round
        case rel => exact ⟨j + 1, by omega, by go_num⟩
        case measure => simp [intOf]; omega
      · obtain rfl : j = k := by have := HJ.out; omega
        have hd0 : d ≠ 0 := by rw [hd.out, hk.out]; exact nzI_lt (by rw [← hk.out, HL.out]; omega)
        have hne : (d != 0) = true := by simp [hd0]
        have hR1 : R = j := by rw [hR.out, ← hk.out, if_pos hlt]
        clear hR hd hd0
        subst hR1
        go_wp2_with fail
        refine (nz_any d w).mono ?_; rintro e w1 ⟨rfl, rfl⟩
        rw [hne]
        go_wp2_with fail
        go_ret
        exact ⟨rfl, rfl⟩
    · have hj : j = n := by have := HJ.out; omega
      have hR1 : R = -1 := by rw [hR.out, ← hk.out, if_neg (by have := HJ.out; omega)]
      clear hR
      subst hR1
      subst hj
      go_wp2_with fail
      go_ret
      exact ⟨rfl, rfl⟩
end Go.Proofs.YtbbaleambgaanaaGreatDoor
namespace Go.Proofs.YtbbaleambgaanaaGreatDoor
open Go.RowKit
theorem wpList_append_full {P : Program} {w : World} {ops : Array Oper} {rest : List Oper} {o : Oper} {a : Act} {Q : Exit → Act → World → Prop} (hgd : o.guard = none) (s x : Operand) (t : TypeId)
    (ho : o.op = .call { callee := .builtin .append, args := #[s, x], argTypes := #[t, t] })
    (e : TypeId) (i0 : TypeInfo) (hT : P.underlying t = some (.slice e)) (hI : Hid (P.info? e = some i0 ∧ i0.zero = some (.int .u8 0) ∧ i0.size = 1 ∧ i0.bytes = 1))
    (g n : Nat) (zs : List Int) (hs : a.eval s = .slice (some ⟨g, 0, none⟩) n n) (hz : RowAt w g 0 zs) (hn : zs.length = n)
    (b : Option Addr) (m c : Nat) (ys : List Int) (hx : a.eval x = .slice b m c) (hy : BytesIn w b ys) (hl : ys.length = m) (hm : 0 < m) (h47 : n + m ≤ 140737488355328)
    (K : ∀ v' w', w'.ownsRow w.heap.size e 1 v' (n + m) ((zs ++ ys).map (.int .u8)) → Below w.heap.size w w' → wpList P ops Q rest (a.put o.dst v') w') : wpList P ops Q (o :: rest) a w := by
  rcases hy with hy | ⟨b', off, rfl, _, hy⟩
  · rw [hy] at hl; rw [← hl] at hm; cases hm
  obtain ⟨hi, hz0, hsz, hby⟩ := hI.out
  have hr := run_append_grow (P := P) w t o.type e i0 (.int .u8 0) hT hi hz0 ⟨g, 0, none⟩ n n (zs.map (Value.int .u8)) (by rw [List.length_map, hn, hsz, Nat.mul_one]) hz.news ⟨b', off, none⟩ m c (ys.map (Value.int .u8)) (by rw [List.length_map, hl, hsz, Nat.mul_one]) hy.news (by omega) (by omega)
    (growslice_fits (by omega) (by rw [hby]; omega))
  have hge := grownCap_ge w (n + m) n e
  have hcm : grownCap w (n + m) n e ≤ maxLen := grownCap_le_maxLen w (n + m) n e (by unfold maxLen; omega)
  have hlen : ((zs.map (Value.int .u8)) ++ (ys.map (Value.int .u8))).length = (n + m) * 1 := by rw [List.length_append, List.length_map, List.length_map]; omega
  refine wpList_plain hgd fun K' hK => ?_
  unfold Oper.wp
  simp [execOp, ho, resolve, invoke, builtin, hs, hx, hr, Result.andThen]
  refine hK _ _ (K _ _ ⟨by rw [List.map_append]; exact hlen, .inr ⟨w.heap.size, _, _, rfl, Nat.le_refl _, heap_alloc_new w.drew _, hge, hcm, ?_, ?_⟩⟩ ((Below.refl _ _).drew.alloc (Nat.le_refl _) _))
  · simp only [Array.size_append, List.size_toArray, size_zeroCells, Value.cells]
    simp [hn, hl]
    omega
  · simp only [Array.toList_append, List.append_assoc]
    rw [← List.append_assoc, ← hlen, List.map_append]
    exact List.take_left
end Go.Proofs.YtbbaleambgaanaaGreatDoor
namespace Go.Proofs.YtbbaleambgaanaaGreatDoor.Etr
open Go.RowKit Go.Proofs.YtbbaleambgaanaaGreatDoor.Fit Pxr Pnm
theorem enc_arr {T : Int} {nm pf lk : ByteArray} {md sz : Int} (w : World) (hn : nm.size ≤ maxLen) (hp : pf.size ≤ maxLen) (hk : lk.size ≤ maxLen) (h : Ust.ckH T nm pf lk md sz = 0) :
    Calls Tryz.prog 24 #[.agg (Ust.hdV T nm pf lk md sz).toArray] w fun e w' => ∃ b, e = .returned (.tuple #[.slice (some ⟨b, 0, none⟩) 512 512, .int .i64 0]) ∧ RowAt w' b 0 (Ust.encH T nm pf lk md sz) ∧ w.heap.size ≤ b ∧ b < w'.heap.size ∧ Below w.heap.size w w' := by
  have hk1 := Ust.known_byte (Ust.ckH_zero.1 h).1
  refine (Ust.enc_loop (Ust.valT T nm pf lk md sz) (Ust.cont T nm pf lk md sz) (.int .u8 T) (.string nm) (.string pf) (.string lk) (.int .i64 md) (.int .i64 sz) w rfl (fun _ _ => rfl) (fun j hj => Ust.cont_length h hj) (fun j hj => Ust.valT_length h hj)
    (fun w => by have := Ust.check_any T nm pf lk md sz w hn hp hk hk1; rw [h] at this; exact this) (fun j hj w => Ust.fmt_row T nm pf lk md sz h hj w)).mono ?_
  rintro e w' ⟨b, rfl, h1, h2, h3⟩
  rw [Ust.cont_sealed h] at h1
  exact ⟨b, rfl, h1.row, h2, h1.lt, h3⟩
def RetEn (zs : List Int) (E : Int) (w : World) (e : Ending) (w' : World) : Prop :=
  ∃ b n c, e = .returned (.tuple #[.slice b n c, .int .i64 E]) ∧ zs.length = n ∧ n ≤ c ∧ c ≤ maxLen ∧ BytesIn w' b zs ∧ (∀ x, b = some x → w.heap.size ≤ x.block) ∧ Below w.heap.size w w'
theorem RetEn.nil {E : Int} {w w' : World} (h : Below w.heap.size w w') : RetEn [] E w (.returned (.tuple #[.slice none 0 0, .int .i64 E])) w' :=
  ⟨none, 0, 0, rfl, rfl, Nat.le_refl _, Nat.zero_le _, .inl rfl, fun x hx => (by cases hx), h⟩
theorem RetEn.own {zs : List Int} {E : Int} {w w' : World} {base n : Nat} {e : TypeId} {v : Value} (h : w'.ownsRow base e 1 v n (zs.map (.int .u8))) (hz : Bytes zs) (hB : w.heap.size ≤ base) (hb : Below w.heap.size w w') : RetEn zs E w (.returned (.tuple #[v, .int .i64 E])) w' := by
  obtain ⟨b, c, rfl, hi, hc, hm, hl, hx⟩ := own_any h
  exact ⟨b, n, c, rfl, hl, hc, hm, hi.bytes hz, fun x hx' => Nat.le_trans hB (hx x hx').1, hb⟩
theorem lay_pad (ys : List Int) (D : Nat) (h : ys.length + padN ys.length = D) : lay (zeros D) 0 (ys.take D) = padR ys := by
  have e : ys.take D = ys := List.take_of_length_le (by omega)
  rw [e]
  unfold lay padR zeros
  rw [List.take_zero, List.nil_append, List.drop_replicate]
  congr 2
  omega
theorem wrap_i64 {n : Int} (h0 : 0 ≤ n) (h1 : n ≤ 1000000000000) : IntKind.i64.wrap n = n := by
  have hb : IntKind.i64.bits = 64 := rfl
  have hs : IntKind.i64.signed = true := rfl
  unfold IntKind.wrap
  simp only [hb, hs, Bool.true_and]
  have e : (2 : Int) ^ 64 = 18446744073709551616 := by decide
  have e' : (2 : Int) ^ (64 - 1) = 9223372036854775808 := by decide
  rw [e, e', Int.emod_eq_of_lt h0 (by omega), if_neg (by simp; omega)]
theorem wrapD {D : Nat} (h : D ≤ 1000000) : IntKind.i64.wrap (D : Int) = D := by
  exact wrap_i64 (by omega) (by omega)
set_option maxRecDepth 100000 in
set_option maxHeartbeats 4000000 in
theorem encrec_any (a : Option Addr) (n c : Nat) (L : List Rec) (w : World) (V : Vars w) (hv : ∀ r ∈ L, r.2.size ≤ maxLen) (hn : L.length = n) (hc : n ≤ c) (hm : c ≤ maxLen) (hR : RecsIn w a L) (hE : fmE [] L = 0) (h1 : 1 ≤ (fmB L).length) (h2 : (fmB L).length ≤ 262144) :
    Calls Tryz.prog 25 #[.slice a n c] w fun e w' => ∃ v, e = .returned (.tuple #[v, .int .i64 0]) ∧ w'.ownsRow w.heap.size 5 1 v (512 + (padR (fmB L)).length) ((hdB (hX (fmB L).length) ++ padR (fmB L)).map (.int .u8)) ∧ Below w.heap.size w w' := by
  have FM := format_any a n c L w V hv hn hc hm hR
  have ef : fmR L = fmB L := by unfold fmR; rw [if_pos hE]
  rw [ef, hE] at FM
  have HFM := Lib.hid FM
  obtain ⟨F, hF⟩ := named (fmB L)
  have FB : Hid (Bytes F) := by show Bytes _; rw [hF.out]; exact fmB_bd L
  rw [← hF.out] at h1 h2 HFM
  rw [← hF.out]
  obtain ⟨m, hmm⟩ := named F.length
  rw [← hmm.out] at h1 h2
  obtain ⟨k, hk⟩ := named (blkN m)
  have ek : blkN (m : Int).toNat = k := hk.out.symm
  obtain ⟨D, hD⟩ := named (512 * k)
  have hPD : m + padN m = D := by rw [hD.out, hk.out]; exact padN_blk m
  have hpd : padN m < 512 := by unfold padN; omega
  have hD0 : 0 < D := by omega
  have hDm : D ≤ 300000 := by omega
  have hkD : (k : Int) * 512 = (D : Int) := by have := hD.out; omega
  have hwD : IntKind.i64.wrap (D : Int) = D := wrapD (by omega)
  have PRL : Hid ((padR F).length = D) := by show _ = _; unfold padR; rw [List.length_append, zeros_length, ← hmm.out]; exact hPD
  have LP : Hid (lay (zeros D) 0 (F.take D) = padR F) := lay_pad F D (by rw [← hmm.out]; exact hPD)
  have EA := Lib.hid fun (w' : World) => enc_arr (T := 120) (nm := kPax) (pf := emp) (lk := emp) (md := 0) (sz := (m : Int)) w' (by decide) (by decide) (by decide) (hX_ck (by omega))
  have HB : Hid (Ust.encH 120 kPax emp emp 0 (m : Int) = hdB (hX m)) := rfl
  have HBL : Hid ((hdB (hX m)).length = 512) := (hd_dec (hX_ck (n := m) (by omega))).2.2.1
  obtain ⟨X, hX'⟩ := named (hdB (hX m))
  rw [← hmm.out, ← hX'.out, PRL.out]
  have hm8 : (m : Int) ≤ 262144 := by omega
  have HD9 : Hid (D ≤ 300000) := hDm
  have HD0 : Hid (0 < D) := hD0
  have hk8 : (k : Int) ≤ 1000 := by omega
  have hDi : (D : Int) ≤ 300000 := by omega
  obtain ⟨i0, HI⟩ := info_u8 (P := Tryz.prog) (e := 5) (by kernel_rfl)
  have HE8 : Hid ((Tryz.prog.info? 5).map (·.size) = some 1) := by show _ = _; kernel_rfl
  clear V hv hn hc hm hR hE h1 h2 ef FM hPD hpd hD0 hDm
  go_enter Tryz.func25, Tryz.ntmps25
  go_wp2_with fail
  refine HFM.out.mono ?_; rintro e w1 ⟨b1, m1, c1, rfl, l1, hc1, hm1, i1, bb1⟩
  obtain rfl : m1 = m := by rw [← l1, hmm.out]
  have I1 := Lib.hid i1; have B1 := Lib.hid bb1; have C1 := Lib.hid hc1
  clear l1 hc1 hm1 i1 bb1
  go_wp2_with fail
  refine (ext_any (m1 : Int) w1).mono ?_; rintro e w2 ⟨rfl, b2⟩
  have I2 := Lib.hid (I1.out.below b2); have B2 := Lib.hid (belT B1.out b2)
  clear b2
  go_wp2_with fail
  refine (EA.out w2).mono ?_; rintro e w3 ⟨g3, rfl, a3, x3, y3, bb3⟩
  rw [HB.out, ← hX'.out] at a3
  have A3 := Lib.hid a3; have X3 := Lib.hid (Nat.le_trans B2.out.size x3); have Y3 := Lib.hid y3
  have I3 := Lib.hid (I2.out.below bb3); have B3 := Lib.hid (belT B2.out bb3)
  clear a3 x3 y3 bb3
  go_wp2_with fail
  refine (blocks_any (m1 : Int) (by omega) w3).mono ?_; rintro e w4 ⟨rfl, rfl⟩
  rw [ek]
  clear ek
  go_wp2_with (first | (refine wpList_make_arr rfl _ _ 24 5 rfl Tryz.underlying24 i0 HI D rfl rfl (by have := HD9.out; omega) ?_; intro w5 h5 b5; have H5 := Lib.hid h5; have B5 := Lib.hid (belT B3.out b5); have I5 := Lib.hid (I3.out.below b5); have A5 := Lib.hid (A3.out.below b5 Y3.out); have Z5 := Lib.hid b5; clear h5 b5) | (refine wpList_copy_arr rfl _ _ 24 24 rfl 5 Tryz.underlying24 HE8.out w3.heap.size 0 D D rfl b1 m1 c1 rfl F I5.out hmm.out.symm 5 (zeros D) H5.out (by rw [zeros_length]; omega) ?_; rw [LP.out]; intro w6 h6 t6; have H6 := Lib.hid h6; have A6 : Hid (RowAt w6 g3 0 X) := A3.out.below (Z5.out.trans (t6.below (Nat.le_refl _))) Y3.out; have B6 := Lib.hid (B5.out.trans (t6.below B3.out.size)); clear h6 t6) | (at_builtin; refine wpList_append_full rfl _ _ 24 rfl 5 i0 Tryz.underlying24 HI g3 512 X rfl A6.out (by rw [hX'.out]; exact HBL.out) (some ⟨w3.heap.size, 0, none⟩) D D (padR F) rfl H6.out.bytes PRL.out HD0.out (by have := HD9.out; omega) ?_; intro v7 w7 h7 b7; have H7 := Lib.hid h7; have B7 := Lib.hid (belT B6.out b7); clear h7 b7))
  go_ret2
  exact ⟨_, rfl, own_base H7.out B6.out.size, B7.out⟩
end Go.Proofs.YtbbaleambgaanaaGreatDoor.Etr
namespace Go.Proofs.YtbbaleambgaanaaGreatDoor.Etr
open Go.RowKit Go.Proofs.YtbbaleambgaanaaGreatDoor.Fit Pxr Pnm
theorem enZ_bad {e : Ent} (h : ckE e ≠ 0) : enZ e = [] := by unfold enZ; rw [if_pos h]
theorem enZ_one {e : Ent} (h : ckE e = 0) (h0 : (plL e).length = 0) : enZ e = hdB (plH e) := by
  unfold enZ enL; rw [if_neg (by simpa using h), if_pos h0, List.nil_append]
theorem enZ_more {e : Ent} (h : ckE e = 0) (h0 : (plL e).length ≠ 0) : enZ e = (hdB (hX (fmB (plL e)).length) ++ padR (fmB (plL e))) ++ hdB (plH e) := by
  unfold enZ enL; rw [if_neg (by simpa using h), if_neg h0]
set_option maxRecDepth 100000 in
set_option maxHeartbeats 4000000 in
theorem penc_bad (k : Int) (p : ByteArray) (m : Int) (t : ByteArray) (s : Int) (w : World) (V : FVars w) (hp : p.size ≤ maxLen) (ht : t.size ≤ maxLen) (h : ckE ⟨k, p, m, t, s⟩ ≠ 0) :
    Calls Tryz.prog 11 #[.agg (enV k p m t s).toArray] w (RetEn [] (ckE ⟨k, p, m, t, s⟩) w) := by
  have HO := Lib.hid hdTp; have HZ := Lib.hid zHp
  have PL := Lib.hid fun w' (hb : Below w.heap.size w w') => pplan_any ⟨k, p, m, t, s⟩ w' (V.go hb) hp ht
  obtain ⟨e1, e2⟩ := pl_bad_eq h
  unfold RetP at PL
  rw [e1, e2] at PL
  obtain ⟨E, hE⟩ := named (ckE ⟨k, p, m, t, s⟩)
  rw [← hE.out] at PL h
  rw [← hE.out]
  have n0 : (E != 0) = true := by simp [h]
  clear V hp ht h e1 e2
  go_enter Tryz.func11, Tryz.ntmps11
  go_wp2_with (first | (refine wpList_box_obj rfl 23 _ rfl (enV k p m t s) rfl ?_; intro w1 g1 b1; have E1 := Lib.hid g1; have B1 := Lib.hid b1; have c0 := E1.out.get 0 rfl; have c1 := E1.out.get 1 rfl; have c2 := E1.out.get 2 rfl; have c3 := E1.out.get 3 rfl; have c4 := E1.out.get 4 rfl; clear g1 b1))
  refine (PL.out w1 B1.out).mono ?_; rintro e w2 ⟨b, n, c, rfl, hn, hc, hm, hR, b2⟩
  have B2 := Lib.hid (belT B1.out b2)
  clear b2 hn hc hm hR c0 c1 c2 c3 c4
  go_wp2_with (first | (refine wpList_alloc_obj rfl 56 rfl Ust.hd0 HZ.out ?_; intro w4 g4 b4; have R4 := Lib.hid g4; have A4 := Lib.hid b4; clear g4 b4) | (refine wpList_store_obj rfl 56 _ _ rfl w2.heap.size rfl (Ust.hd0) Ust.hd0 rfl 56 R4.out HO.out.2 rfl (hd_one _ _ _ _ _ _) ?_; intro w5 g5 t5; have B5 := Lib.hid (belT B2.out (A4.out.trans (t5.below (Nat.le_refl _)))); clear g5 t5))
  go_ret2
  exact .nil B5.out
section
variable {k : Int} {p : ByteArray} {m : Int} {t : ByteArray} {s : Int}
set_option maxRecDepth 100000 in
set_option maxHeartbeats 8000000 in
theorem penc_ok (w : World) (V : FVars w) (hp : p.size ≤ maxLen) (ht : t.size ≤ maxLen) (h : ckE ⟨k, p, m, t, s⟩ = 0) :
    Calls Tryz.prog 11 #[.agg (enV k p m t s).toArray] w (RetEn (enZ ⟨k, p, m, t, s⟩) 0 w) := by
  have HO := Lib.hid hdTp; have HZ := Lib.hid zHp
  have PL := Lib.hid fun w' (hb : Below w.heap.size w w') => pplan_any ⟨k, p, m, t, s⟩ w' (V.go hb) hp ht
  obtain ⟨e1, e2⟩ := pl_good_eq h
  unfold RetP at PL
  rw [e1, e2, h] at PL
  have hok := ck_ok.1 h
  obtain ⟨z1, z2, z3, z4⟩ := pl_hd hok
  have EO := Lib.hid (enZ_one h); have EM := Lib.hid (enZ_more h)
  have HG := Lib.hid (pl_good hok); have HVL := Lib.hid (pl_vals hok)
  have FL := Lib.hid (fm_len h)
  have FP := Lib.hid (fm_pos (l := plL ⟨k, p, m, t, s⟩))
  have FBY := Lib.hid (fm_bytes (plL ⟨k, p, m, t, s⟩))
  have ENB := Lib.hid (en_bytes ⟨k, p, m, t, s⟩)
  have HDL : Hid ((hdB (plH ⟨k, p, m, t, s⟩)).length = 512) := (hd_dec (pl_ck h)).2.2.1
  have HDX : Hid (∀ n : Nat, n ≤ 262144 → (hdB (hX n)).length = 512) := fun n hn => (hd_dec (hX_ck (n := n) (by omega))).2.2.1
  have EA := Lib.hid fun (w' : World) => enc_arr w' (by unfold maxLen; omega) (by unfold maxLen; omega) (by unfold maxLen; omega) z4
  have HHB : Hid (Ust.encH (plH ⟨k, p, m, t, s⟩).T (plH ⟨k, p, m, t, s⟩).nm (plH ⟨k, p, m, t, s⟩).pf (plH ⟨k, p, m, t, s⟩).lk (plH ⟨k, p, m, t, s⟩).md (plH ⟨k, p, m, t, s⟩).sz = hdB (plH ⟨k, p, m, t, s⟩)) := rfl
  obtain ⟨Y, hY⟩ := named (hdB (plH ⟨k, p, m, t, s⟩))
  rw [← hY.out] at HHB HDL EO EM
  rw [HHB.out] at EA
  obtain ⟨L, hL⟩ := named (plL ⟨k, p, m, t, s⟩)
  rw [← hL.out] at PL EO EM HG HVL FL FP FBY
  obtain ⟨R, hR⟩ := named (enZ ⟨k, p, m, t, s⟩)
  rw [← hR.out] at EO EM ENB
  rw [← hR.out]
  obtain ⟨T, hT⟩ := named (plH ⟨k, p, m, t, s⟩).T
  obtain ⟨nm, hnm⟩ := named (plH ⟨k, p, m, t, s⟩).nm
  obtain ⟨pf, hpf⟩ := named (plH ⟨k, p, m, t, s⟩).pf
  obtain ⟨lk, hlk⟩ := named (plH ⟨k, p, m, t, s⟩).lk
  obtain ⟨md, hmd⟩ := named (plH ⟨k, p, m, t, s⟩).md
  obtain ⟨sz, hsz⟩ := named (plH ⟨k, p, m, t, s⟩).sz
  rw [← hT.out, ← hnm.out, ← hpf.out, ← hlk.out, ← hmd.out, ← hsz.out] at PL EA
  have HV := Lib.hid V
  obtain ⟨i0, HI⟩ := info_u8 (P := Tryz.prog) (e := 5) (by kernel_rfl)
  clear V hp ht h e1 e2 hok z1 z2 z3 z4 HHB
  go_enter Tryz.func11, Tryz.ntmps11
  go_wp2_with (first | (refine wpList_box_obj rfl 23 _ rfl (enV k p m t s) rfl ?_; intro w1 g1 b1; have E1 := Lib.hid g1; have B1 := Lib.hid b1; have c0 := E1.out.get 0 rfl; have c1 := E1.out.get 1 rfl; have c2 := E1.out.get 2 rfl; have c3 := E1.out.get 3 rfl; have c4 := E1.out.get 4 rfl; clear g1 b1))
  refine (PL.out w1 B1.out).mono ?_; rintro e w2 ⟨b, n, c, rfl, hn, hc, hm, hR2, b2⟩
  have B2 := Lib.hid (belT B1.out b2)
  have HN := Lib.hid hn; have HC := Lib.hid hc; have HM := Lib.hid hm; have I2 := Lib.hid hR2
  clear b2 hn hc hm hR2 c0 c1 c2 c3 c4
  go_wp2_with (first | (refine wpList_alloc_obj rfl 56 rfl Ust.hd0 HZ.out ?_; intro w4 g4 b4; have R4 := Lib.hid g4; have A4 := Lib.hid b4; clear g4 b4) | (refine wpList_store_obj rfl 56 _ _ rfl w2.heap.size rfl (Ust.hdV T nm pf lk md sz) Ust.hd0 rfl 56 R4.out HO.out.2 rfl (hd_one _ _ _ _ _ _) ?_; intro w5 g5 t5; have X5 := Lib.hid g5; have A5 := Lib.hid (A4.out.trans (t5.below (Nat.le_refl _))); have B5 := Lib.hid (belT B2.out A5.out); have I5 := Lib.hid (I2.out.below A5.out); have d0 := X5.out.get 0 rfl; have d1 := X5.out.get 1 rfl; have d2 := X5.out.get 2 rfl; have d3 := X5.out.get 3 rfl; have d4 := X5.out.get 4 rfl; have d5 := X5.out.get 5 rfl; clear g5 t5))
  refine (EA.out w5).mono ?_; rintro e w6 ⟨g6, rfl, a6, x6, y6, b6⟩
  have A6 := Lib.hid a6; have X6 := Lib.hid (Nat.le_trans B5.out.size x6); have Y6 := Lib.hid y6
  have B6 := Lib.hid (belT B5.out b6); have I6 := Lib.hid (I5.out.below b6)
  clear a6 x6 y6 b6 d0 d1 d2 d3 d4 d5
  by_cases hn0 : n = 0
  · subst hn0
    have HEO := Lib.hid (EO.out HN.out)
    go_wp2_with fail
    go_ret2
    exact ⟨some ⟨g6, 0, none⟩, 512, 512, rfl, by rw [HEO.out]; exact HDL.out, Nat.le_refl _, by unfold maxLen; decide, by rw [HEO.out]; exact .of_row A6.out Y6.out, fun x hx => by cases hx; exact X6.out, B6.out⟩
  · have hnn : L.length ≠ 0 := by rw [HN.out]; exact hn0
    have HEM := Lib.hid (EM.out hnn)
    have HP1 := Lib.hid (FP.out hnn)
    have n1 : ((n : Int) == 0) = false := by simp [hn0]
    clear hnn hn0
    go_wp2_with fail
    refine (encrec_any b n c L w6 (HV.out.go B6.out).v (fun r hr => Nat.le_trans (HVL.out r hr) (by unfold maxLen; decide)) HN.out HC.out HM.out I6.out HG.out HP1.out (by have := FL.out; omega)).mono ?_; rintro e w7 ⟨v7, rfl, o7, b7⟩
    have O7 := Lib.hid o7; have B7 := Lib.hid (belT B6.out b7); have A7 : Hid (RowAt w7 g6 0 Y) := A6.out.below b7 Y6.out; have Y7 := Lib.hid (Nat.lt_of_lt_of_le Y6.out b7.size)
    obtain ⟨q7, hq7⟩ := named (512 + (padR (fmB L)).length)
    rw [← hq7.out] at O7
    have Q7 : Hid (q7 ≤ 300000) := by
      show _ ≤ _
      rw [hq7.out]
      have := FL.out
      unfold padR
      rw [List.length_append, zeros_length]
      have : padN (fmB L).length < 512 := by unfold padN; omega
      omega
    have HSZ : Hid (w6.heap.size ≤ w7.heap.size) := b7.size
    clear o7 b7
    go_wp2_with (first | (at_builtin; refine wpList_append_u8 rfl _ _ 24 rfl w6.heap.size 5 i0 Tryz.underlying24 HI v7 q7 _ rfl O7.out g6 0 512 512 Y rfl A7.out HDL.out (by have := Q7.out; omega) HSZ.out ?_; intro v8 w8 h8 b8; have H8 := Lib.hid h8; have B8 := Lib.hid (B7.out.trans (b8.mono B6.out.size)); clear h8 b8))
    go_ret2
    exact .own (by rw [HEM.out]; exact H8.out) ENB.out B6.out.size B8.out
end
theorem penc_any (e : Ent) (w : World) (V : FVars w) (hp : e.p.size ≤ maxLen) (ht : e.t.size ≤ maxLen) :
    Calls Tryz.prog 11 #[.agg (enV e.k e.p e.m e.t e.s).toArray] w (RetEn (enZ e) (ckE e) w) := by
  obtain ⟨k, p, m, t, s⟩ := e
  by_cases h : ckE ⟨k, p, m, t, s⟩ = 0
  · rw [h]; exact penc_ok w V hp ht h
  · rw [enZ_bad h]; exact penc_bad k p m t s w V hp ht h
end Go.Proofs.YtbbaleambgaanaaGreatDoor.Etr
namespace Go.Proofs.YtbbaleambgaanaaGreatDoor
open Go.RowKit
theorem nums_rep (x : UInt8) (c : Nat) : numsOf ⟨(Lib.repeatL [x] c).toArray⟩ = List.replicate c (x.toNat : Int) := by
  have : ∀ c, Lib.repeatL [x] c = List.replicate c x := by
    intro c
    induction c with
    | zero => rfl
    | succ c ih => rw [Lib.repeatL, ih]; rfl
  rw [numsOf_eq, this]
  simp
end Go.Proofs.YtbbaleambgaanaaGreatDoor
namespace Go.Proofs.YtbbaleambgaanaaGreatDoor.Etr
open Go.RowKit Go.Proofs.YtbbaleambgaanaaGreatDoor.Fit Pxr Pnm
abbrev sA : ByteArray := { data := #[97] }
def sN : ByteArray := ⟨(Lib.repeatL [110] 300).toArray⟩
theorem sN_nums : numsOf sN = List.replicate 300 110 := nums_rep 110 300
theorem sN_size : sN.size = 300 := by rw [← numsOf_length, sN_nums, List.length_replicate]
theorem a_ck : ckE ⟨0, sA, 0, emp, 0⟩ = 0 := by decide
theorem sN_path : chE (List.replicate 300 110) = 0 := by decide +kernel
theorem sN_spl : splB (List.replicate 300 110) = false := by decide +kernel
theorem n_ck : ckE ⟨1, sN, 0, emp, 0⟩ = 0 := by
  have h : chE (numsOf sN) = 0 := by rw [sN_nums]; exact sN_path
  exact ck_ok.2 ⟨by decide, by decide, h, by decide, by decide, by decide, by decide, by decide⟩
theorem a_len : (enZ ⟨0, sA, 0, emp, 0⟩).length = 512 := by
  obtain ⟨l1, l2⟩ := en_len a_ck
  rw [l1, l2, if_pos (by decide)]
theorem n_pl : plL ⟨1, sN, 0, emp, 0⟩ = [(kPath, sN)] := by
  have h : splB (numsOf sN) = false := by rw [sN_nums]; exact sN_spl
  unfold plL plT plP plS
  dsimp only
  rw [h]
  rfl
theorem n_fm : 1 ≤ (fmB [(kPath, sN)]).length ∧ (fmB [(kPath, sN)]).length ≤ 512 := by
  have e : fmB [(kPath, sN)] = enR (kPath, sN) := by unfold fmB; simp
  rw [e]
  refine ⟨en_pos _, ?_⟩
  have ho : szR (kPath, sN) = 310 := by
    unfold szR oth
    dsimp only
    rw [sN_size]
    decide +kernel
  unfold enR
  simp only [List.length_append, List.length_singleton, numsOf_length, ho, sN_size]
  decide +kernel
theorem n_len : (enZ ⟨1, sN, 0, emp, 0⟩).length = 1536 := by
  obtain ⟨l1, l2⟩ := en_len n_ck
  have h0 : ¬ ([(kPath, sN)] : List Rec).length = 0 := by simp
  rw [l1, l2, n_pl, if_neg h0]
  obtain ⟨z, hz⟩ : ∃ z, z = (fmB [(kPath, sN)]).length := ⟨_, rfl⟩
  have := n_fm
  rw [← hz] at this ⊢
  unfold blkN
  omega
set_option maxHeartbeats 2000000 in
set_option maxRecDepth 100000 in
theorem alive_any (w : World) (V : FVars w) : Calls Tryz.prog 10 #[] w fun e w' => e = .returned (.bool true) ∧ Below w.heap.size w w' := by
  have HV := Lib.hid V
  have EA := Lib.hid fun w' (hb : Below w.heap.size w w') => penc_any ⟨0, sA, 0, emp, 0⟩ w' (V.go hb) (by decide) (by decide)
  have EN := Lib.hid fun w' (hb : Below w.heap.size w w') => penc_any ⟨1, sN, 0, emp, 0⟩ w' (V.go hb) (by rw [sN_size]; decide) (by decide)
  rw [a_ck] at EA
  rw [n_ck] at EN
  have RP : Hid (∀ w', Calls Tryz.prog 23 #[.string { data := #[110] }, .int .i64 300] w' fun e w'' => e = .returned (.string sN) ∧ Below w'.heap.size w' w'') := fun w' => Tryz.strings_Repeat { data := #[110] } 300 w' (by omega) (by show 1 * 300 ≤ _; omega)
  have L1 := Lib.hid a_len; have L2 := Lib.hid n_len
  obtain ⟨Z1, hZ1⟩ := named (enZ ⟨0, sA, 0, emp, 0⟩)
  obtain ⟨Z2, hZ2⟩ := named (enZ ⟨1, sN, 0, emp, 0⟩)
  rw [← hZ1.out] at EA L1
  rw [← hZ2.out] at EN L2
  obtain ⟨SN, hSN⟩ := named sN
  rw [← hSN.out] at EN RP
  clear V hZ1 hZ2
  go_enter Tryz.func10, Tryz.ntmps10
  go_wp2_with fail
  refine (EA.out w (Below.refl _ _)).mono ?_; rintro e w1 ⟨b1, n1, c1, rfl, l1, _, _, _, _, bb1⟩
  obtain rfl : n1 = 512 := l1.symm.trans L1.out
  have B1 := Lib.hid bb1
  clear l1 bb1
  go_wp2_with fail
  refine (RP.out w1).mono ?_; rintro e w2 ⟨rfl, b2⟩
  have B2 := Lib.hid (belT B1.out b2)
  clear b2
  go_wp2_with fail
  refine (EN.out w2 B2.out).mono ?_; rintro e w3 ⟨b3, n3, c3, rfl, l3, _, _, _, _, bb3⟩
  obtain rfl : n3 = 1536 := l3.symm.trans L2.out
  have B3 := Lib.hid (belT B2.out bb3)
  clear l3 bb3
  go_wp2
  go_ret
  exact ⟨rfl, B3.out⟩
end Go.Proofs.YtbbaleambgaanaaGreatDoor.Etr
