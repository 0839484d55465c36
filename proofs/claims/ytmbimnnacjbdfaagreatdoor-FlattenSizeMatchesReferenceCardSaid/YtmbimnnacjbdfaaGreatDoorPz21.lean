/-
  Layer 12: the program's encodeRecords, Encode.
-/
import Derived.Test.YtmbimnnacjbdfaaGreatDoorPz07
import Derived.Test.YtmbimnnacjbdfaaGreatDoorPz09
import Derived.Test.YtmbimnnacjbdfaaGreatDoorPz13
import Derived.Test.YtmbimnnacjbdfaaGreatDoorPz15
import Derived.Test.YtmbimnnacjbdfaaGreatDoorPz16
import Derived.Test.YtmbimnnacjbdfaaGreatDoorPz20
namespace Go.Proofs.YtmbimnnacjbdfaaGreatDoor
open Go.RowKit

/-- 'append(s, x...)' where s is full: the bytes lie in new memory of the call's own -/
theorem wpList_append_full {P : Program} {w : World} {ops : Array Oper} {rest : List Oper} {o : Oper} {a : Act} {Q : Exit → Act → World → Prop} (hgd : o.guard = none) (s x : Operand) (t : TypeId)
    (ho : o.op = .call { callee := .builtin .append, args := #[s, x], argTypes := #[t, t] })
    (e : TypeId) (i0 : TypeInfo) (hT : P.underlying t = some (.slice e)) (hI : Hid (P.info? e = some i0 ∧ i0.zero = some (.int .u8 0) ∧ i0.size = 1 ∧ i0.bytes = 1))
    (g n : Nat) (zs : List Int) (hs : a.eval s = .slice (some ⟨g, 0, none⟩) n n) (hz : RowAt w g 0 zs) (hn : zs.length = n)
    (b : Option Addr) (m c : Nat) (ys : List Int) (hx : a.eval x = .slice b m c) (hy : BytesIn w b ys) (hl : ys.length = m) (hm : 0 < m) (h47 : n + m ≤ 140737488355328)
    (K : ∀ v' w', w'.ownsRow w.heap.size e 1 v' (n + m) ((zs ++ ys).map (.int .u8)) → Below w.heap.size w w' → wpList P ops Q rest (a.put o.dst v') w') : wpList P ops Q (o :: rest) a w := by
  rcases hy with hy | ⟨b', off, rfl, _, hy⟩
  · rw [hy] at hl; rw [← hl] at hm; cases hm
  obtain ⟨hi, hz0, hsz, hby⟩ := hI.out
  have hr := run_append_grow (P := P) w t o.type e i0 (.int .u8 0) hT hi hz0 ⟨g, 0, none⟩ n n (zs.map (Value.int .u8)) (by rw [List.length_map, hn, hsz, Nat.mul_one]) hz.news ⟨b', off, none⟩ m c (ys.map (Value.int .u8)) (by rw [List.length_map, hl, hsz, Nat.mul_one]) hy.news (by omega) (by omega)
    (growslice_fits (by omega) (by rw [hby]; omega))
  have hge := grownCap_ge w (n + m) n e
  have hcm : grownCap w (n + m) n e ≤ maxLen := grownCap_le_maxLen w (n + m) n e (by unfold maxLen; omega)
  have hlen : ((zs.map (Value.int .u8)) ++ (ys.map (Value.int .u8))).length = (n + m) * 1 := by rw [List.length_append, List.length_map, List.length_map]; omega
  refine wpList_plain hgd fun K' hK => ?_
  unfold Oper.wp
  simp [execOp, ho, resolve, invoke, builtin, hs, hx, hr, Result.andThen]
  refine hK _ _ (K _ _ ⟨by rw [List.map_append]; exact hlen, .inr ⟨w.heap.size, _, _, rfl, Nat.le_refl _, heap_alloc_new w.drew _, hge, hcm, ?_, ?_⟩⟩ ((Below.refl _ _).drew.alloc (Nat.le_refl _) _))
  · simp only [Array.size_append, List.size_toArray, size_zeroCells, Value.cells]
    simp [hn, hl]
    omega
  · simp only [Array.toList_append, List.append_assoc]
    rw [← List.append_assoc, ← hlen, List.map_append]
    exact List.take_left
end Go.Proofs.YtmbimnnacjbdfaaGreatDoor
namespace Go.Proofs.YtmbimnnacjbdfaaGreatDoor.Etr
open Go.RowKit Go.Proofs.YtmbimnnacjbdfaaGreatDoor.Fit Pxr Pnm

/-- a header's block, by the program; it is full -/
theorem enc_arr {T : Int} {nm pf lk : ByteArray} {md sz : Int} (w : World) (hn : nm.size ≤ maxLen) (hp : pf.size ≤ maxLen) (hk : lk.size ≤ maxLen) (h : Ust.ckH T nm pf lk md sz = 0) :
    Calls Tryz.prog 25 #[.agg (Ust.hdV T nm pf lk md sz).toArray] w fun e w' => ∃ b, e = .returned (.tuple #[.slice (some ⟨b, 0, none⟩) 512 512, .int .i64 0]) ∧ RowAt w' b 0 (Ust.encH T nm pf lk md sz) ∧ w.heap.size ≤ b ∧ b < w'.heap.size ∧ Below w.heap.size w w' := by
  have hk1 := Ust.known_byte (Ust.ckH_zero.1 h).1
  refine (Ust.enc_loop (Ust.valT T nm pf lk md sz) (Ust.cont T nm pf lk md sz) (.int .u8 T) (.string nm) (.string pf) (.string lk) (.int .i64 md) (.int .i64 sz) w rfl (fun _ _ => rfl) (fun j hj => Ust.cont_length h hj) (fun j hj => Ust.valT_length h hj)
    (fun w => by have := Ust.check_any T nm pf lk md sz w hn hp hk hk1; rw [h] at this; exact this) (fun j hj w => Ust.fmt_row T nm pf lk md sz h hj w)).mono ?_
  rintro e w' ⟨b, rfl, h1, h2, h3⟩
  rw [Ust.cont_sealed h] at h1
  exact ⟨b, rfl, h1.row, h2, h1.lt, h3⟩

/-- bytes in new memory, and an error -/
def RetEn (zs : List Int) (E : Int) (w : World) (e : Ending) (w' : World) : Prop :=
  ∃ b n c, e = .returned (.tuple #[.slice b n c, .int .i64 E]) ∧ zs.length = n ∧ n ≤ c ∧ c ≤ maxLen ∧ BytesIn w' b zs ∧ (∀ x, b = some x → w.heap.size ≤ x.block) ∧ Below w.heap.size w w'
theorem RetEn.nil {E : Int} {w w' : World} (h : Below w.heap.size w w') : RetEn [] E w (.returned (.tuple #[.slice none 0 0, .int .i64 E])) w' :=
  ⟨none, 0, 0, rfl, rfl, Nat.le_refl _, Nat.zero_le _, .inl rfl, fun x hx => (by cases hx), h⟩
theorem RetEn.own {zs : List Int} {E : Int} {w w' : World} {base n : Nat} {e : TypeId} {v : Value} (h : w'.ownsRow base e 1 v n (zs.map (.int .u8))) (hz : Bytes zs) (hB : w.heap.size ≤ base) (hb : Below w.heap.size w w') : RetEn zs E w (.returned (.tuple #[v, .int .i64 E])) w' := by
  obtain ⟨b, c, rfl, hi, hc, hm, hl, hx⟩ := own_any h
  exact ⟨b, n, c, rfl, hl, hc, hm, hi.bytes hz, fun x hx' => Nat.le_trans hB (hx x hx').1, hb⟩

theorem lay_pad (ys : List Int) (D : Nat) (h : ys.length + padN ys.length = D) : lay (zeros D) 0 (ys.take D) = padR ys := by
  have e : ys.take D = ys := List.take_of_length_le (by omega)
  rw [e]
  unfold lay padR zeros
  rw [List.take_zero, List.nil_append, List.drop_replicate]
  congr 2
  omega
theorem wrap_i64 {n : Int} (h0 : 0 ≤ n) (h1 : n ≤ 1000000000000) : IntKind.i64.wrap n = n := by
  have hb : IntKind.i64.bits = 64 := rfl
  have hs : IntKind.i64.signed = true := rfl
  unfold IntKind.wrap
  simp only [hb, hs, Bool.true_and]
  have e : (2 : Int) ^ 64 = 18446744073709551616 := by decide
  have e' : (2 : Int) ^ (64 - 1) = 9223372036854775808 := by decide
  rw [e, e', Int.emod_eq_of_lt h0 (by omega), if_neg (by simp; omega)]
theorem wrapD {D : Nat} (h : D ≤ 1000000) : IntKind.i64.wrap (D : Int) = D := by
  exact wrap_i64 (by omega) (by omega)

set_option maxRecDepth 100000 in
set_option maxHeartbeats 4000000 in
theorem encrec_any (a : Option Addr) (n c : Nat) (L : List Rec) (w : World) (V : Vars w) (hv : ∀ r ∈ L, r.2.size ≤ maxLen) (hn : L.length = n) (hc : n ≤ c) (hm : c ≤ maxLen) (hR : RecsIn w a L) (hE : fmE [] L = 0) (h1 : 1 ≤ (fmB L).length) (h2 : (fmB L).length ≤ 262144) :
    Calls Tryz.prog 26 #[.slice a n c] w fun e w' => ∃ v, e = .returned (.tuple #[v, .int .i64 0]) ∧ w'.ownsRow w.heap.size 5 1 v (512 + (padR (fmB L)).length) ((hdB (hX (fmB L).length) ++ padR (fmB L)).map (.int .u8)) ∧ Below w.heap.size w w' := by
  have FM := format_any a n c L w V hv hn hc hm hR
  have ef : fmR L = fmB L := by unfold fmR; rw [if_pos hE]
  rw [ef, hE] at FM
  have HFM := Lib.hid FM
  obtain ⟨F, hF⟩ := named (fmB L)
  have FB : Hid (Bytes F) := by show Bytes _; rw [hF.out]; exact fmB_bd L
  rw [← hF.out] at h1 h2 HFM
  rw [← hF.out]
  obtain ⟨m, hmm⟩ := named F.length
  rw [← hmm.out] at h1 h2
  obtain ⟨k, hk⟩ := named (blkN m)
  have ek : blkN (m : Int).toNat = k := hk.out.symm
  obtain ⟨D, hD⟩ := named (512 * k)
  have hPD : m + padN m = D := by rw [hD.out, hk.out]; exact padN_blk m
  have hpd : padN m < 512 := by unfold padN; omega
  have hD0 : 0 < D := by omega
  have hDm : D ≤ 300000 := by omega
  have hkD : (k : Int) * 512 = (D : Int) := by have := hD.out; omega
  have hwD : IntKind.i64.wrap (D : Int) = D := wrapD (by omega)
  have PRL : Hid ((padR F).length = D) := by show _ = _; unfold padR; rw [List.length_append, zeros_length, ← hmm.out]; exact hPD
  have LP : Hid (lay (zeros D) 0 (F.take D) = padR F) := lay_pad F D (by rw [← hmm.out]; exact hPD)
  have EA := Lib.hid fun (w' : World) => enc_arr (T := 120) (nm := kPax) (pf := emp) (lk := emp) (md := 0) (sz := (m : Int)) w' (by decide) (by decide) (by decide) (hX_ck (by omega))
  have HB : Hid (Ust.encH 120 kPax emp emp 0 (m : Int) = hdB (hX m)) := rfl
  have HBL : Hid ((hdB (hX m)).length = 512) := (hd_dec (hX_ck (n := m) (by omega))).2.2.1
  obtain ⟨X, hX'⟩ := named (hdB (hX m))
  rw [← hmm.out, ← hX'.out, PRL.out]
  have hm8 : (m : Int) ≤ 262144 := by omega
  have HD9 : Hid (D ≤ 300000) := hDm
  have HD0 : Hid (0 < D) := hD0
  have hk8 : (k : Int) ≤ 1000 := by omega
  have hDi : (D : Int) ≤ 300000 := by omega
  obtain ⟨i0, HI⟩ := info_u8 (P := Tryz.prog) (e := 5) (by kernel_rfl)
  have HE8 : Hid ((Tryz.prog.info? 5).map (·.size) = some 1) := by show _ = _; kernel_rfl
  clear V hv hn hc hm hR hE h1 h2 ef FM hPD hpd hD0 hDm
  go_enter Tryz.func26, Tryz.ntmps26
  go_wp2_with fail
  refine HFM.out.mono ?_; rintro e w1 ⟨b1, m1, c1, rfl, l1, hc1, hm1, i1, bb1⟩
  obtain rfl : m1 = m := by rw [← l1, hmm.out]
  have I1 := Lib.hid i1; have B1 := Lib.hid bb1; have C1 := Lib.hid hc1
  clear l1 hc1 hm1 i1 bb1
  go_wp2_with fail
  refine (ext_any (m1 : Int) w1).mono ?_; rintro e w2 ⟨rfl, b2⟩
  have I2 := Lib.hid (I1.out.below b2); have B2 := Lib.hid (belT B1.out b2)
  clear b2
  go_wp2_with fail
  refine (EA.out w2).mono ?_; rintro e w3 ⟨g3, rfl, a3, x3, y3, bb3⟩
  rw [HB.out, ← hX'.out] at a3
  have A3 := Lib.hid a3; have X3 := Lib.hid (Nat.le_trans B2.out.size x3); have Y3 := Lib.hid y3
  have I3 := Lib.hid (I2.out.below bb3); have B3 := Lib.hid (belT B2.out bb3)
  clear a3 x3 y3 bb3
  go_wp2_with fail
  refine (blocks_any (m1 : Int) (by omega) w3).mono ?_; rintro e w4 ⟨rfl, rfl⟩
  rw [ek]
  clear ek
  go_wp2_with (first | (refine wpList_make_arr rfl _ _ 25 5 rfl Tryz.underlying25 i0 HI D rfl rfl (by have := HD9.out; omega) ?_; intro w5 h5 b5; have H5 := Lib.hid h5; have B5 := Lib.hid (belT B3.out b5); have I5 := Lib.hid (I3.out.below b5); have A5 := Lib.hid (A3.out.below b5 Y3.out); have Z5 := Lib.hid b5; clear h5 b5) | (refine wpList_copy_arr rfl _ _ 25 25 rfl 5 Tryz.underlying25 HE8.out w3.heap.size 0 D D rfl b1 m1 c1 rfl F I5.out hmm.out.symm 5 (zeros D) H5.out (by rw [zeros_length]; omega) ?_; rw [LP.out]; intro w6 h6 t6; have H6 := Lib.hid h6; have A6 : Hid (RowAt w6 g3 0 X) := A3.out.below (Z5.out.trans (t6.below (Nat.le_refl _))) Y3.out; have B6 := Lib.hid (B5.out.trans (t6.below B3.out.size)); clear h6 t6) | (at_builtin; refine wpList_append_full rfl _ _ 25 rfl 5 i0 Tryz.underlying25 HI g3 512 X rfl A6.out (by rw [hX'.out]; exact HBL.out) (some ⟨w3.heap.size, 0, none⟩) D D (padR F) rfl H6.out.bytes PRL.out HD0.out (by have := HD9.out; omega) ?_; intro v7 w7 h7 b7; have H7 := Lib.hid h7; have B7 := Lib.hid (belT B6.out b7); clear h7 b7))
  go_ret2
  exact ⟨_, rfl, own_base H7.out B6.out.size, B7.out⟩
end Go.Proofs.YtmbimnnacjbdfaaGreatDoor.Etr
/-
  Layer 12: the program's Encode.
-/
namespace Go.Proofs.YtmbimnnacjbdfaaGreatDoor.Etr
open Go.RowKit Go.Proofs.YtmbimnnacjbdfaaGreatDoor.Fit Pxr Pnm

theorem enZ_bad {e : Ent} (h : ckE e ≠ 0) : enZ e = [] := by unfold enZ; rw [if_pos h]
theorem enZ_one {e : Ent} (h : ckE e = 0) (h0 : (plL e).length = 0) : enZ e = hdB (plH e) := by
  unfold enZ enL; rw [if_neg (by simpa using h), if_pos h0, List.nil_append]
theorem enZ_more {e : Ent} (h : ckE e = 0) (h0 : (plL e).length ≠ 0) : enZ e = (hdB (hX (fmB (plL e)).length) ++ padR (fmB (plL e))) ++ hdB (plH e) := by
  unfold enZ enL; rw [if_neg (by simpa using h), if_neg h0]

set_option maxRecDepth 100000 in
set_option maxHeartbeats 4000000 in
theorem penc_bad (k : Int) (p : ByteArray) (m : Int) (t : ByteArray) (s : Int) (w : World) (V : FVars w) (hp : p.size ≤ maxLen) (ht : t.size ≤ maxLen) (h : ckE ⟨k, p, m, t, s⟩ ≠ 0) :
    Calls Tryz.prog 14 #[.agg (enV k p m t s).toArray] w (RetEn [] (ckE ⟨k, p, m, t, s⟩) w) := by
  have HO := Lib.hid hdTp; have HZ := Lib.hid zHp
  have PL := Lib.hid fun w' (hb : Below w.heap.size w w') => pplan_any ⟨k, p, m, t, s⟩ w' (V.go hb) hp ht
  obtain ⟨e1, e2⟩ := pl_bad_eq h
  unfold RetP at PL
  rw [e1, e2] at PL
  obtain ⟨E, hE⟩ := named (ckE ⟨k, p, m, t, s⟩)
  rw [← hE.out] at PL h
  rw [← hE.out]
  have n0 : (E != 0) = true := by simp [h]
  clear V hp ht h e1 e2
  go_enter Tryz.func14, Tryz.ntmps14
  go_wp2_with (first | (refine wpList_box_obj rfl 24 _ rfl (enV k p m t s) rfl ?_; intro w1 g1 b1; have E1 := Lib.hid g1; have B1 := Lib.hid b1; have c0 := E1.out.get 0 rfl; have c1 := E1.out.get 1 rfl; have c2 := E1.out.get 2 rfl; have c3 := E1.out.get 3 rfl; have c4 := E1.out.get 4 rfl; clear g1 b1))
  refine (PL.out w1 B1.out).mono ?_; rintro e w2 ⟨b, n, c, rfl, hn, hc, hm, hR, b2⟩
  have B2 := Lib.hid (belT B1.out b2)
  clear b2 hn hc hm hR c0 c1 c2 c3 c4
  go_wp2_with (first | (refine wpList_alloc_obj rfl 63 rfl Ust.hd0 HZ.out ?_; intro w4 g4 b4; have R4 := Lib.hid g4; have A4 := Lib.hid b4; clear g4 b4) | (refine wpList_store_obj rfl 63 _ _ rfl w2.heap.size rfl (Ust.hd0) Ust.hd0 rfl 63 R4.out HO.out.2 rfl (hd_one _ _ _ _ _ _) ?_; intro w5 g5 t5; have B5 := Lib.hid (belT B2.out (A4.out.trans (t5.below (Nat.le_refl _)))); clear g5 t5))
  go_ret2
  exact .nil B5.out

section
variable {k : Int} {p : ByteArray} {m : Int} {t : ByteArray} {s : Int}
set_option maxRecDepth 100000 in
set_option maxHeartbeats 8000000 in
theorem penc_ok (w : World) (V : FVars w) (hp : p.size ≤ maxLen) (ht : t.size ≤ maxLen) (h : ckE ⟨k, p, m, t, s⟩ = 0) :
    Calls Tryz.prog 14 #[.agg (enV k p m t s).toArray] w (RetEn (enZ ⟨k, p, m, t, s⟩) 0 w) := by
  have HO := Lib.hid hdTp; have HZ := Lib.hid zHp
  have PL := Lib.hid fun w' (hb : Below w.heap.size w w') => pplan_any ⟨k, p, m, t, s⟩ w' (V.go hb) hp ht
  obtain ⟨e1, e2⟩ := pl_good_eq h
  unfold RetP at PL
  rw [e1, e2, h] at PL
  have hok := ck_ok.1 h
  obtain ⟨z1, z2, z3, z4⟩ := pl_hd hok
  have EO := Lib.hid (enZ_one h); have EM := Lib.hid (enZ_more h)
  have HG := Lib.hid (pl_good hok); have HVL := Lib.hid (pl_vals hok)
  have FL := Lib.hid (fm_len h)
  have FP := Lib.hid (fm_pos (l := plL ⟨k, p, m, t, s⟩))
  have FBY := Lib.hid (fm_bytes (plL ⟨k, p, m, t, s⟩))
  have ENB := Lib.hid (en_bytes ⟨k, p, m, t, s⟩)
  have HDL : Hid ((hdB (plH ⟨k, p, m, t, s⟩)).length = 512) := (hd_dec (pl_ck h)).2.2.1
  have HDX : Hid (∀ n : Nat, n ≤ 262144 → (hdB (hX n)).length = 512) := fun n hn => (hd_dec (hX_ck (n := n) (by omega))).2.2.1
  have EA := Lib.hid fun (w' : World) => enc_arr w' (by unfold maxLen; omega) (by unfold maxLen; omega) (by unfold maxLen; omega) z4
  have HHB : Hid (Ust.encH (plH ⟨k, p, m, t, s⟩).T (plH ⟨k, p, m, t, s⟩).nm (plH ⟨k, p, m, t, s⟩).pf (plH ⟨k, p, m, t, s⟩).lk (plH ⟨k, p, m, t, s⟩).md (plH ⟨k, p, m, t, s⟩).sz = hdB (plH ⟨k, p, m, t, s⟩)) := rfl
  obtain ⟨Y, hY⟩ := named (hdB (plH ⟨k, p, m, t, s⟩))
  rw [← hY.out] at HHB HDL EO EM
  rw [HHB.out] at EA
  obtain ⟨L, hL⟩ := named (plL ⟨k, p, m, t, s⟩)
  rw [← hL.out] at PL EO EM HG HVL FL FP FBY
  obtain ⟨R, hR⟩ := named (enZ ⟨k, p, m, t, s⟩)
  rw [← hR.out] at EO EM ENB
  rw [← hR.out]
  obtain ⟨T, hT⟩ := named (plH ⟨k, p, m, t, s⟩).T
  obtain ⟨nm, hnm⟩ := named (plH ⟨k, p, m, t, s⟩).nm
  obtain ⟨pf, hpf⟩ := named (plH ⟨k, p, m, t, s⟩).pf
  obtain ⟨lk, hlk⟩ := named (plH ⟨k, p, m, t, s⟩).lk
  obtain ⟨md, hmd⟩ := named (plH ⟨k, p, m, t, s⟩).md
  obtain ⟨sz, hsz⟩ := named (plH ⟨k, p, m, t, s⟩).sz
  rw [← hT.out, ← hnm.out, ← hpf.out, ← hlk.out, ← hmd.out, ← hsz.out] at PL EA
  have HV := Lib.hid V
  obtain ⟨i0, HI⟩ := info_u8 (P := Tryz.prog) (e := 5) (by kernel_rfl)
  clear V hp ht h e1 e2 hok z1 z2 z3 z4 HHB
  go_enter Tryz.func14, Tryz.ntmps14
  go_wp2_with (first | (refine wpList_box_obj rfl 24 _ rfl (enV k p m t s) rfl ?_; intro w1 g1 b1; have E1 := Lib.hid g1; have B1 := Lib.hid b1; have c0 := E1.out.get 0 rfl; have c1 := E1.out.get 1 rfl; have c2 := E1.out.get 2 rfl; have c3 := E1.out.get 3 rfl; have c4 := E1.out.get 4 rfl; clear g1 b1))
  refine (PL.out w1 B1.out).mono ?_; rintro e w2 ⟨b, n, c, rfl, hn, hc, hm, hR2, b2⟩
  have B2 := Lib.hid (belT B1.out b2)
  have HN := Lib.hid hn; have HC := Lib.hid hc; have HM := Lib.hid hm; have I2 := Lib.hid hR2
  clear b2 hn hc hm hR2 c0 c1 c2 c3 c4
  go_wp2_with (first | (refine wpList_alloc_obj rfl 63 rfl Ust.hd0 HZ.out ?_; intro w4 g4 b4; have R4 := Lib.hid g4; have A4 := Lib.hid b4; clear g4 b4) | (refine wpList_store_obj rfl 63 _ _ rfl w2.heap.size rfl (Ust.hdV T nm pf lk md sz) Ust.hd0 rfl 63 R4.out HO.out.2 rfl (hd_one _ _ _ _ _ _) ?_; intro w5 g5 t5; have X5 := Lib.hid g5; have A5 := Lib.hid (A4.out.trans (t5.below (Nat.le_refl _))); have B5 := Lib.hid (belT B2.out A5.out); have I5 := Lib.hid (I2.out.below A5.out); have d0 := X5.out.get 0 rfl; have d1 := X5.out.get 1 rfl; have d2 := X5.out.get 2 rfl; have d3 := X5.out.get 3 rfl; have d4 := X5.out.get 4 rfl; have d5 := X5.out.get 5 rfl; clear g5 t5))
  refine (EA.out w5).mono ?_; rintro e w6 ⟨g6, rfl, a6, x6, y6, b6⟩
  have A6 := Lib.hid a6; have X6 := Lib.hid (Nat.le_trans B5.out.size x6); have Y6 := Lib.hid y6
  have B6 := Lib.hid (belT B5.out b6); have I6 := Lib.hid (I5.out.below b6)
  clear a6 x6 y6 b6 d0 d1 d2 d3 d4 d5
  by_cases hn0 : n = 0
  · subst hn0
    have HEO := Lib.hid (EO.out HN.out)
    go_wp2_with fail
    go_ret2
    exact ⟨some ⟨g6, 0, none⟩, 512, 512, rfl, by rw [HEO.out]; exact HDL.out, Nat.le_refl _, by unfold maxLen; decide, by rw [HEO.out]; exact .of_row A6.out Y6.out, fun x hx => by cases hx; exact X6.out, B6.out⟩
  · have hnn : L.length ≠ 0 := by rw [HN.out]; exact hn0
    have HEM := Lib.hid (EM.out hnn)
    have HP1 := Lib.hid (FP.out hnn)
    have n1 : ((n : Int) == 0) = false := by simp [hn0]
    clear hnn hn0
    go_wp2_with fail
    refine (encrec_any b n c L w6 (HV.out.go B6.out).v (fun r hr => Nat.le_trans (HVL.out r hr) (by unfold maxLen; decide)) HN.out HC.out HM.out I6.out HG.out HP1.out (by have := FL.out; omega)).mono ?_; rintro e w7 ⟨v7, rfl, o7, b7⟩
    have O7 := Lib.hid o7; have B7 := Lib.hid (belT B6.out b7); have A7 : Hid (RowAt w7 g6 0 Y) := A6.out.below b7 Y6.out; have Y7 := Lib.hid (Nat.lt_of_lt_of_le Y6.out b7.size)
    obtain ⟨q7, hq7⟩ := named (512 + (padR (fmB L)).length)
    rw [← hq7.out] at O7
    have Q7 : Hid (q7 ≤ 300000) := by
      show _ ≤ _
      rw [hq7.out]
      have := FL.out
      unfold padR
      rw [List.length_append, zeros_length]
      have : padN (fmB L).length < 512 := by unfold padN; omega
      omega
    have HSZ : Hid (w6.heap.size ≤ w7.heap.size) := b7.size
    clear o7 b7
    go_wp2_with (first | (at_builtin; refine wpList_append_u8 rfl _ _ 25 rfl w6.heap.size 5 i0 Tryz.underlying25 HI v7 q7 _ rfl O7.out g6 0 512 512 Y rfl A7.out HDL.out (by have := Q7.out; omega) HSZ.out ?_; intro v8 w8 h8 b8; have H8 := Lib.hid h8; have B8 := Lib.hid (B7.out.trans (b8.mono B6.out.size)); clear h8 b8))
    go_ret2
    exact .own (by rw [HEM.out]; exact H8.out) ENB.out B6.out.size B8.out
end
theorem penc_any (e : Ent) (w : World) (V : FVars w) (hp : e.p.size ≤ maxLen) (ht : e.t.size ≤ maxLen) :
    Calls Tryz.prog 14 #[.agg (enV e.k e.p e.m e.t e.s).toArray] w (RetEn (enZ e) (ckE e) w) := by
  obtain ⟨k, p, m, t, s⟩ := e
  by_cases h : ckE ⟨k, p, m, t, s⟩ = 0
  · rw [h]; exact penc_ok w V hp ht h
  · rw [enZ_bad h]; exact penc_bad k p m t s w V hp ht h
end Go.Proofs.YtmbimnnacjbdfaaGreatDoor.Etr
/-
  Layer 10: the statements' own TooLarge.
-/
namespace Go.Proofs.YtmbimnnacjbdfaaGreatDoor.Fit
open Go.RowKit Pxr Pnm

set_option maxHeartbeats 1000000 in
theorem large_any (k : Int) (p : ByteArray) (m : Int) (t : ByteArray) (s : Int) (w : World) (hp : p.size ≤ maxLen) (ht : t.size ≤ maxLen) :
    Calls Tryz.prog 6 #[.agg (enV k p m t s).toArray] w fun e w' => ∃ B : Int, e = .returned (.int .i64 B) ∧ (B = 0 ∨ B = 1) ∧ Below w.heap.size w w' := by
  have h1 : (p.size : Int) ≤ 9223372036854775807 := by unfold maxLen at hp; omega
  have h2 : (t.size : Int) ≤ 9223372036854775807 := by unfold maxLen at ht; omega
  clear hp ht
  obtain ⟨z, hz⟩ := named (wrap64 ((p.size : Int) + t.size))
  by_cases c : 70000 < z
  · have c' : (70000 : Int) < wrap64 ((p.size : Int) + t.size) := by rw [← hz.out]; exact c
    go_enter Tryz.func6, Tryz.ntmps6
    go_wp2_with (first | (refine wpList_box_obj rfl 24 _ rfl (enV k p m t s) rfl ?_; intro w1 g1 b1; have B1 := Lib.hid b1; have c1 := g1.get 1 rfl; have c3 := g1.get 3 rfl; clear g1 b1))
    go_ret
    exact ⟨_, rfl, .inr rfl, B1.out⟩
  · have c' : ¬ (70000 : Int) < wrap64 ((p.size : Int) + t.size) := by rw [← hz.out]; exact c
    go_enter Tryz.func6, Tryz.ntmps6
    go_wp2_with (first | (refine wpList_box_obj rfl 24 _ rfl (enV k p m t s) rfl ?_; intro w1 g1 b1; have B1 := Lib.hid b1; have c1 := g1.get 1 rfl; have c3 := g1.get 3 rfl; clear g1 b1))
    go_ret
    exact ⟨_, rfl, .inl rfl, B1.out⟩
end Go.Proofs.YtmbimnnacjbdfaaGreatDoor.Fit
/-
  Layer 14: plain mathematics: the length of an archive of members. No memory.
-/
namespace Go.Proofs.YtmbimnnacjbdfaaGreatDoor.Flt
open Go.RowKit Go.Proofs.YtmbimnnacjbdfaaGreatDoor.Fit Go.Proofs.YtmbimnnacjbdfaaGreatDoor.Etr Pnm Tre

def mmZ : Mb := ⟨⟨0, emp, 0, emp, 0⟩, []⟩
def mz (l : List Mb) (i : Nat) : Mb := (l[i]?).getD mmZ
theorem mz_get {l : List Mb} {i : Nat} {x : Mb} (h : l[i]? = some x) : mz l i = x := by unfold mz; rw [h]; rfl
/-- the error of the first member that has one -/
def szE (L : List Mb) : Int := ((L.find? fun x => decide (ckE x.e ≠ 0)).map fun x => ckE x.e).getD 0
/-- what a member takes -/
def szO (x : Mb) : Nat := (enZ x.e).length + 512 * blkN x.e.s.toNat
def szN (L : List Mb) (j : Nat) : Nat := ((L.take j).map szO).sum
def szX (L : List Mb) : Int := if szE L = 0 then 1024 + (szN L L.length : Int) else 0
theorem szN_zero (L : List Mb) : szN L 0 = 0 := rfl
theorem szN_step {L : List Mb} {j : Nat} {x : Mb} (h : L[j]? = some x) : szN L (j + 1) = szN L j + szO x := by
  unfold szN; rw [List.take_add_one, h]; simp
theorem szE_zero {L : List Mb} : szE L = 0 ↔ ∀ x ∈ L, ckE x.e = 0 := by
  unfold szE
  constructor
  · intro h x hx
    cases e : L.find? fun x => decide (ckE x.e ≠ 0) with
    | none => simpa using (List.find?_eq_none.mp e) x hx
    | some y =>
      rw [e] at h
      have := List.find?_some e
      exact absurd h (of_decide_eq_true this)
  · intro h
    rw [List.find?_eq_none.mpr fun x hx => by simpa using h x hx]; rfl
theorem szE_at {L : List Mb} {j : Nat} {x : Mb} (h : L[j]? = some x) (hp : ∀ i, i < j → ckE (mz L i).e = 0) (hx : ckE x.e ≠ 0) : szE L = ckE x.e := by
  obtain ⟨hj, he⟩ := List.getElem?_eq_some_iff.mp h
  have : L.find? (fun x => decide (ckE x.e ≠ 0)) = some x := by
    refine List.find?_eq_some_iff_getElem.mpr ⟨decide_eq_true hx, j, hj, he, fun i hi => ?_⟩
    have := hp i hi
    rw [mz_get (List.getElem?_eq_getElem (show i < L.length by omega))] at this
    simpa using this
  unfold szE
  rw [this]; rfl
theorem szE_all {L : List Mb} {n : Nat} (hn : L.length = n) (hp : ∀ i, i < n → ckE (mz L i).e = 0) : szE L = 0 := szE_zero.mpr fun x hx => by
  obtain ⟨i, hi, rfl⟩ := List.getElem_of_mem hx
  have := hp i (by omega)
  rwa [mz_get (List.getElem?_eq_getElem hi)] at this
theorem szE_app (A B : List Mb) : szE (A ++ B) = if szE A ≠ 0 then szE A else szE B := by
  by_cases h : szE A = 0
  · rw [if_neg (fun e => e h)]
    have := szE_zero.mp h
    unfold szE
    rw [List.find?_append, List.find?_eq_none.mpr fun x hx => by simpa using this x hx]; rfl
  · rw [if_pos h]
    unfold szE at h ⊢
    rw [List.find?_append]
    cases e : A.find? fun x => decide (ckE x.e ≠ 0) with
    | none => rw [e] at h; exact absurd rfl h
    | some y => rfl
theorem szN_app (A B : List Mb) : szN (A ++ B) (A ++ B).length = szN A A.length + szN B B.length := by
  unfold szN
  rw [List.take_of_length_le (Nat.le_refl _), List.take_of_length_le (Nat.le_refl _), List.take_of_length_le (Nat.le_refl _), List.map_append, List.sum_append]
theorem szO_le {x : Mb} (h : ckE x.e = 0) : szO x ≤ 1099512000000 ∧ szO x % 512 = 0 ∧ 0 ≤ x.e.s ∧ x.e.s ≤ 1099511627776 := by
  have hok := ck_ok.mp h
  obtain ⟨s0, s1, _⟩ := sz_cases hok.sz
  obtain ⟨l1, l2⟩ := en_len h
  have hf := fm_len h
  have e1 : (enZ x.e).length ≤ 300000 ∧ (enZ x.e).length % 512 = 0 := by
    rw [l1, l2]
    split
    · omega
    · unfold blkN; omega
  unfold szO
  have := blkN_lt x.e.s.toNat
  refine ⟨by omega, by omega, s0, s1⟩
theorem szN_le {L : List Mb} : ∀ {j : Nat}, j ≤ L.length → (∀ i, i < j → ckE (mz L i).e = 0) → szN L j ≤ 1099512000000 * j ∧ szN L j % 512 = 0
  | 0, _, _ => ⟨Nat.zero_le _, rfl⟩
  | j + 1, hj, hp => by
    have e : L[j]? = some L[j] := List.getElem?_eq_getElem (by omega)
    obtain ⟨i1, i2⟩ := szN_le (j := j) (by omega) fun i hi => hp i (by omega)
    have h := hp j (by omega)
    rw [mz_get e] at h
    obtain ⟨h1, h2, _⟩ := szO_le h
    rw [szN_step e]
    omega
end Go.Proofs.YtmbimnnacjbdfaaGreatDoor.Flt
