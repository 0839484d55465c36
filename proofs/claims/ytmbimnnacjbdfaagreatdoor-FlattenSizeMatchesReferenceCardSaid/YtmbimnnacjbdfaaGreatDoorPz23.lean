/-
  Layer 9: the reference's Format.
-/
import Derived.Test.YtmbimnnacjbdfaaGreatDoorPz22
import Derived.Test.YtmbimnnacjbdfaaGreatDoorPz21
import Derived.Test.YtmbimnnacjbdfaaGreatDoorUstRefE
namespace Go.Proofs.YtmbimnnacjbdfaaGreatDoor.Pxr
open Go.RowKit

/-- as RetFm, without a word on the capacity -/
def RetFx (zs : List Int) (E : Int) (w : World) (e : Ending) (w' : World) : Prop :=
  ∃ b m c, e = .returned (.tuple #[.slice b m c, .int .i64 E]) ∧ zs.length = m ∧ BytesIn w' b zs ∧ Below w.heap.size w w'
theorem RetFx.nil {E : Int} {w w' : World} (h : Below w.heap.size w w') : RetFx [] E w (.returned (.tuple #[.slice none 0 0, .int .i64 E])) w' :=
  ⟨none, 0, 0, rfl, rfl, .inl rfl, h⟩

set_option maxHeartbeats 1000000 in
set_option maxRecDepth 100000 in
theorem rformat_nil (a : Option Addr) (cap : Nat) (w : World) : Calls Tryz.prog 28 #[.slice a 0 cap] w (RetFx [] 0 w) := by
  obtain ⟨c, w2, hrun, h1, h2, h3⟩ := run_bytes_of (P := Tryz.prog) w Tryz.underlying9 Tryz.underlying25 Tryz.underlying5 { data := #[] }
  go_enter Tryz.func28, Tryz.ntmps28
  go_wp2
  go_loop [4, 5] (fun s i => s = .string { data := #[] } ∧ i = .int .i64 (0 : Int)) (fun _ i => 0 - (intOf i).toNat)
  case atStart => exact ⟨rfl, rfl⟩
  case round =>
    obtain ⟨rfl, rfl⟩ := hrel
    go_wp2
    go_ret2
    exact ⟨_, _, c, rfl, rfl, .inl rfl, h2⟩

theorem fmB_take_le {rs : List Rec} {j : Nat} (h : fmE [] (rs.take j) = 0) : (fmB (rs.take j)).length ≤ 200000 := by
  have := fmB_le h j
  rw [List.take_take, Nat.min_self] at this
  omega

set_option maxHeartbeats 8000000 in
set_option maxRecDepth 100000 in
theorem rformat_some (b off n cap : Nat) (rs : List Rec) (w : World) (hv : ∀ r ∈ rs, r.2.size ≤ maxLen) (hn : rs.length = n) (hc : n ≤ cap) (hm : cap ≤ maxLen) (hlt : b < w.heap.size) (hR : RecsAt w b off rs) :
    Calls Tryz.prog 28 #[.slice (some ⟨b, off, none⟩) n cap] w (RetFx (fmR rs) (fmE [] rs) w) := by
  obtain ⟨E, hE⟩ := named (fmE [] rs)
  obtain ⟨X, hX⟩ := named (fmR rs)
  rw [← hE.out, ← hX.out]
  have HBAD : Hid (E ≠ 0 → X = []) := fun h => by rw [hX.out]; unfold fmR; rw [if_neg (by rw [← hE.out]; exact h)]
  have HGOOD : Hid (E = 0 → X = fmB rs) := fun h => by rw [hX.out]; unfold fmR; rw [if_pos (by rw [← hE.out]; exact h)]
  have HR := Lib.hid hR; have HN := Lib.hid hn; have HSZ := Lib.hid hv; have HLT := Lib.hid hlt; have HM := Lib.hid hm; have HC := Lib.hid hc
  unfold maxLen at hm
  clear hR hn hv hlt hX
  go_enter Tryz.func28, Tryz.ntmps28
  go_wp2
  go_loopw [4, 5] (fun s i wr => ∃ j : Nat, i = .int .i64 j ∧ j ≤ n ∧ s = .string (strOfNums (fmB (rs.take j))) ∧ fmE [] (rs.take j) = 0 ∧ fmE (rs.take j) (rs.drop j) = E ∧ Below w.heap.size w wr) (fun _ i _ => n - (intOf i).toNat)
  case atStart => exact ⟨0, rfl, Nat.zero_le _, rfl, rfl, by rw [hE.out]; rfl, Below.refl _ _⟩
  case round =>
    obtain ⟨j, rfl, hj, rfl, hf, he, hb⟩ := hrel
    have HF := Lib.hid hf; have HEJ := Lib.hid he; have HL := Lib.hid hb
    have HSL := Lib.hid (fmB_take_le hf)
    clear hf he hb
    obtain ⟨S, hS⟩ := named (strOfNums (fmB (rs.take j)))
    rw [← hS.out]
    have hSn : numsOf S = fmB (rs.take j) := by rw [hS.out]; exact numsOf_strOfNums (fmB_bd _)
    have ss : (S.size : Int) ≤ 200000 := by rw [← numsOf_length, hSn]; have := HSL.out; omega
    have HSN := Lib.hid hSn
    clear hSn
    by_cases hjn : j < n
    · obtain ⟨r, hr⟩ := get_some (show j < rs.length by rw [HN.out]; exact hjn)
      have hmem : r ∈ rs := List.mem_of_getElem? hr
      have hst := fmE_step hr
      have htake : rs.take (j + 1) = rs.take j ++ [r] := by
        have hl : j < rs.length := (List.getElem?_eq_some_iff.1 hr).1
        rw [List.take_succ_eq_append_getElem hl, (List.getElem?_eq_some_iff.1 hr).2]
      obtain ⟨K, D⟩ := r
      have KC : Hid (∀ w', Below wr.heap.size wr w' → w'.cell? ⟨b, off + j * 2, none⟩ = some (.string K) ∧ w'.cell? ⟨b, off + j * 2 + 1, none⟩ = some (.string D)) := fun w' hb =>
        ((HR.out.below HL.out HLT.out).below hb (Nat.lt_of_lt_of_le HLT.out HL.out.size)) j _ hr
      have c0 := (KC.out _ (Below.refl _ _)).1
      have c1 := (KC.out _ (Below.refl _ _)).2
      have j1 : (j : Int) < n := by omega
      rw [HEJ.out] at hst
      obtain ⟨C, hC⟩ := named (chk (K, D))
      have HCK := Lib.hid fun (w' : World) => rcheck_any K D w' (HSZ.out _ hmem)
      rw [← hC.out] at HCK
      by_cases hC0 : C = 0
      · have ch0 : chk (K, D) = 0 := by rw [← hC.out]; exact hC0
        have G := good_of ch0
        have go : oth (K, D) ≤ 100000 := by have := G.oth; omega
        have HON := Lib.hid fun (w' : World) => rone_any K D w' go
        obtain ⟨Y, hY⟩ := named (strOfNums (enR (K, D)))
        rw [← hY.out] at HON
        have hYn : numsOf Y = enR (K, D) := by rw [hY.out]; exact numsOf_strOfNums (enR_bd _)
        have ys : (Y.size : Int) ≤ 100000 := by rw [← numsOf_length, hYn, enR_len (by omega)]; have := G.sz; omega
        have HST : Hid (S ++ Y = strOfNums (fmB (rs.take (j + 1)))) := by
          show _ = _
          apply nums_inj
          rw [nums_cat, HSN.out, hYn, numsOf_strOfNums (fmB_bd _), htake, fmB_snoc]
        have next : chkN (rs.take j) (K, D) = 0 → fmE [] (rs.take (j + 1)) = 0 ∧ fmE (rs.take (j + 1)) (rs.drop (j + 1)) = E := fun h => by
          rw [h, if_neg (by simp)] at hst
          refine ⟨?_, hst.symm⟩
          rw [htake, fmE_app, List.nil_append]
          refine ⟨HF.out, ?_⟩
          rw [fmE_cons, if_neg (by rw [h]; simp)]; rfl
        have wrong : chkN (rs.take j) (K, D) = 12 → E = 12 := fun h => by rw [h, if_pos (by decide)] at hst; exact hst
        have NX := Lib.hid next
        have WR := Lib.hid wrong
        clear next wrong hst hYn go
        by_cases h0 : j = 0
        · have hd : decide ((0 : Int) < (j : Int)) = false := by rw [h0]; decide
          have hd2 : decide (0 < j) = false := by rw [h0]; decide
          have nx := NX.out (by unfold chkN; rw [if_neg (by rw [ch0]; simp), h0, List.take_zero, prev_none]; rfl)
          have HF2 := Lib.hid nx.1
          have HE2 := Lib.hid nx.2
          subst hC0
          clear ch0 nx hr hmem htake h0 G hjn
          go_wp2_with fail
          refine (HCK.out _).mono ?_; rintro e w1 ⟨rfl, b1⟩
          have A1 := Lib.hid b1
          have B1 := Lib.hid (belT HL.out b1)
          have d0 := (KC.out _ b1).1
          have d1 := (KC.out _ b1).2
          clear b1 c0 c1
          go_wp2_with fail
          go_quiet (fail)
          go_wp2_with fail
          refine (HON.out _).mono ?_; rintro e w2 ⟨rfl, b2⟩
          have B2 := Lib.hid (belT (B1.out.trans (drewN_below _ _ nq)) b2)
          clear b2
          go_wp2
          go_roundw
          case rel => exact ⟨j + 1, by go_num, by omega, by rw [← HST.out], HF2.out, HE2.out, B2.out⟩
          case measure => simp [intOf]; omega
        · obtain ⟨m, hmm⟩ : ∃ m, j = m + 1 := ⟨j - 1, by omega⟩
          obtain ⟨q, hq⟩ := get_some (show m < rs.length by rw [HN.out]; omega)
          have KQ : Hid (∀ w', Below wr.heap.size wr w' → w'.cell? ⟨b, off + m * 2, none⟩ = some (.string q.1)) := fun w' hb =>
            (((HR.out.below HL.out HLT.out).below hb (Nat.lt_of_lt_of_le HLT.out HL.out.size)) m _ hq).1
          have hd : decide ((0 : Int) < (j : Int)) = true := decide_eq_true (by omega)
          have hd2 : decide (0 < j) = true := decide_eq_true (by omega)
          have n1 : IntKind.i64.wrap ((j : Int) - 1) = (m : Int) := by rw [show (j : Int) - 1 = m by omega]; exact wrapP (by omega) (by omega)
          have n2 : (m : Int) < n := by omega
          have hle := prev_at (rs := rs.take j) (n := m) (by rw [List.length_take, HN.out]; omega) (by rw [List.getElem?_take, if_pos (by omega)]; exact hq) K
          cases hKL : keyLe K q.1 with
          | true =>
            have R0 := Lib.hid (WR.out (by unfold chkN; rw [if_neg (by rw [ch0]; simp), hle, hKL]; rfl))
            have hK' : (Op.bytesLess K.toList q.1.toList || K.toList == q.1.toList) = true := hKL
            subst hC0
            clear ch0 hr hmem htake h0 G hjn hle hKL hmm hq
            go_wp2_with fail
            refine (HCK.out _).mono ?_; rintro e w1 ⟨rfl, b1⟩
            have A1 := Lib.hid b1
            have B1 := Lib.hid (belT HL.out b1)
            have d0 := (KC.out _ b1).1
            have d1 := (KC.out _ b1).2
            clear b1 c0 c1
            have c2 := KQ.out _ A1.out
            go_wp2_with fail
            go_quiet (fail)
            go_wp2
            go_ret2
            rw [HBAD.out (by rw [R0.out]; decide), R0.out]
            exact .nil (B1.out.trans (drewN_below _ _ _))
          | false =>
            have nx := NX.out (by unfold chkN; rw [if_neg (by rw [ch0]; simp), hle, hKL]; rfl)
            have HF2 := Lib.hid nx.1
            have HE2 := Lib.hid nx.2
            have hK' : (Op.bytesLess K.toList q.1.toList || K.toList == q.1.toList) = false := hKL
            subst hC0
            clear ch0 nx hr hmem htake h0 G hjn hle hKL hmm hq
            go_wp2_with fail
            refine (HCK.out _).mono ?_; rintro e w1 ⟨rfl, b1⟩
            have A1 := Lib.hid b1
            have B1 := Lib.hid (belT HL.out b1)
            have d0 := (KC.out _ b1).1
            have d1 := (KC.out _ b1).2
            clear b1 c0 c1
            have c2 := KQ.out _ A1.out
            go_wp2_with fail
            go_quiet (fail)
            clear c2
            go_wp2_with fail
            refine (HON.out _).mono ?_; rintro e w2 ⟨rfl, b2⟩
            have B2 := Lib.hid (belT (B1.out.trans (drewN_below _ _ nq)) b2)
            clear b2
            go_wp2
            go_roundw
            case rel => exact ⟨j + 1, by go_num, by omega, by rw [← HST.out], HF2.out, HE2.out, B2.out⟩
            case measure => simp [intOf]; omega
      · have R0 := Lib.hid (show E = C by
          rw [show chkN (rs.take j) (K, D) = C by unfold chkN; rw [if_pos (by rw [← hC.out]; exact hC0), hC.out], if_pos hC0] at hst
          exact hst)
        have z4 : (C != 0) = true := by simpa using hC0
        have HC0 := Lib.hid hC0
        clear hC0 hst hr hmem htake hjn
        go_wp2_with fail
        refine (HCK.out _).mono ?_; rintro e w1 ⟨rfl, b1⟩
        have A1 := Lib.hid b1
        have B1 := Lib.hid (belT HL.out b1)
        have d0 := (KC.out _ b1).1
        have d1 := (KC.out _ b1).2
        clear b1 c0 c1
        go_wp2
        go_ret2
        rw [HBAD.out (by rw [R0.out]; exact HC0.out), R0.out]
        exact .nil B1.out
    · have hjn' : j = n := by omega
      have j1 : ¬ (j : Int) < n := by omega
      have R0 : Hid (E = 0) := by
        show _ = _
        have h := HEJ.out
        rw [List.drop_eq_nil_of_le (by rw [HN.out]; omega)] at h
        exact h.symm
      have hall : Hid (fmB rs = numsOf S) := by show _ = _; rw [HSN.out, List.take_of_length_le (by rw [HN.out]; omega)]
      have HM2 : Hid (S.size ≤ 200000) := by show _ ≤ _; omega
      obtain ⟨c, w2, hrun, h1, h2, h3⟩ := run_bytes_of (P := Tryz.prog) wr Tryz.underlying9 Tryz.underlying25 Tryz.underlying5 S
      have H1 := Lib.hid h1; have H2 := Lib.hid h2; have H3 := Lib.hid h3
      clear hjn hjn' h1 h2 h3
      go_wp2
      go_ret2
      rw [HGOOD.out R0.out, R0.out, hall.out]
      exact ⟨_, _, c, rfl, numsOf_length S, .of_row H1.out H3.out, belT HL.out H2.out⟩

theorem rformat_any (a : Option Addr) (n cap : Nat) (rs : List Rec) (w : World) (hv : ∀ r ∈ rs, r.2.size ≤ maxLen) (hn : rs.length = n) (hc : n ≤ cap) (hm : cap ≤ maxLen) (hR : RecsIn w a rs) :
    Calls Tryz.prog 28 #[.slice a n cap] w (RetFx (fmR rs) (fmE [] rs) w) := by
  rcases hR with rfl | ⟨b, off, rfl, hlt, hat⟩
  · obtain rfl : n = 0 := hn.symm
    exact rformat_nil a cap w
  · exact rformat_some b off n cap rs w hv hn hc hm hlt hat
end Go.Proofs.YtmbimnnacjbdfaaGreatDoor.Pxr
/-
  Layer 12: the reference's Encode.
-/
namespace Go.Proofs.YtmbimnnacjbdfaaGreatDoor.Etr
open Go.RowKit Go.Proofs.YtmbimnnacjbdfaaGreatDoor.Fit Pxr Pnm

set_option maxRecDepth 100000 in
set_option maxHeartbeats 4000000 in
theorem renc_badE (k : Int) (p : ByteArray) (m : Int) (t : ByteArray) (s : Int) (w : World) (hp : p.size ≤ maxLen) (ht : t.size ≤ maxLen) (h : ckE ⟨k, p, m, t, s⟩ ≠ 0) :
    Calls Tryz.prog 16 #[.agg (enV k p m t s).toArray] w (RetEn [] (ckE ⟨k, p, m, t, s⟩) w) := by
  have HO := Lib.hid hdTr; have HZ := Lib.hid zHr
  have PL := Lib.hid fun w' => rplan_any ⟨k, p, m, t, s⟩ w' hp ht
  obtain ⟨e1, e2⟩ := pl_bad_eq h
  unfold RetP at PL
  rw [e1, e2] at PL
  obtain ⟨E, hE⟩ := named (ckE ⟨k, p, m, t, s⟩)
  rw [← hE.out] at PL h
  rw [← hE.out]
  have n0 : (E != 0) = true := by simp [h]
  clear hp ht h e1 e2
  go_enter Tryz.func16, Tryz.ntmps16
  go_wp2_with (first | (refine wpList_box_obj rfl 24 _ rfl (enV k p m t s) rfl ?_; intro w1 g1 b1; have E1 := Lib.hid g1; have B1 := Lib.hid b1; have c0 := E1.out.get 0 rfl; have c1 := E1.out.get 1 rfl; have c2 := E1.out.get 2 rfl; have c3 := E1.out.get 3 rfl; have c4 := E1.out.get 4 rfl; clear g1 b1))
  refine (PL.out w1).mono ?_; rintro e w2 ⟨b, n, c, rfl, hn, hc, hm, hR, b2⟩
  have B2 := Lib.hid (belT B1.out b2)
  clear b2 hn hc hm hR c0 c1 c2 c3 c4
  go_wp2_with (first | (refine wpList_alloc_obj rfl 69 rfl Ust.hd0 HZ.out ?_; intro w4 g4 b4; have R4 := Lib.hid g4; have A4 := Lib.hid b4; clear g4 b4) | (refine wpList_store_obj rfl 69 _ _ rfl w2.heap.size rfl (Ust.hd0) Ust.hd0 rfl 69 R4.out HO.out.2 rfl (hd_one _ _ _ _ _ _) ?_; intro w5 g5 t5; have B5 := Lib.hid (belT B2.out (A4.out.trans (t5.below (Nat.le_refl _)))); clear g5 t5))
  go_ret2
  exact .nil B5.out

section
variable {k : Int} {p : ByteArray} {m : Int} {t : ByteArray} {s : Int}
set_option maxRecDepth 100000 in
set_option maxHeartbeats 16000000 in
theorem renc_okE (w : World) (hp : p.size ≤ maxLen) (ht : t.size ≤ maxLen) (h : ckE ⟨k, p, m, t, s⟩ = 0) :
    Calls Tryz.prog 16 #[.agg (enV k p m t s).toArray] w (RetEn (enZ ⟨k, p, m, t, s⟩) 0 w) := by
  have HO := Lib.hid hdTr; have HZ := Lib.hid zHr
  have PL := Lib.hid fun w' => rplan_any ⟨k, p, m, t, s⟩ w' hp ht
  obtain ⟨e1, e2⟩ := pl_good_eq h
  unfold RetP at PL
  rw [e1, e2, h] at PL
  have hok := ck_ok.1 h
  obtain ⟨z1, z2, z3, z4⟩ := pl_hd hok
  have EO := Lib.hid (enZ_one h); have EM := Lib.hid (enZ_more h)
  have HG := Lib.hid (pl_good hok); have HVL := Lib.hid (pl_vals hok)
  have FL := Lib.hid (fm_len h)
  have FP := Lib.hid (fm_pos (l := plL ⟨k, p, m, t, s⟩))
  have FBY := Lib.hid (fm_bytes (plL ⟨k, p, m, t, s⟩))
  have ENB := Lib.hid (en_bytes ⟨k, p, m, t, s⟩)
  have HDL : Hid ((hdB (plH ⟨k, p, m, t, s⟩)).length = 512) := (hd_dec (pl_ck h)).2.2.1
  have HDX : Hid (∀ n : Nat, n ≤ 262144 → (hdB (hX n)).length = 512) := fun n hn => (hd_dec (hX_ck (n := n) (by omega))).2.2.1
  have EA := Lib.hid fun (w' : World) => Ust.renc_ok _ _ _ _ _ _ w' (by unfold maxLen; omega) (by unfold maxLen; omega) (by unfold maxLen; omega) z4
  have EX := Lib.hid fun (w' : World) (n : Nat) (hn : n ≤ 262144) => Ust.renc_ok 120 kPax emp emp 0 (n : Int) w' (by decide) (by decide) (by decide) (hX_ck (n := n) (by omega))
  have HHB : Hid (Ust.encH (plH ⟨k, p, m, t, s⟩).T (plH ⟨k, p, m, t, s⟩).nm (plH ⟨k, p, m, t, s⟩).pf (plH ⟨k, p, m, t, s⟩).lk (plH ⟨k, p, m, t, s⟩).md (plH ⟨k, p, m, t, s⟩).sz = hdB (plH ⟨k, p, m, t, s⟩)) := rfl
  obtain ⟨Y, hY⟩ := named (hdB (plH ⟨k, p, m, t, s⟩))
  rw [← hY.out] at HHB HDL EO EM
  rw [HHB.out] at EA
  obtain ⟨L, hL⟩ := named (plL ⟨k, p, m, t, s⟩)
  rw [← hL.out] at PL EO EM HG HVL FL FP FBY
  obtain ⟨R, hR⟩ := named (enZ ⟨k, p, m, t, s⟩)
  rw [← hR.out] at EO EM ENB
  rw [← hR.out]
  obtain ⟨T, hT⟩ := named (plH ⟨k, p, m, t, s⟩).T
  obtain ⟨nm, hnm⟩ := named (plH ⟨k, p, m, t, s⟩).nm
  obtain ⟨pf, hpf⟩ := named (plH ⟨k, p, m, t, s⟩).pf
  obtain ⟨lk, hlk⟩ := named (plH ⟨k, p, m, t, s⟩).lk
  obtain ⟨md, hmd⟩ := named (plH ⟨k, p, m, t, s⟩).md
  obtain ⟨sz, hsz⟩ := named (plH ⟨k, p, m, t, s⟩).sz
  rw [← hT.out, ← hnm.out, ← hpf.out, ← hlk.out, ← hmd.out, ← hsz.out] at PL EA
  obtain ⟨i0, HI⟩ := info_u8 (P := Tryz.prog) (e := 5) (by kernel_rfl)
  have HI8 : Hid ((Tryz.prog.info? 5).map (fun i => (i.zero, i.size, i.bytes)) = some (some (.int .u8 0), 1, 1)) := by show _ = _; kernel_rfl
  clear hp ht h e1 e2 hok z1 z2 z3 z4 HHB
  go_enter Tryz.func16, Tryz.ntmps16
  go_wp2_with (first | (refine wpList_box_obj rfl 24 _ rfl (enV k p m t s) rfl ?_; intro w1 g1 b1; have E1 := Lib.hid g1; have B1 := Lib.hid b1; have c0 := E1.out.get 0 rfl; have c1 := E1.out.get 1 rfl; have c2 := E1.out.get 2 rfl; have c3 := E1.out.get 3 rfl; have c4 := E1.out.get 4 rfl; clear g1 b1))
  refine (PL.out w1).mono ?_; rintro e w2 ⟨b, n, c, rfl, hn, hc, hm, hR2, b2⟩
  have B2 := Lib.hid (belT B1.out b2)
  have HN := Lib.hid hn; have HC := Lib.hid hc; have HM := Lib.hid hm; have I2 := Lib.hid hR2
  clear b2 hn hc hm hR2 c0 c1 c2 c3 c4
  by_cases hn0 : n = 0
  · subst hn0
    have HEO := Lib.hid (EO.out HN.out)
    have OW : Hid (∀ w' : World, w'.ownsRow w.heap.size 5 1 (.slice none 0 0) 0 (([] : List Int).map (.int .u8))) := fun w' => own_none w' _ _ _
    go_wp2_with (first | (refine wpList_alloc_obj rfl 69 rfl Ust.hd0 HZ.out ?_; intro w4 g4 b4; have R4 := Lib.hid g4; have A4 := Lib.hid b4; clear g4 b4) | (refine wpList_store_obj rfl 69 _ _ rfl w2.heap.size rfl (Ust.hdV T nm pf lk md sz) Ust.hd0 rfl 69 R4.out HO.out.2 rfl (hd_one _ _ _ _ _ _) ?_; intro w5 g5 t5; have X5 := Lib.hid g5; have A5 := Lib.hid (A4.out.trans (t5.below (Nat.le_refl _))); have B5 := Lib.hid (belT B2.out A5.out); have d0 := X5.out.get 0 rfl; have d1 := X5.out.get 1 rfl; have d2 := X5.out.get 2 rfl; have d3 := X5.out.get 3 rfl; have d4 := X5.out.get 4 rfl; have d5 := X5.out.get 5 rfl; clear g5 t5))
    refine (EA.out w5).mono ?_; rintro e w6 ⟨g6, c6, rfl, a6, y6, b6⟩
    have A6 := Lib.hid a6; have Y6 := Lib.hid y6
    have B6 := Lib.hid (belT B5.out b6)
    clear a6 y6 b6 d0 d1 d2 d3 d4 d5
    go_wp2_with (first | (at_builtin; refine wpList_append_u8 rfl _ _ 25 rfl w.heap.size 5 i0 Tryz.underlying25 HI (.slice none 0 0) 0 [] rfl (OW.out w6) g6 0 512 c6 Y rfl A6.out HDL.out (by decide) B6.out.size ?_; intro v8 w8 h8 b8; have H8 := Lib.hid h8; have B8 := Lib.hid (B6.out.trans b8); clear h8 b8))
    go_ret2
    exact .own (by rw [HEO.out]; exact H8.out) ENB.out (Nat.le_refl _) B8.out
  · have hnn : L.length ≠ 0 := by rw [HN.out]; exact hn0
    have HEM := Lib.hid (EM.out hnn)
    have HP1 := Lib.hid (FP.out hnn)
    have n1 : (0 : Int) < n := by omega
    obtain ⟨F, hF⟩ := named (fmB L)
    have ef : fmR L = F := by rw [hF.out]; unfold fmR; rw [if_pos HG.out]
    rw [← hF.out] at HEM HP1 FL FBY
    obtain ⟨mF, hmF⟩ := named F.length
    rw [← hmF.out] at HEM HP1 FL
    obtain ⟨PN, hPN⟩ := named (padN mF)
    have HEQ : Hid (R = (hdB (hX mF) ++ F ++ zeros PN) ++ Y) := by
      show _ = _
      rw [HEM.out, hPN.out]
      unfold padR
      rw [← hmF.out]
      simp only [List.append_assoc]
    have HDX' := Lib.hid (HDX.out mF (by have := FL.out; omega))
    obtain ⟨X, hX⟩ := named (hdB (hX mF))
    have HXE : Hid (Ust.encH 120 kPax emp emp 0 (mF : Int) = X) := by show _ = _; rw [hX.out]; rfl
    rw [← hX.out] at HEQ HDX'
    obtain ⟨A, hA⟩ := named (512 + mF)
    have AM : Hid (A ≤ 200000) := by show _ ≤ _; rw [hA.out]; have := FL.out; omega
    have PB : Hid (PN < 512 ∧ (A + PN) % 512 = 0 ∧ ∀ j, j < PN → (A + j) % 512 ≠ 0) := by
      show _ ∧ _ ∧ _
      rw [hA.out, hPN.out]
      unfold padN
      refine ⟨by omega, by omega, fun j hj => by omega⟩
    have mF8 : (mF : Int) ≤ 200000 := by have := FL.out; omega
    have HEF := Lib.hid ef
    clear hnn hn0 ef
    go_wp2_with (first | (refine wpList_alloc_obj rfl 69 rfl Ust.hd0 HZ.out ?_; intro w4 g4 b4; have R4 := Lib.hid g4; have A4 := Lib.hid b4; clear g4 b4) | (refine wpList_store_obj rfl 69 _ _ rfl w2.heap.size rfl (Ust.hdV T nm pf lk md sz) Ust.hd0 rfl 69 R4.out HO.out.2 rfl (hd_one _ _ _ _ _ _) ?_; intro w5 g5 t5; have X5 := Lib.hid g5; have A5 := Lib.hid (A4.out.trans (t5.below (Nat.le_refl _))); have B5 := Lib.hid (belT B2.out A5.out); have I5 := Lib.hid (I2.out.below A5.out); clear g5 t5))
    have FM := rformat_any b n c L w5 (fun r hr => Nat.le_trans (HVL.out r hr) (by unfold maxLen; decide)) HN.out HC.out HM.out I5.out
    rw [HEF.out, HG.out] at FM
    refine FM.mono ?_; rintro e w6 ⟨b6, m6, c6, rfl, l6, i6, bb6⟩
    obtain rfl : mF = m6 := by rw [hmF.out]; exact l6
    have I6 := Lib.hid i6; have B6 := Lib.hid (belT B5.out bb6); have X6 := Lib.hid (X5.out.below bb6 X5.out.lt)
    clear FM l6 i6 bb6
    go_wp2_with fail
    refine (EX.out w6 mF (by have := FL.out; omega)).mono ?_; rintro e w7 ⟨g7, c7, rfl, a7, y7, b7⟩
    rw [HXE.out] at a7
    have A7 := Lib.hid a7; have Y7 := Lib.hid y7; have B7 := Lib.hid (belT B6.out b7); have X7 := Lib.hid (X6.out.below b7 X6.out.lt); have I7 := Lib.hid (I6.out.below b7)
    have OW : Hid (w7.ownsRow w7.heap.size 5 1 (.slice none 0 0) 0 (([] : List Int).map (.int .u8))) := own_none w7 _ _ _
    clear a7 y7 b7
    go_wp2_with (first | (at_builtin; refine wpList_append_u8 rfl _ _ 25 rfl w7.heap.size 5 i0 Tryz.underlying25 HI (.slice none 0 0) 0 [] rfl OW.out g7 0 512 c7 X rfl A7.out HDX'.out (by decide) (Nat.le_refl _) ?_; intro v8 w8 h8 b8; have H8 := Lib.hid h8; have B8 := Lib.hid b8; have I8 := Lib.hid (I7.out.below b8); clear h8 b8) | (at_builtin; refine wpList_append_in rfl _ _ 25 rfl w7.heap.size 5 i0 Tryz.underlying25 HI v8 (0 + 512) ([] ++ X) rfl H8.out b6 mF c6 F rfl I8.out hmF.out.symm (by have := FL.out; omega) B8.out.size ?_; intro v9 w9 h9 b9; have H9 := Lib.hid h9; have B9 := Lib.hid (B8.out.trans b9); clear h9 b9))
    have H9' : Hid (w9.ownsRow w7.heap.size 5 1 v9 A ((X ++ F ++ zeros 0).map (.int .u8))) := by
      show World.ownsRow _ _ _ _ _ _ _
      have e : X ++ F ++ zeros 0 = [] ++ X ++ F := by unfold zeros; simp
      rw [e, hA.out]
      have := H9.out
      rwa [Nat.zero_add] at this
    clear H8 H9 B8 I8 I7
    go_loopw [7] (fun v wr => ∃ j q : Nat, q = A + j ∧ j ≤ PN ∧ wr.ownsRow w7.heap.size 5 1 v q ((X ++ F ++ zeros j).map (.int .u8)) ∧ Below w7.heap.size w7 wr) (fun v _ => match v with | .slice _ l _ => A + PN - l | _ => 0)
    case atStart => exact ⟨0, A, rfl, Nat.zero_le _, H9'.out, B9.out⟩
    case round =>
      obtain ⟨j, q, hq, hj, ho, hb⟩ := hrel
      obtain ⟨va, vc, rfl, _⟩ := own_any ho
      have HO' := Lib.hid ho; have HL := Lib.hid hb; have HQ := Lib.hid hq
      have q8 : (q : Int) ≤ 300000 := by have := AM.out; have := PB.out.1; omega
      clear ho hb
      by_cases hlt : j < PN
      · have hr : ((q : Int) % 512 != 0) = true := by
          have := PB.out.2.2 j hlt
          simp only [bne_iff_ne, ne_eq]
          omega
        have HR := Lib.hid hlt
        clear hq
        go_wp2_with (first | (refine wpList_lit_one rfl 25 5 _ rfl Tryz.underlying25 HI8.out 0 rfl (by decide) ?_; intro wa ha ba; have HA := Lib.hid ha; have BA := Lib.hid ba; have OA := Lib.hid (own_keep HO'.out ba (Nat.le_refl _)); clear ha ba) | (at_builtin; refine wpList_append_u8 rfl _ _ 25 rfl w7.heap.size 5 i0 Tryz.underlying25 HI _ q _ rfl OA.out wr.heap.size 0 1 1 [0] rfl HA.out.row rfl (by omega) (Nat.le_trans HL.out.size BA.out.size) ?_; intro vb wb hb bb; have HB := Lib.hid hb; have BB := Lib.hid ((belT HL.out BA.out).trans bb); clear hb bb))
        go_roundw
        case rel =>
          refine ⟨j + 1, q + 1, by have := HQ.out; omega, HR.out, ?_, BB.out⟩
          have e : X ++ F ++ zeros (j + 1) = X ++ F ++ zeros j ++ [0] := by unfold zeros; rw [List.replicate_succ', List.append_assoc (X ++ F)]
          rw [e]
          exact HB.out
        case measure =>
          obtain ⟨_, _, rfl, _⟩ := own_any HB.out
          have := HQ.out; have := HR.out
          simp only
          omega
      · obtain rfl : j = PN := by omega
        have hr : ((q : Int) % 512 != 0) = false := by
          have := PB.out.2.1
          have h : (q : Int) % 512 = 0 := by omega
          rw [h]; rfl
        have X9 := Lib.hid (X7.out.below HL.out X7.out.lt)
        have d0 := X9.out.get 0 rfl; have d1 := X9.out.get 1 rfl; have d2 := X9.out.get 2 rfl; have d3 := X9.out.get 3 rfl; have d4 := X9.out.get 4 rfl; have d5 := X9.out.get 5 rfl
        clear hq hlt hj
        go_wp2_with fail
        refine (EA.out wr).mono ?_; rintro e w10 ⟨g10, c10, rfl, a10, y10, b10⟩
        have A10 := Lib.hid a10; have O10 := Lib.hid (own_keep HO'.out b10 (Nat.le_refl _)); have B10 := Lib.hid (belT HL.out b10)
        clear a10 y10 b10 d0 d1 d2 d3 d4 d5
        go_wp2_with (first | (at_builtin; refine wpList_append_u8 rfl _ _ 25 rfl w7.heap.size 5 i0 Tryz.underlying25 HI _ q _ rfl O10.out g10 0 512 c10 Y rfl A10.out HDL.out (by omega) B10.out.size ?_; intro v11 w11 h11 b11; have H11 := Lib.hid h11; have B11 := Lib.hid (B10.out.trans b11); clear h11 b11))
        go_ret2
        exact .own (by rw [HEQ.out]; exact H11.out) ENB.out B7.out.size (B7.out.trans (B11.out.mono B7.out.size))
end
theorem renc_any (e : Ent) (w : World) (hp : e.p.size ≤ maxLen) (ht : e.t.size ≤ maxLen) :
    Calls Tryz.prog 16 #[.agg (enV e.k e.p e.m e.t e.s).toArray] w (RetEn (enZ e) (ckE e) w) := by
  obtain ⟨k, p, m, t, s⟩ := e
  by_cases h : ckE ⟨k, p, m, t, s⟩ = 0
  · rw [h]; exact renc_okE w hp ht h
  · rw [enZ_bad h]; exact renc_badE k p m t s w hp ht h
end Go.Proofs.YtmbimnnacjbdfaaGreatDoor.Etr
