/-
  Layer 9: the reference's Format.
-/
import Derived.Test.YtjmnhnijmaceeaaDoorPxrRefD
import Derived.Test.YtjmnhnijmaceeaaDoorPxrParse
namespace Go.Proofs.YtjmnhnijmaceeaaDoor.Pxr
open Go.RowKit

/-- as RetFm, without a word on the capacity -/
def RetFx (zs : List Int) (E : Int) (w : World) (e : Ending) (w' : World) : Prop :=
  ∃ b m c, e = .returned (.tuple #[.slice b m c, .int .i64 E]) ∧ zs.length = m ∧ BytesIn w' b zs ∧ Below w.heap.size w w'
theorem RetFx.nil {E : Int} {w w' : World} (h : Below w.heap.size w w') : RetFx [] E w (.returned (.tuple #[.slice none 0 0, .int .i64 E])) w' :=
  ⟨none, 0, 0, rfl, rfl, .inl rfl, h⟩

set_option maxHeartbeats 1000000 in
set_option maxRecDepth 100000 in
theorem rformat_nil (a : Option Addr) (cap : Nat) (w : World) : Calls Tryd.prog 12 #[.slice a 0 cap] w (RetFx [] 0 w) := by
  obtain ⟨c, w2, hrun, h1, h2, h3⟩ := run_bytes_of (P := Tryd.prog) w Tryd.underlying9 Tryd.underlying25 Tryd.underlying5 { data := #[] }
  go_enter Tryd.func12, Tryd.ntmps12
  go_wp2
  go_loop [4, 5] (fun s i => s = .string { data := #[] } ∧ i = .int .i64 (0 : Int)) (fun _ i => 0 - (intOf i).toNat)
  case atStart => exact ⟨rfl, rfl⟩
  case round =>
    obtain ⟨rfl, rfl⟩ := hrel
    go_wp2
    go_ret2
    exact ⟨_, _, c, rfl, rfl, .inl rfl, h2⟩

theorem fmB_take_le {rs : List Rec} {j : Nat} (h : fmE [] (rs.take j) = 0) : (fmB (rs.take j)).length ≤ 200000 := by
  have := fmB_le h j
  rw [List.take_take, Nat.min_self] at this
  omega

set_option maxHeartbeats 8000000 in
set_option maxRecDepth 100000 in
theorem rformat_some (b off n cap : Nat) (rs : List Rec) (w : World) (hv : ∀ r ∈ rs, r.2.size ≤ maxLen) (hn : rs.length = n) (hc : n ≤ cap) (hm : cap ≤ maxLen) (hlt : b < w.heap.size) (hR : RecsAt w b off rs) :
    Calls Tryd.prog 12 #[.slice (some ⟨b, off, none⟩) n cap] w (RetFx (fmR rs) (fmE [] rs) w) := by
  obtain ⟨E, hE⟩ := named (fmE [] rs)
  obtain ⟨X, hX⟩ := named (fmR rs)
  rw [← hE.out, ← hX.out]
  have HBAD : Hid (E ≠ 0 → X = []) := fun h => by rw [hX.out]; unfold fmR; rw [if_neg (by rw [← hE.out]; exact h)]
  have HGOOD : Hid (E = 0 → X = fmB rs) := fun h => by rw [hX.out]; unfold fmR; rw [if_pos (by rw [← hE.out]; exact h)]
  have HR := Lib.hid hR; have HN := Lib.hid hn; have HSZ := Lib.hid hv; have HLT := Lib.hid hlt; have HM := Lib.hid hm; have HC := Lib.hid hc
  unfold maxLen at hm
  clear hR hn hv hlt hX
  go_enter Tryd.func12, Tryd.ntmps12
  go_wp2
  go_loopw [4, 5] (fun s i wr => ∃ j : Nat, i = .int .i64 j ∧ j ≤ n ∧ s = .string (strOfNums (fmB (rs.take j))) ∧ fmE [] (rs.take j) = 0 ∧ fmE (rs.take j) (rs.drop j) = E ∧ Below w.heap.size w wr) (fun _ i _ => n - (intOf i).toNat)
  case atStart => exact ⟨0, rfl, Nat.zero_le _, rfl, rfl, by rw [hE.out]; rfl, Below.refl _ _⟩
  case round =>
    obtain ⟨j, rfl, hj, rfl, hf, he, hb⟩ := hrel
    have HF := Lib.hid hf; have HEJ := Lib.hid he; have HL := Lib.hid hb
    have HSL := Lib.hid (fmB_take_le hf)
    clear hf he hb
    obtain ⟨S, hS⟩ := named (strOfNums (fmB (rs.take j)))
    rw [← hS.out]
    have hSn : numsOf S = fmB (rs.take j) := by rw [hS.out]; exact numsOf_strOfNums (fmB_bd _)
    have ss : (S.size : Int) ≤ 200000 := by rw [← numsOf_length, hSn]; have := HSL.out; omega
    have HSN := Lib.hid hSn
    clear hSn
    by_cases hjn : j < n
    · obtain ⟨r, hr⟩ := get_some (show j < rs.length by rw [HN.out]; exact hjn)
      have hmem : r ∈ rs := List.mem_of_getElem? hr
      have hst := fmE_step hr
      have htake : rs.take (j + 1) = rs.take j ++ [r] := by
        have hl : j < rs.length := (List.getElem?_eq_some_iff.1 hr).1
        rw [List.take_succ_eq_append_getElem hl, (List.getElem?_eq_some_iff.1 hr).2]
      obtain ⟨K, D⟩ := r
      have KC : Hid (∀ w', Below wr.heap.size wr w' → w'.cell? ⟨b, off + j * 2, none⟩ = some (.string K) ∧ w'.cell? ⟨b, off + j * 2 + 1, none⟩ = some (.string D)) := fun w' hb =>
        ((HR.out.below HL.out HLT.out).below hb (Nat.lt_of_lt_of_le HLT.out HL.out.size)) j _ hr
      have c0 := (KC.out _ (Below.refl _ _)).1
      have c1 := (KC.out _ (Below.refl _ _)).2
      have j1 : (j : Int) < n := by omega
      rw [HEJ.out] at hst
      obtain ⟨C, hC⟩ := named (chk (K, D))
      have HCK := Lib.hid fun (w' : World) => rcheck_any K D w' (HSZ.out _ hmem)
      rw [← hC.out] at HCK
      by_cases hC0 : C = 0
      · have ch0 : chk (K, D) = 0 := by rw [← hC.out]; exact hC0
        have G := good_of ch0
        have go : oth (K, D) ≤ 100000 := by have := G.oth; omega
        have HON := Lib.hid fun (w' : World) => rone_any K D w' go
        obtain ⟨Y, hY⟩ := named (strOfNums (enR (K, D)))
        rw [← hY.out] at HON
        have hYn : numsOf Y = enR (K, D) := by rw [hY.out]; exact numsOf_strOfNums (enR_bd _)
        have ys : (Y.size : Int) ≤ 100000 := by rw [← numsOf_length, hYn, enR_len (by omega)]; have := G.sz; omega
        have HST : Hid (S ++ Y = strOfNums (fmB (rs.take (j + 1)))) := by
          show _ = _
          apply nums_inj
          rw [nums_cat, HSN.out, hYn, numsOf_strOfNums (fmB_bd _), htake, fmB_snoc]
        have next : chkN (rs.take j) (K, D) = 0 → fmE [] (rs.take (j + 1)) = 0 ∧ fmE (rs.take (j + 1)) (rs.drop (j + 1)) = E := fun h => by
          rw [h, if_neg (by simp)] at hst
          refine ⟨?_, hst.symm⟩
          rw [htake, fmE_app, List.nil_append]
          refine ⟨HF.out, ?_⟩
          rw [fmE_cons, if_neg (by rw [h]; simp)]; rfl
        have wrong : chkN (rs.take j) (K, D) = 12 → E = 12 := fun h => by rw [h, if_pos (by decide)] at hst; exact hst
        have NX := Lib.hid next
        have WR := Lib.hid wrong
        clear next wrong hst hYn go
        by_cases h0 : j = 0
        · have hd : decide ((0 : Int) < (j : Int)) = false := by rw [h0]; decide
          have hd2 : decide (0 < j) = false := by rw [h0]; decide
          have nx := NX.out (by unfold chkN; rw [if_neg (by rw [ch0]; simp), h0, List.take_zero, prev_none]; rfl)
          have HF2 := Lib.hid nx.1
          have HE2 := Lib.hid nx.2
          subst hC0
          clear ch0 nx hr hmem htake h0 G hjn
          go_wp2_with fail
          refine (HCK.out _).mono ?_; rintro e w1 ⟨rfl, b1⟩
          have A1 := Lib.hid b1
          have B1 := Lib.hid (belT HL.out b1)
          have d0 := (KC.out _ b1).1
          have d1 := (KC.out _ b1).2
          clear b1 c0 c1
          go_wp2_with fail
          go_quiet (fail)
          go_wp2_with fail
          refine (HON.out _).mono ?_; rintro e w2 ⟨rfl, b2⟩
          have B2 := Lib.hid (belT (B1.out.trans (drewN_below _ _ nq)) b2)
          clear b2
          go_wp2
          go_roundw
          case rel => exact ⟨j + 1, by go_num, by omega, by rw [← HST.out], HF2.out, HE2.out, B2.out⟩
          case measure => simp [intOf]; omega
        · obtain ⟨m, hmm⟩ : ∃ m, j = m + 1 := ⟨j - 1, by omega⟩
          obtain ⟨q, hq⟩ := get_some (show m < rs.length by rw [HN.out]; omega)
          have KQ : Hid (∀ w', Below wr.heap.size wr w' → w'.cell? ⟨b, off + m * 2, none⟩ = some (.string q.1)) := fun w' hb =>
            (((HR.out.below HL.out HLT.out).below hb (Nat.lt_of_lt_of_le HLT.out HL.out.size)) m _ hq).1
          have hd : decide ((0 : Int) < (j : Int)) = true := decide_eq_true (by omega)
          have hd2 : decide (0 < j) = true := decide_eq_true (by omega)
          have n1 : IntKind.i64.wrap ((j : Int) - 1) = (m : Int) := by rw [show (j : Int) - 1 = m by omega]; exact wrapP (by omega) (by omega)
          have n2 : (m : Int) < n := by omega
          have hle := prev_at (rs := rs.take j) (n := m) (by rw [List.length_take, HN.out]; omega) (by rw [List.getElem?_take, if_pos (by omega)]; exact hq) K
          cases hKL : keyLe K q.1 with
          | true =>
            have R0 := Lib.hid (WR.out (by unfold chkN; rw [if_neg (by rw [ch0]; simp), hle, hKL]; rfl))
            have hK' : (Op.bytesLess K.toList q.1.toList || K.toList == q.1.toList) = true := hKL
            subst hC0
            clear ch0 hr hmem htake h0 G hjn hle hKL hmm hq
            go_wp2_with fail
            refine (HCK.out _).mono ?_; rintro e w1 ⟨rfl, b1⟩
            have A1 := Lib.hid b1
            have B1 := Lib.hid (belT HL.out b1)
            have d0 := (KC.out _ b1).1
            have d1 := (KC.out _ b1).2
            clear b1 c0 c1
            have c2 := KQ.out _ A1.out
            go_wp2_with fail
            go_quiet (fail)
            go_wp2
            go_ret2
            rw [HBAD.out (by rw [R0.out]; decide), R0.out]
            exact .nil (B1.out.trans (drewN_below _ _ _))
          | false =>
            have nx := NX.out (by unfold chkN; rw [if_neg (by rw [ch0]; simp), hle, hKL]; rfl)
            have HF2 := Lib.hid nx.1
            have HE2 := Lib.hid nx.2
            have hK' : (Op.bytesLess K.toList q.1.toList || K.toList == q.1.toList) = false := hKL
            subst hC0
            clear ch0 nx hr hmem htake h0 G hjn hle hKL hmm hq
            go_wp2_with fail
            refine (HCK.out _).mono ?_; rintro e w1 ⟨rfl, b1⟩
            have A1 := Lib.hid b1
            have B1 := Lib.hid (belT HL.out b1)
            have d0 := (KC.out _ b1).1
            have d1 := (KC.out _ b1).2
            clear b1 c0 c1
            have c2 := KQ.out _ A1.out
            go_wp2_with fail
            go_quiet (fail)
            clear c2
            go_wp2_with fail
            refine (HON.out _).mono ?_; rintro e w2 ⟨rfl, b2⟩
            have B2 := Lib.hid (belT (B1.out.trans (drewN_below _ _ nq)) b2)
            clear b2
            go_wp2
            go_roundw
            case rel => exact ⟨j + 1, by go_num, by omega, by rw [← HST.out], HF2.out, HE2.out, B2.out⟩
            case measure => simp [intOf]; omega
      · have R0 := Lib.hid (show E = C by
          rw [show chkN (rs.take j) (K, D) = C by unfold chkN; rw [if_pos (by rw [← hC.out]; exact hC0), hC.out], if_pos hC0] at hst
          exact hst)
        have z4 : (C != 0) = true := by simpa using hC0
        have HC0 := Lib.hid hC0
        clear hC0 hst hr hmem htake hjn
        go_wp2_with fail
        refine (HCK.out _).mono ?_; rintro e w1 ⟨rfl, b1⟩
        have A1 := Lib.hid b1
        have B1 := Lib.hid (belT HL.out b1)
        have d0 := (KC.out _ b1).1
        have d1 := (KC.out _ b1).2
        clear b1 c0 c1
        go_wp2
        go_ret2
        rw [HBAD.out (by rw [R0.out]; exact HC0.out), R0.out]
        exact .nil B1.out
    · have hjn' : j = n := by omega
      have j1 : ¬ (j : Int) < n := by omega
      have R0 : Hid (E = 0) := by
        show _ = _
        have h := HEJ.out
        rw [List.drop_eq_nil_of_le (by rw [HN.out]; omega)] at h
        exact h.symm
      have hall : Hid (fmB rs = numsOf S) := by show _ = _; rw [HSN.out, List.take_of_length_le (by rw [HN.out]; omega)]
      have HM2 : Hid (S.size ≤ 200000) := by show _ ≤ _; omega
      obtain ⟨c, w2, hrun, h1, h2, h3⟩ := run_bytes_of (P := Tryd.prog) wr Tryd.underlying9 Tryd.underlying25 Tryd.underlying5 S
      have H1 := Lib.hid h1; have H2 := Lib.hid h2; have H3 := Lib.hid h3
      clear hjn hjn' h1 h2 h3
      go_wp2
      go_ret2
      rw [HGOOD.out R0.out, R0.out, hall.out]
      exact ⟨_, _, c, rfl, numsOf_length S, .of_row H1.out H3.out, belT HL.out H2.out⟩

theorem rformat_any (a : Option Addr) (n cap : Nat) (rs : List Rec) (w : World) (hv : ∀ r ∈ rs, r.2.size ≤ maxLen) (hn : rs.length = n) (hc : n ≤ cap) (hm : cap ≤ maxLen) (hR : RecsIn w a rs) :
    Calls Tryd.prog 12 #[.slice a n cap] w (RetFx (fmR rs) (fmE [] rs) w) := by
  rcases hR with rfl | ⟨b, off, rfl, hlt, hat⟩
  · obtain rfl : n = 0 := hn.symm
    exact rformat_nil a cap w
  · exact rformat_some b off n cap rs w hv hn hc hm hlt hat
end Go.Proofs.YtjmnhnijmaceeaaDoor.Pxr
