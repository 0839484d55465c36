/-
  Layer 9: the program's Size; a slice of records; checkNext.
-/
import Derived.Test.YtokjmehecfjhmaaDoorPxrChk
import Derived.BigQuiet
namespace Go.Proofs.YtokjmehecfjhmaaDoor.Pxr
open Go.RowKit

set_option maxRecDepth 100000 in
set_option maxHeartbeats 1000000 in
theorem size_any (k v : ByteArray) (w : World) (V : Vars w) (h : oth (k, v) ≤ 1000000) : Calls Tryd.prog 35 #[.agg #[.string k, .string v]] w fun e w' => e = .returned (.int .i64 (szR (k, v) : Nat)) ∧ Below w.heap.size w w' := by
  obtain ⟨R, hR⟩ := named ((szR (k, v) : Nat) : Int)
  rw [← hR.out]
  obtain ⟨O, hO⟩ := named (oth (k, v))
  rw [← hO.out] at h
  have hO' := hO.out
  unfold oth at hO'
  dsimp only at hO'
  have b1 : (k.size : Int) ≤ 1000000 := by omega
  have b2 : (v.size : Int) ≤ 1000000 := by omega
  have S := szD_spec h
  have HRR : Hid (R = ((szD O + O : Nat) : Int)) := by show _ = _; rw [hR.out]; unfold szR szN; rw [← hO.out]
  have HO : Hid (3 + (k.size : Int) + (v.size : Int) = (O : Int)) := by show _ = _; omega
  have b0 : Hid (Below w.heap.size w (w.alloc (.cells #[.string k, .string v] 38))) := (Below.refl _ w).alloc (Nat.le_refl _) _
  have HS := Lib.hid S; have HV := Lib.hid V; have HL := Lib.hid h
  have h8 : Hid (Lib.nDigits (8 + O) ≤ 8) := nDigits_le 7 _ (by
    have : (10 : Nat) ^ (7 + 1) = 100000000 := by decide
    omega)
  clear hR hO hO' h S V
  go_enter Tryd.func35, Tryd.ntmps35
  go_wp2
  go_loopw [4] (fun d wr => ∃ D f : Nat, d = .int .i64 D ∧ 1 ≤ D ∧ D + f = 8 ∧ szF f D O = szD O ∧ Below w.heap.size w wr) (fun d _ => 9 - (intOf d).toNat)
  case atStart => exact ⟨1, 7, rfl, Nat.le_refl _, rfl, rfl, b0.out⟩
  case round =>
    obtain ⟨D, f, rfl, hD1, hDf, hz, hb⟩ := hrel
    have HZ := Lib.hid hz; have HB := Lib.hid hb
    have d0 : (0 : Int) ≤ D := by omega
    have d1 : (D : Int) ≤ 8 := by omega
    have I := itoa_any (D + O) (by have := HL.out; omega) wr (HV.out.go hb)
    have ei : ((D + O : Nat) : Int) = (D : Int) + (3 + (k.size : Int) + (v.size : Int)) := by rw [HO.out]; omega
    rw [ei] at I
    obtain ⟨T, hT⟩ := named (strOfNums (decD (D + O)))
    rw [← hT.out] at I
    have HI := Lib.hid I
    have hts : T.size = Lib.nDigits (D + O) := by rw [hT.out, strD_size]
    have HT := Lib.hid hts
    clear hz hb I ei hT
    by_cases ht : D < T.size
    · have m1 : (D : Int) < T.size := by omega
      have d2 : (D : Int) + 1 ≤ 9 := by omega
      have hf : f ≠ 0 := fun e => by
        have := h8.out
        rw [HT.out] at ht
        rw [show D = 8 by omega] at ht
        omega
      obtain ⟨g, rfl⟩ : ∃ g, f = g + 1 := ⟨f - 1, by omega⟩
      have HG : Hid (szF g (D + 1) O = szD O) := by
        show _ = _
        rw [← HZ.out, szF_go (by rw [← HT.out]; omega)]
      clear ht hts hf
      go_wp2_with fail
      refine HI.out.mono ?_; rintro e w1 ⟨rfl, b3⟩
      have B3 := Lib.hid b3
      clear b3
      go_wp2
      go_roundw
      case rel => exact ⟨D + 1, g, by go_num, by omega, by omega, HG.out, HB.out.trans (B3.out.mono HB.out.size)⟩
      case measure => simp [intOf]; omega
    · have m1 : ¬ (D : Int) < T.size := by omega
      have HE : Hid (R = (D : Int) + (3 + (k.size : Int) + (v.size : Int))) := by
        show _ = _
        rw [HRR.out, ← HZ.out, szF_stop (by rw [← HT.out]; omega), HO.out]; omega
      clear ht hts
      go_wp2_with fail
      refine HI.out.mono ?_; rintro e w1 ⟨rfl, b3⟩
      have B3 := Lib.hid b3
      clear b3
      go_wp2
      go_ret
      exact ⟨by rw [HE.out]; rfl, HB.out.trans (B3.out.mono HB.out.size)⟩

/-- the records lie at block b from off on -/
def RecsAt (w : World) (b off : Nat) (rs : List Rec) : Prop :=
  ∀ i r, rs[i]? = some r → w.cell? ⟨b, off + i * 2, none⟩ = some (.string r.1) ∧ w.cell? ⟨b, off + i * 2 + 1, none⟩ = some (.string r.2)
/-- the records are what the slice at a holds (a slice of none may lie anywhere) -/
def RecsIn (w : World) (a : Option Addr) (rs : List Rec) : Prop := rs = [] ∨ ∃ b off, a = some ⟨b, off, none⟩ ∧ b < w.heap.size ∧ RecsAt w b off rs
theorem RecsAt.below {w w' : World} {B b off : Nat} {rs : List Rec} (h : RecsAt w b off rs) (hb : Below B w w') (hB : b < B) : RecsAt w' b off rs := fun i r hi =>
  ⟨(hb.cell (p := ⟨b, off + i * 2, none⟩) hB).trans (h i r hi).1, (hb.cell (p := ⟨b, off + i * 2 + 1, none⟩) hB).trans (h i r hi).2⟩
theorem RecsIn.below {w w' : World} {a : Option Addr} {rs : List Rec} (h : RecsIn w a rs) (hb : Below w.heap.size w w') : RecsIn w' a rs := by
  rcases h with h | ⟨b, off, h1, h2, h3⟩
  · exact .inl h
  · exact .inr ⟨b, off, h1, Nat.lt_of_lt_of_le h2 hb.size, h3.below hb h2⟩
theorem RecsIn.get {w : World} {a : Option Addr} {rs : List Rec} (h : RecsIn w a rs) (i : Nat) (r : Rec) (hi : rs[i]? = some r) :
    ∃ b off, a = some ⟨b, off, none⟩ ∧ b < w.heap.size ∧ w.cell? ⟨b, off + i * 2, none⟩ = some (.string r.1) ∧ w.cell? ⟨b, off + i * 2 + 1, none⟩ = some (.string r.2) := by
  rcases h with h | ⟨b, off, h1, h2, h3⟩
  · rw [h] at hi; simp at hi
  · exact ⟨b, off, h1, h2, h3 i r hi⟩
theorem RecsIn.take {w : World} {a : Option Addr} {rs : List Rec} (h : RecsIn w a rs) (k : Nat) : RecsIn w a (rs.take k) := by
  rcases h with h | ⟨b, off, h1, h2, h3⟩
  · rw [h]; exact .inl (List.take_nil)
  · refine .inr ⟨b, off, h1, h2, fun i r hi => h3 i r ?_⟩
    rw [List.getElem?_take] at hi
    split at hi
    · exact hi
    · cases hi

theorem prev_none {k : ByteArray} : prevLe [] k = false := rfl
theorem prev_at {rs : List Rec} {q : Rec} {n : Nat} (hn : rs.length = n + 1) (h : rs[n]? = some q) (k : ByteArray) : prevLe rs k = keyLe k q.1 := by
  unfold prevLe
  rw [List.getLast?_eq_getElem?, hn, Nat.add_sub_cancel, h]

set_option maxHeartbeats 1000000 in
theorem next_any (a : Option Addr) (n cap : Nat) (rs : List Rec) (k v : ByteArray) (w : World) (V : Vars w) (hv : v.size ≤ maxLen) (hn : rs.length = n) (hc : n ≤ cap) (hm : cap ≤ maxLen) (hR : RecsIn w a rs) :
    Calls Tryd.prog 33 #[.slice a n cap, .agg #[.string k, .string v]] w fun e w' => e = .returned (.int .i64 (chkN rs (k, v))) ∧ Below w.heap.size w w' := by
  unfold maxLen at hm
  obtain ⟨R, hRR⟩ := named (chkN rs (k, v))
  rw [← hRR.out]
  have b0 : Hid (Below w.heap.size w (w.alloc (.cells #[.string k, .string v] 38))) := (Below.refl _ w).alloc (Nat.le_refl _) _
  have hC := Lib.hid fun (w' : World) (hb : Below w.heap.size w w') => check_any k v w' (V.go hb) hv
  obtain ⟨c, hcE⟩ := named (chk (k, v))
  rw [← hcE.out] at hC
  by_cases h0 : c = 0
  · by_cases hn0 : n = 0
    · have e := Lib.hid (show R = 0 by rw [hRR.out]; unfold chkN; rw [if_neg (by rw [← hcE.out, h0]; simp), List.length_eq_zero_iff.1 (hn.trans hn0), prev_none]; rfl)
      have hd : decide ((0 : Int) < (n : Int)) = false := by rw [hn0]; decide
      have hd2 : decide (0 < n) = false := by rw [hn0]; decide
      subst h0
      clear hRR hcE hn hR V hn0 hm hc
      go_enter Tryd.func33, Tryd.ntmps33
      go_wp2_with fail
      refine (hC.out _ b0.out).mono ?_; rintro e w1 ⟨rfl, b1⟩
      have B1 := Lib.hid b1
      clear b1
      have c0 : w1.cell? ⟨w.heap.size, 0, none⟩ = some (.string k) := (B1.out.cell (p := ⟨w.heap.size, 0, none⟩) (by simp)).trans (by rw [World.cell?_alloc_at _ _ _ _ rfl]; rfl)
      go_wp2_with fail
      go_quiet (fail)
      go_wp2
      go_ret
      exact ⟨by rw [e.out]; rfl, (b0.out.trans (B1.out.mono (by simp))).trans (drewN_below _ _ _)⟩
    · obtain ⟨m, hnm⟩ : ∃ m, n = m + 1 := ⟨n - 1, by omega⟩
      obtain ⟨q, hq⟩ : ∃ q, rs[m]? = some q := ⟨rs[m], List.getElem?_eq_getElem (by omega)⟩
      obtain ⟨b, off, rfl, hlt, q0, _⟩ := hR.get m q hq
      have q0' : Hid (∀ w', Below w.heap.size w w' → w'.cell? ⟨b, off + m * 2, none⟩ = some (.string q.1)) := fun w' hb => (hb.cell (p := ⟨b, off + m * 2, none⟩) hlt).trans q0
      have hle := prev_at (hn.trans hnm) hq k
      have hd : decide ((0 : Int) < (n : Int)) = true := decide_eq_true (by omega)
      have hd2 : decide (0 < n) = true := decide_eq_true (by omega)
      have m1 : IntKind.i64.wrap ((n : Int) - 1) = (m : Int) := by rw [show (n : Int) - 1 = m by omega]; exact wrapP (by omega) (by omega)
      have m2 : (m : Int) < n := by omega
      cases hK : keyLe k q.1 with
      | true =>
        have e := Lib.hid (show R = 12 by rw [hRR.out]; unfold chkN; rw [if_neg (by rw [← hcE.out, h0]; simp), hle, hK]; rfl)
        have hK' : (Op.bytesLess k.toList q.1.toList || k.toList == q.1.toList) = true := hK
        subst h0
        clear hRR hcE hn hR V q0 hq hle hK hn0 hnm
        go_enter Tryd.func33, Tryd.ntmps33
        go_wp2_with fail
        refine (hC.out _ b0.out).mono ?_; rintro e w1 ⟨rfl, b1⟩
        have B1 := Lib.hid b1
        have c0 : w1.cell? ⟨w.heap.size, 0, none⟩ = some (.string k) := (B1.out.cell (p := ⟨w.heap.size, 0, none⟩) (by simp)).trans (by rw [World.cell?_alloc_at _ _ _ _ rfl]; rfl)
        have c1 := q0'.out w1 (b0.out.trans (b1.mono (by simp)))
        clear b1
        go_wp2_with fail
        go_quiet (fail)
        go_wp2
        go_ret
        exact ⟨by rw [e.out]; rfl, (b0.out.trans (B1.out.mono (by simp))).trans (drewN_below _ _ _)⟩
      | false =>
        have e := Lib.hid (show R = 0 by rw [hRR.out]; unfold chkN; rw [if_neg (by rw [← hcE.out, h0]; simp), hle, hK]; rfl)
        have hK' : (Op.bytesLess k.toList q.1.toList || k.toList == q.1.toList) = false := hK
        subst h0
        clear hRR hcE hn hR V q0 hq hle hK hn0 hnm
        go_enter Tryd.func33, Tryd.ntmps33
        go_wp2_with fail
        refine (hC.out _ b0.out).mono ?_; rintro e w1 ⟨rfl, b1⟩
        have B1 := Lib.hid b1
        have c0 : w1.cell? ⟨w.heap.size, 0, none⟩ = some (.string k) := (B1.out.cell (p := ⟨w.heap.size, 0, none⟩) (by simp)).trans (by rw [World.cell?_alloc_at _ _ _ _ rfl]; rfl)
        have c1 := q0'.out w1 (b0.out.trans (b1.mono (by simp)))
        clear b1
        go_wp2_with fail
        go_quiet (fail)
        go_wp2
        go_ret
        exact ⟨by rw [e.out]; rfl, (b0.out.trans (B1.out.mono (by simp))).trans (drewN_below _ _ _)⟩
  · have e := Lib.hid (show R = c by rw [hRR.out]; unfold chkN; rw [if_pos (by rw [← hcE.out]; exact h0), hcE.out])
    have m1 : (c != 0) = true := by simpa using h0
    clear hRR hcE hn hR V h0
    go_enter Tryd.func33, Tryd.ntmps33
    go_wp2_with fail
    refine (hC.out _ b0.out).mono ?_; rintro e w1 ⟨rfl, b1⟩
    have B1 := Lib.hid b1
    clear b1
    go_wp2
    go_ret
    exact ⟨by rw [e.out]; rfl, b0.out.trans (B1.out.mono (by simp))⟩
end Go.Proofs.YtokjmehecfjhmaaDoor.Pxr
