/-
  Layer 9: the small functions of the laws: both Keys, size, slices.Equal of records, of keys; alive.
-/
import Derived.Test.YtjmnhnijmaceeaaDoorPxrRFmt
import Derived.Test.YtjmnhnijmaceeaaDoorPxrRParse
namespace Go.Proofs.YtjmnhnijmaceeaaDoor.Pxr
open Go.RowKit

/-- a slice of the three keys in a new block -/
def RetKeys (w : World) (e : Ending) (w' : World) : Prop :=
  ∃ g, e = .returned (.slice (some ⟨g, 0, none⟩) 3 3) ∧ w'.cell? ⟨g, 0, none⟩ = some (.string kLink) ∧ w'.cell? ⟨g, 1, none⟩ = some (.string kPath) ∧ w'.cell? ⟨g, 2, none⟩ = some (.string kSize) ∧ Below w.heap.size w w'
def ksV : List Value := [.string kLink, .string kPath, .string kSize]
def kz : List Value := [.string { data := #[] }, .string { data := #[] }, .string { data := #[] }]
theorem kzZ : (Tryd.prog.info? 59).map (·.zero) = some (some (.agg kz.toArray)) := by kernel_rfl
theorem kzS : (Tryd.prog.info? 59).map (·.size) = some ksV.length := by kernel_rfl
theorem ks_one : ∀ v ∈ ksV, v.oneCell' = true := by simp [ksV, Value.oneCell']

set_option maxRecDepth 100000 in
set_option maxHeartbeats 1000000 in
theorem pkeys_any (w : World) (V : Vars w) : Calls Tryd.prog 18 #[] w (RetKeys w) := by
  have c0 := V.k0; have c1 := V.k1; have c2 := V.k2
  have HZ := Lib.hid kzZ; have HS := Lib.hid kzS
  clear V
  go_enter Tryd.func18, Tryd.ntmps18
  go_wp2_with (first | (refine wpList_alloc_obj rfl 59 rfl kz HZ.out ?_; intro w1 g1 b1; have H1 := Lib.hid g1; have B1 := Lib.hid b1; clear g1 b1) | (refine wpList_store_obj rfl 59 _ _ rfl w.heap.size rfl ksV kz rfl 59 H1.out HS.out rfl ks_one ?_; intro w2 g2 t2; have H2 := Lib.hid g2; have T2 := Lib.hid t2; clear g2 t2))
  go_ret
  exact ⟨w.heap.size, rfl, H2.out.get 0 rfl, H2.out.get 1 rfl, H2.out.get 2 rfl, B1.out.trans (T2.out.below (Nat.le_refl _))⟩

set_option maxRecDepth 100000 in
set_option maxHeartbeats 1000000 in
theorem rkeys_any (w : World) : Calls Tryd.prog 19 #[] w (RetKeys w) := by
  go_enter Tryd.func19, Tryd.ntmps19
  go_wp2
  go_ret
  refine ⟨w.heap.size, rfl, ?_, ?_, ?_, (Below.refl _ _).alloc (Nat.le_refl _) _⟩ <;> (rw [World.cell?_alloc_at _ _ _ _ rfl]; rfl)

/-- the keys are equal -/
theorem eqk_any (g h : Nat) (w : World) (a0 : w.cell? ⟨g, 0, none⟩ = some (.string kLink)) (a1 : w.cell? ⟨g, 1, none⟩ = some (.string kPath)) (a2 : w.cell? ⟨g, 2, none⟩ = some (.string kSize))
    (b0 : w.cell? ⟨h, 0, none⟩ = some (.string kLink)) (b1 : w.cell? ⟨h, 1, none⟩ = some (.string kPath)) (b2 : w.cell? ⟨h, 2, none⟩ = some (.string kSize)) :
    Calls Tryd.prog 17 #[.slice (some ⟨g, 0, none⟩) 3 3, .slice (some ⟨h, 0, none⟩) 3 3] w fun e w' => e = .returned (.bool true) ∧ Below w.heap.size w w' := by
  have cells : ∀ (x : Nat) (p0 : w.cell? ⟨x, 0, none⟩ = some (.string kLink)) (p1 : w.cell? ⟨x, 1, none⟩ = some (.string kPath)) (p2 : w.cell? ⟨x, 2, none⟩ = some (.string kSize)),
      ∀ j, j < [kLink, kPath, kSize].length → w.cell? ⟨x, 0 + j, none⟩ = some (.string ([kLink, kPath, kSize].getD j ByteArray.empty)) := by
    intro x p0 p1 p2 j hj
    rw [Nat.zero_add]
    match j, hj with
    | 0, _ => exact p0
    | 1, _ => exact p1
    | 2, _ => exact p2
  refine (Tryd.slices_Equal_string g 0 3 3 h 0 3 3 [kLink, kPath, kSize] [kLink, kPath, kSize] w (by decide) (by decide) (by decide) (by decide) (cells g a0 a1 a2) (cells h b0 b1 b2)).mono ?_
  rintro e w' ⟨rfl, q, rfl⟩
  exact ⟨by rw [decide_eq_true rfl], drewN_below _ _ _⟩

/-- the sum of the lengths -/
def tot (rs : List Rec) : Nat := (rs.map fun r => r.1.size + r.2.size).sum
theorem tot_take_succ {rs : List Rec} {j : Nat} {r : Rec} (h : rs[j]? = some r) : tot (rs.take (j + 1)) = tot (rs.take j) + (r.1.size + r.2.size) := by
  have hl : j < rs.length := (List.getElem?_eq_some_iff.1 h).1
  unfold tot
  rw [List.take_succ_eq_append_getElem hl, (List.getElem?_eq_some_iff.1 h).2, List.map_append, List.sum_append]; simp
theorem tot_mem {rs : List Rec} {r : Rec} (h : r ∈ rs) : r.1.size + r.2.size ≤ tot rs := by
  unfold tot
  induction rs with
  | nil => cases h
  | cons q rs ih =>
    rw [List.map_cons, List.sum_cons]
    rcases List.mem_cons.1 h with rfl | h
    · omega
    · have := ih h; omega
theorem tot_le {rs : List Rec} (hv : ∀ r ∈ rs, r.1.size ≤ 140737488355328 ∧ r.2.size ≤ 140737488355328) (j : Nat) : tot (rs.take j) ≤ j * 281474976710656 := by
  have key : ∀ l : List Rec, (∀ r ∈ l, r.1.size ≤ 140737488355328 ∧ r.2.size ≤ 140737488355328) → tot l ≤ l.length * 281474976710656 := by
    intro l
    induction l with
    | nil => intro _; exact Nat.zero_le _
    | cons q l ih =>
      intro h
      have := ih fun r hr => h r (List.mem_cons_of_mem _ hr)
      have := h q (List.mem_cons_self ..)
      unfold tot at *
      rw [List.map_cons, List.sum_cons, List.length_cons]
      omega
  have := key (rs.take j) fun r hr => hv r (List.mem_of_mem_take hr)
  rw [List.length_take] at this
  refine Nat.le_trans this (Nat.mul_le_mul_right _ (Nat.min_le_left _ _))

set_option maxHeartbeats 2000000 in
set_option maxRecDepth 100000 in
theorem lsize_any (a : Option Addr) (n cap : Nat) (rs : List Rec) (w : World) (hv : ∀ r ∈ rs, r.1.size ≤ 140737488355328 ∧ r.2.size ≤ 140737488355328) (hn : rs.length = n) (h50 : n ≤ 50) (hR : RecsIn w a rs) :
    Calls Tryd.prog 9 #[.slice a n cap] w fun e w' => e = .returned (.int .i64 (tot rs : Nat)) ∧ Below w.heap.size w w' := by
  obtain ⟨T, hT⟩ := named ((tot rs : Nat) : Int)
  rw [← hT.out]
  have HR := Lib.hid hR; have HN := Lib.hid hn; have HSZ := Lib.hid hv
  have HZ := Lib.hid recZ; have HO := Lib.hid recO
  clear hR hn hv
  go_enter Tryd.func9, Tryd.ntmps9
  go_wp2
  go_loopw [3, 8] (fun t i wr => ∃ (j : Nat) (z : Int), i = .int .i64 j ∧ t = .int .i64 z ∧ j ≤ n ∧ Hid (z = (tot (rs.take j) : Nat)) ∧ 0 ≤ z ∧ z ≤ 20000000000000000 ∧ Below w.heap.size w wr) (fun _ i _ => n - (intOf i).toNat)
  case atStart => exact ⟨0, 0, rfl, rfl, Nat.zero_le _, rfl, Int.le_refl _, by decide, Below.refl _ _⟩
  case round =>
    obtain ⟨j, z, rfl, rfl, hj, HJ, z0, z1, hb⟩ := hrel
    have HL := Lib.hid hb
    clear hb
    by_cases hjn : j < n
    · obtain ⟨r, hr⟩ := get_some (show j < rs.length by rw [HN.out]; exact hjn)
      have hmem : r ∈ rs := List.mem_of_getElem? hr
      have hts := tot_take_succ hr
      obtain ⟨K, D⟩ := r
      obtain ⟨b, off, rfl, hlt, c0', c1'⟩ := (HR.out.below HL.out).get j _ hr
      have c0 : wr.cell? ⟨b, off + j * 2, none⟩ = some (.string K) := c0'
      have c1 : wr.cell? ⟨b, off + j * 2 + 1, none⟩ = some (.string D) := c1'
      have j1 : (j : Int) < n := by omega
      have k1 : (K.size : Int) ≤ 140737488355328 := by have := (HSZ.out _ hmem).1; dsimp only at this; omega
      have k2 : (D.size : Int) ≤ 140737488355328 := by have := (HSZ.out _ hmem).2; dsimp only at this; omega
      have HZ1 : Hid (z + ((K.size : Int) + (D.size : Int)) = (tot (rs.take (j + 1)) : Nat)) := by
        show _ = _
        rw [hts, HJ.out]; dsimp only; omega
      have HZ2 : Hid (z + ((K.size : Int) + (D.size : Int)) ≤ 20000000000000000) := by
        show _ ≤ _
        rw [HZ1.out]
        have := tot_le HSZ.out (j + 1)
        omega
      clear hts c0' c1' hr hmem hjn hlt
      go_wp2_with (first | (refine wpList_alloc_obj rfl 32 rfl rz HZ.out ?_; intro w2 g2 b2; have R2 := Lib.hid g2; have A2 := Lib.hid b2; clear g2 b2) | (refine wpList_store_obj rfl 32 _ _ rfl wr.heap.size rfl [.string K, .string D] rz rfl 32 R2.out HO.out.2 rfl (rec_one _ _) ?_; intro w3 g3 t3; have A3 := Lib.hid (A2.out.trans (t3.below (Nat.le_refl wr.heap.size))); have B3 := Lib.hid (belT HL.out A3.out); have d0 := g3.get 0 rfl; have d1 := g3.get 1 rfl; clear g3 t3 c0 c1))
      go_roundw
      case rel => exact ⟨j + 1, _, by go_num, rfl, by omega, HZ1.out, by omega, HZ2.out, B3.out⟩
      case measure => simp [intOf]; omega
    · have hj' : j = n := by omega
      have j1 : ¬ (j : Int) < n := by omega
      have HE : Hid (T = z) := by show _ = _; rw [hT.out, HJ.out, List.take_of_length_le (by rw [HN.out]; omega)]
      clear hjn hj'
      go_wp2
      go_ret
      exact ⟨by rw [HE.out]; rfl, HL.out⟩

def recFs : Array Field := #[{ name := "Key", type := 9, offset := 0, embedded := false, tag := "", pkgPath := "", byteOffset := 0 }, { name := "Value", type := 9, offset := 1, embedded := false, tag := "", pkgPath := "", byteOffset := 16 }]
theorem run_eqR (ht : Tryd.prog.underlying 32 = some (.struct recFs)) (hp : Tryd.prog.stoodInHeld 32 = false) (k v : ByteArray) (w : World) :
    (Op.equalIn 10000 32 (.agg #[.string k, .string v]) (.agg #[.string k, .string v])).run Tryd.prog w = .ok true w := by
  have hf : Tryd.prog.fieldsOf 32 = recFs := by unfold Program.fieldsOf; rw [ht]
  rw [run_equalIn_struct w 9999 32 _ _ (by rw [hf]; exact ht) hp, hf]
  have u9 := Tryd.underlying9
  simp [recFs, Op.eqFields, part, isAgg, u9, go_sem]

set_option maxHeartbeats 2000000 in
set_option maxRecDepth 100000 in
/-- slices that hold the same records are equal -/
theorem eqr_same (a : Option Addr) (n c : Nat) (b : Option Addr) (d : Nat) (rs : List Rec) (w : World) (hn : rs.length = n) (hA : RecsIn w a rs) (hB : RecsIn w b rs) (hm : n ≤ 1000000000) :
    Calls Tryd.prog 22 #[.slice a n c, .slice b n d] w fun e w' => e = .returned (.bool true) ∧ Below w.heap.size w w' := by
  have HA := Lib.hid hA; have HB := Lib.hid hB; have HN := Lib.hid hn
  have hq : ∀ k v w, (Op.equalIn 10000 32 (.agg #[.string k, .string v]) (.agg #[.string k, .string v])).run Tryd.prog w = .ok true w := fun k v w => run_eqR Tryd.underlying32 (by kernel_rfl) k v w
  have hg : Tryd.prog.eqGuardType Tryd.prog.depth 32 = false := by kernel_rfl
  clear hA hB hn
  go_enter Tryd.func22, Tryd.ntmps22
  go_wp2
  go_loopw [13] (fun i wr => ∃ j : Nat, i = .int .i64 j ∧ j ≤ n ∧ Below w.heap.size w wr) (fun i _ => n - (intOf i).toNat)
  case atStart => exact ⟨0, rfl, Nat.zero_le _, Below.refl _ _⟩
  case round =>
    obtain ⟨j, rfl, hj, hb⟩ := hrel
    have HL := Lib.hid hb
    clear hb
    by_cases hjn : j < n
    · obtain ⟨r, hr⟩ := get_some (show j < rs.length by rw [HN.out]; exact hjn)
      obtain ⟨K, D⟩ := r
      obtain ⟨b1, o1, rfl, _, c0', c1'⟩ := (HA.out.below HL.out).get j _ hr
      obtain ⟨b2, o2, rfl, _, d0', d1'⟩ := (HB.out.below HL.out).get j _ hr
      have c0 : wr.cell? ⟨b1, o1 + j * 2, none⟩ = some (.string K) := c0'
      have c1 : wr.cell? ⟨b1, o1 + j * 2 + 1, none⟩ = some (.string D) := c1'
      have d0 : wr.cell? ⟨b2, o2 + j * 2, none⟩ = some (.string K) := d0'
      have d1 : wr.cell? ⟨b2, o2 + j * 2 + 1, none⟩ = some (.string D) := d1'
      have j1 : (j : Int) < n := by omega
      have hq1 := hq K D
      clear c0' c1' d0' d1' hr hjn
      go_wp2_with fail
      go_quiet (fail)
      go_wp2
      go_roundw
      case rel => exact ⟨j + 1, by go_num, by omega, HL.out.trans (drewN_below _ _ _)⟩
      case measure => simp [intOf]; omega
    · have j1 : ¬ (j : Int) < n := by omega
      clear hjn
      go_wp2
      go_ret
      exact ⟨rfl, HL.out⟩

/-- the chapter's examples -/
def exR : Rec := (kPath, { data := #[97] })
def exS : Rec := (kSize, { data := #[56, 53, 56, 57, 57, 51, 52, 53, 57, 50] })
theorem ex_fm : fmE [] [exR] = 0 ∧ fmB [exR] = [57, 32, 112, 97, 116, 104, 61, 97, 10] := by
  have h : chk exR = 0 := by decide
  constructor
  · rw [fmE_cons]
    have : chkN [] exR = 0 := by unfold chkN; rw [if_neg (by rw [h]; simp), prev_none]; rfl
    rw [this, if_neg (by simp)]; rfl
  · have hz : szR exR = 9 := by
      have : Lib.nDigits (1 + 8) ≤ 1 := by rw [Lib.nDigits_small (by decide)]; exact Nat.le_refl _
      show szF 7 1 8 + 8 = 9
      rw [szF_stop this]
    rw [fmB_cons, fmB_nil, List.append_nil]
    unfold enR
    rw [hz, decD_small (by decide)]
    decide
theorem ex_sz : szR exS = 19 := by
  have h1 : ¬ Lib.nDigits (1 + 17) ≤ 1 := by rw [Lib.nDigits_big (by decide), Lib.nDigits_small (by decide)]; decide
  have h2 : Lib.nDigits (2 + 17) ≤ 2 := by rw [Lib.nDigits_big (by decide), Lib.nDigits_small (by decide)]; decide
  show szF 7 1 17 + 17 = 19
  rw [szF_go h1, szF_stop h2]

set_option maxHeartbeats 2000000 in
set_option maxRecDepth 100000 in
theorem alive_any (w : World) (V : Vars w) : Calls Tryd.prog 10 #[] w fun e w' => e = .returned (.bool true) ∧ Below w.heap.size w w' := by
  have HUnd := Lib.hid Tryd.underlying22
  have hJ := Lib.hid recJ
  have HV := Lib.hid V
  clear V
  go_enter Tryd.func10, Tryd.ntmps10
  go_wp2_with (first | (refine wpList_lit_rec rfl _ 32 _ rfl HUnd.out _ hJ.out kPath { data := #[97] } rfl ?_; intro w1 g1 b1; have G1 := Lib.hid g1; have B1 := Lib.hid b1; clear g1 b1))
  have HR : Hid (RecsIn w1 (some ⟨w.heap.size, 0, none⟩) [exR]) := by
    refine .inr ⟨w.heap.size, 0, rfl, (Array.getElem?_eq_some_iff.1 G1.out).1, fun i r hi => ?_⟩
    obtain rfl : i = 0 := by
      rcases Nat.eq_zero_or_pos i with h | h
      · exact h
      · rw [List.getElem?_eq_none (by simp; omega)] at hi; cases hi
    obtain rfl : r = exR := (Option.some.inj hi).symm
    rw [World.cell?, World.cell?, G1.out]
    exact ⟨rfl, rfl⟩
  refine (format_any _ 1 1 [exR] w1 (HV.out.go B1.out) (by intro r hr; simp at hr; subst hr; decide) rfl (Nat.le_refl _) (by decide) HR.out).mono ?_
  rintro e w2 ⟨b, m, c, rfl, hm, _, _, hB, b2⟩
  have hfr : fmR [exR] = [57, 32, 112, 97, 116, 104, 61, 97, 10] := by unfold fmR; rw [if_pos ex_fm.1, ex_fm.2]
  have hcv := run_str_in (P := Tryd.prog) Tryd.underlying25 Tryd.underlying5 Tryd.underlying9 hB m c hm
  rw [hfr] at hcv
  rw [ex_fm.1]
  have e1 : strOfNums [57, 32, 112, 97, 116, 104, 61, 97, 10] = { data := #[57, 32, 112, 97, 116, 104, 61, 97, 10] } := by decide +kernel
  rw [e1] at hcv
  have B2 := Lib.hid (belT B1.out b2)
  clear hB hm hfr b2
  go_wp2_with fail
  have S := size_any kSize { data := #[56, 53, 56, 57, 57, 51, 52, 53, 57, 50] } w2 (HV.out.go B2.out) (by decide)
  rw [show szR (kSize, { data := #[56, 53, 56, 57, 57, 51, 52, 53, 57, 50] }) = 19 from ex_sz] at S
  refine S.mono ?_; rintro e w3 ⟨rfl, b3⟩
  have B3 := Lib.hid (belT B2.out b3)
  clear b3 S
  go_wp2
  go_ret
  exact ⟨rfl, B3.out⟩
end Go.Proofs.YtjmnhnijmaceeaaDoor.Pxr
