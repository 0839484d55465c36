/- UstDcd UstDec2 -/
import Derived.Test.YtbbaleambgaanaaGreatDoorQ33
import Derived.Test.YtbbaleambgaanaaGreatDoorQ12
import Derived.Test.YtbbaleambgaanaaGreatDoorQ8
import Derived.Deep.RegionHeld3
import Derived.Test.YtbbaleambgaanaaGreatDoorQ11
namespace Go.Proofs.YtbbaleambgaanaaGreatDoor.Ust
open Go.RowKit
open Oct Cst Chk
theorem strs_ne {xs ys : List Int} (hx : Bytes xs) (hy : Bytes ys) (h : ¬ xs = ys) : ¬ strOfNums xs = strOfNums ys := fun e => h (by
  have h1 := numsOf_strOfNums hx
  rw [e, numsOf_strOfNums hy] at h1
  exact h1.symm)
theorem toList_ne {s t : ByteArray} (h : ¬ s = t) : (s.toList == t.toList) = false := by
  rw [beq_eq_false_iff_ne]
  exact fun e => h (by
    apply ByteArray.ext
    apply Array.ext'
    rw [ByteArray.toList_eq, ByteArray.toList_eq] at e
    exact e)
set_option maxHeartbeats 1000000 in
theorem eq_any (a : Option Addr) (n c : Nat) (xs : List Int) (b : Option Addr) (m d : Nat) (ys : List Int) (w : World) (h1 : BytesIn w a xs) (l1 : xs.length = n) (h2 : BytesIn w b ys) (l2 : ys.length = m) :
    Calls Tryz.prog 74 #[.slice a n c, .slice b m d] w fun e w' => e = .returned (.bool (decide (xs = ys))) ∧ w = w' := by
  have q1 : ((convert 24 9 (.slice a n c)).run Tryz.prog w) = .ok (.string (strOfNums xs)) w := run_str_in Tryz.underlying24 Tryz.underlying5 Tryz.underlying9 h1 n c l1
  have q2 : ((convert 24 9 (.slice b m d)).run Tryz.prog w) = .ok (.string (strOfNums ys)) w := run_str_in Tryz.underlying24 Tryz.underlying5 Tryz.underlying9 h2 m d l2
  by_cases h : xs = ys
  · subst h
    obtain ⟨s, hs⟩ := named (strOfNums xs)
    rw [← hs.out] at q1 q2
    rw [decide_eq_true rfl]
    clear h1 h2 l1 l2 hs
    go_enter Tryz.func74, Tryz.ntmps74
    go_wp2
    go_ret
    exact ⟨rfl, rfl⟩
  · have hne := strs_ne h1.bytes h2.bytes h
    rw [decide_eq_false h]
    obtain ⟨s, hs⟩ := named (strOfNums xs)
    obtain ⟨t, ht⟩ := named (strOfNums ys)
    rw [← hs.out] at q1 hne
    rw [← ht.out] at q2 hne
    have hn := toList_ne hne
    clear h1 h2 l1 l2 hs ht h
    go_enter Tryz.func74, Tryz.ntmps74
    go_wp2
    go_ret
    exact ⟨rfl, rfl⟩
def hv (zs : List Int) (j : Nat) : List Value :=
  [.int .u8 (if 6 < j then dT zs else 0), .string (if 0 < j then dNm zs else { data := #[] }), .string (if 12 < j then dPf zs else { data := #[] }), .string (if 7 < j then dLk zs else { data := #[] }), .int .i64 (if 1 < j then dMd zs else 0), .int .i64 (if 4 < j then dSz zs else 0)]
def pieceT (zs : List Int) (j : Nat) : List Int := (zs.drop (offT j)).take (wdT j)
theorem pieceT_length {zs : List Int} (hl : zs.length = 512) {j : Nat} (hj : j < 13) : (pieceT zs j).length = wdT j := by
  have := wdT_fit hj
  unfold pieceT; rw [List.length_take, List.length_drop]; omega
theorem one_getD (zs : List Int) (i : Nat) : ((zs.drop i).take 1).getD 0 0 = zs.getD i 0 := by
  rw [List.getD_eq_getElem?_getD, List.getD_eq_getElem?_getD, List.getElem?_take, if_pos (by decide), List.getElem?_drop, Nat.add_zero]
theorem prs_row {zs : List Int} (hl : zs.length = 512) {j : Nat} (hj : j < 13) (a : Option Addr) (cap : Nat) (hb : Nat) (w : World) (ho : ObjAt w hb 56 (hv zs j)) (hz : BytesIn w a (pieceT zs j)) (hc : wdT j ≤ cap) (hm : cap ≤ maxLen) :
    Calls Tryz.prog (prsT j) #[.pointer (some ⟨hb, 0, none⟩), .slice a (wdT j) cap] w (SetH hb (hv zs (j + 1)) w) := by
  have hl' := pieceT_length hl hj
  match j, hj with
  | 0, _ => exact pr_name a 100 cap (pieceT zs 0) w hb _ _ _ _ _ _ ho hz hl' hc hm
  | 1, _ => exact pr_mode a 8 cap (pieceT zs 1) w hb _ _ _ _ _ _ ho hz hl' hc hm
  | 2, _ => exact pr_skip w hb _ _ _ _ _ _ _ ho
  | 3, _ => exact pr_skip w hb _ _ _ _ _ _ _ ho
  | 4, _ => exact pr_size a 12 cap (pieceT zs 4) w hb _ _ _ _ _ _ ho hz hl' hc hm
  | 5, _ => exact pr_skip w hb _ _ _ _ _ _ _ ho
  | 6, _ =>
    have h := pr_type a cap (pieceT zs 6) w hb _ _ _ _ _ _ ho hz hl'
    have e : (pieceT zs 6).getD 0 0 = dT zs := one_getD zs 156
    rw [e] at h
    exact h
  | 7, _ => exact pr_link a 100 cap (pieceT zs 7) w hb _ _ _ _ _ _ ho hz hl' hc hm
  | 8, _ => exact pr_skip w hb _ _ _ _ _ _ _ ho
  | 9, _ => exact pr_skip w hb _ _ _ _ _ _ _ ho
  | 10, _ => exact pr_skip w hb _ _ _ _ _ _ _ ho
  | 11, _ => exact pr_skip w hb _ _ _ _ _ _ _ ho
  | 12, _ => exact pr_prefix a 155 cap (pieceT zs 12) w hb _ _ _ _ _ _ ho hz hl' hc hm
theorem dOk_iff {zs : List Int} : dOk zs ↔ ckH (dT zs) (dNm zs) (dPf zs) (dLk zs) (dMd zs) (dSz zs) = 0 ∧ encH (dT zs) (dNm zs) (dPf zs) (dLk zs) (dMd zs) (dSz zs) = zs := by
  constructor
  · exact fun h => h.2
  · intro h
    have := (dec_enc h.1).1
    rw [h.2] at this
    exact (dec_ok this).2.2.2
end Go.Proofs.YtbbaleambgaanaaGreatDoor.Ust
namespace Go.Proofs.YtbbaleambgaanaaGreatDoor.Ust
open Go.RowKit
open Oct Cst Chk
theorem hdZ : (Tryz.prog.info? 56).map (·.zero) = some (some (.agg hd0.toArray)) := by kernel_rfl
theorem hdO : ObjT Tryz.prog 56 6 := ⟨⟨_, Tryz.underlying56⟩, by kernel_rfl⟩
theorem hd_one (T : Int) (nm pf lk : ByteArray) (md sz : Int) : ∀ v ∈ hdV T nm pf lk md sz, v.oneCell' = true := by simp [Value.oneCell']
set_option maxHeartbeats 1000000 in
theorem dec_err (a : Option Addr) (n cap : Nat) (w : World) (v : Int) (hv0 : v ≠ 0) (hV : ∀ w', Below w.heap.size w w' → Calls Tryz.prog 72 #[.slice a n cap] w' fun e w'' => e = .returned (.int .i64 v) ∧ Below w'.heap.size w' w'') :
    Calls Tryz.prog 36 #[.slice a n cap] w fun e w' => e = .returned (.tuple #[.agg hd0.toArray, .int .i64 v]) ∧ Below w.heap.size w w' := by
  have HV := Lib.hid hV; have HZ := Lib.hid hdZ; have HO := Lib.hid hdO
  have e1 : (v != 0) = true := by simpa using hv0
  clear hV hv0
  go_enter Tryz.func36, Tryz.ntmps36
  go_wp2_with (first | (refine wpList_alloc_obj rfl 56 rfl hd0 HZ.out ?_; intro w1 g1 b1; have H1 := Lib.hid g1; have B1 := Lib.hid b1; clear g1 b1))
  refine (HV.out _ B1.out).mono ?_; rintro e w2 ⟨rfl, b2⟩
  have H2 := Lib.hid (H1.out.below b2 H1.out.lt)
  have B2 := Lib.hid (belT B1.out b2)
  clear b2
  go_wp2_with (first | (refine wpList_store_obj rfl 56 _ _ rfl w.heap.size rfl hd0 hd0 rfl 56 H2.out HO.out.2 rfl (hd_one _ _ _ _ _ _) ?_; intro w3 g3 t3; have H3 := Lib.hid g3; have T3 := Lib.hid t3; clear g3 t3))
  exact bodyPost_ret (results_obj_tmp Tryz.results36 HO.out _ w.heap.size rfl _ hd0 H3.out rfl) rfl ⟨rfl, B2.out.trans (T3.out.below (Nat.le_refl _))⟩
set_option maxHeartbeats 1000000 in
theorem dec_kind (b off cap : Nat) (zs : List Int) (w : World) (hl : zs.length = 512) (hr : RowAt w b off zs) (hlt : b < w.heap.size) (hs : zs = sealZ zs) (hk : ¬ known (dT zs)) :
    Calls Tryz.prog 36 #[.slice (some ⟨b, off, none⟩) 512 cap] w fun e w' => e = .returned (.tuple #[.agg hd0.toArray, .int .i64 8]) ∧ Below w.heap.size w w' := by
  have HZ := Lib.hid hdZ; have HO := Lib.hid hdO
  have HR := Lib.hid hr; have HL := Lib.hid hlt
  have HV : Hid (∀ w', Below w.heap.size w w' → Calls Tryz.prog 72 #[.slice (some ⟨b, off, none⟩) 512 cap] w' fun e w'' => e = .returned (.int .i64 0) ∧ Below w'.heap.size w' w'') :=
    fun w' hb => Chk.ver_ok _ cap zs w' 0 hl (.inr ⟨b, off, rfl, Nat.lt_of_lt_of_le hlt hb.size, hr.below hb hlt⟩) hr.2 (.inl ⟨hs, rfl⟩)
  obtain ⟨z, hz0, z1, z2, _⟩ := hr.get 156 (by omega)
  have HC : Hid (∀ w', Below w.heap.size w w' → w'.cell? ⟨b, off + 156, none⟩ = some (.int .u8 z)) := fun w' hb => by rw [hz0]; exact (hr.below hb hlt).1 156 (by omega)
  have hkz : ¬ known z := by rw [hz0]; exact hk
  have HK := fun w => known_any z w
  rw [decide_eq_false hkz] at HK
  have HKN := Lib.hid HK
  clear hr hl hs hk hz0 hlt hkz HK
  go_enter Tryz.func36, Tryz.ntmps36
  go_wp2_with (first | (refine wpList_alloc_obj rfl 56 rfl hd0 HZ.out ?_; intro w1 g1 b1; have H1 := Lib.hid g1; have B1 := Lib.hid b1; clear g1 b1))
  refine (HV.out _ B1.out).mono ?_; rintro e w2 ⟨rfl, b2⟩
  have H2 := Lib.hid (H1.out.below b2 H1.out.lt)
  have B2 := Lib.hid (belT B1.out b2)
  have c := HC.out w2 B2.out
  clear b2
  go_wp2_with fail
  refine (HKN.out _).mono ?_; rintro e w4 ⟨rfl, rfl⟩
  go_wp2_with (first | (refine wpList_store_obj rfl 56 _ _ rfl w.heap.size rfl hd0 hd0 rfl 56 H2.out HO.out.2 rfl (hd_one _ _ _ _ _ _) ?_; intro w3 g3 t3; have H3 := Lib.hid g3; have T3 := Lib.hid t3; clear g3 t3))
  exact bodyPost_ret (results_obj_tmp Tryz.results36 HO.out _ w.heap.size rfl _ hd0 H3.out rfl) rfl ⟨rfl, B2.out.trans (T3.out.below (Nat.le_refl _))⟩
theorem wrap_small {n : Int} (h0 : 0 ≤ n) (h1 : n ≤ 1000) : IntKind.i64.wrap n = n := by
  have hb : IntKind.i64.bits = 64 := rfl
  have hs : IntKind.i64.signed = true := rfl
  unfold IntKind.wrap
  simp only [hb, hs, Bool.true_and]
  have e : (2 : Int) ^ 64 = 18446744073709551616 := by decide
  have e' : (2 : Int) ^ (64 - 1) = 9223372036854775808 := by decide
  rw [e, e', Int.emod_eq_of_lt h0 (by omega), if_neg (by simp; omega)]
theorem cpS_max (zs : List Int) (h : Bytes zs) : (strOfNums (cpS zs)).size ≤ maxLen := by
  have hb : ∀ z ∈ cpS zs, 0 ≤ z ∧ z ≤ 255 := cpS_bd zs h
  rw [← numsOf_length, numsOf_strOfNums hb]
  unfold cpS maxLen
  split
  · exact Nat.zero_le _
  · split
    · exact Nat.zero_le _
    · have := trimZ_length zs; omega
theorem dNm_max {zs : List Int} (h : Bytes zs) : (dNm zs).size ≤ maxLen := cpS_max _ (h.take _)
theorem dPf_max {zs : List Int} (h : Bytes zs) : (dPf zs).size ≤ maxLen := cpS_max _ ((h.drop _).take _)
theorem dLk_max {zs : List Int} (h : Bytes zs) : (dLk zs).size ≤ maxLen := cpS_max _ ((h.drop _).take _)
set_option maxHeartbeats 4000000 in
set_option maxRecDepth 100000 in
theorem dec_known (b off cap : Nat) (zs : List Int) (w : World) (hl : zs.length = 512) (hr : RowAt w b off zs) (hlt : b < w.heap.size) (hcap : 512 ≤ cap) (hm : cap ≤ maxLen) (hs : zs = sealZ zs) (hk : known (dT zs)) :
    Calls Tryz.prog 36 #[.slice (some ⟨b, off, none⟩) 512 cap] w fun e w' => e = .returned (.tuple #[.agg (dH zs).toArray, .int .i64 (deE zs)]) ∧ Below w.heap.size w w' := by
  have HZ := Lib.hid hdZ; have HO := Lib.hid hdO
  have HR := Lib.hid hr; have HL := Lib.hid hlt; have HLN := Lib.hid hl; have HCAP := Lib.hid hcap; have HM := Lib.hid hm
  have HV : Hid (∀ w', Below w.heap.size w w' → Calls Tryz.prog 72 #[.slice (some ⟨b, off, none⟩) 512 cap] w' fun e w'' => e = .returned (.int .i64 0) ∧ Below w'.heap.size w' w'') :=
    fun w' hb => Chk.ver_ok _ cap zs w' 0 hl (.inr ⟨b, off, rfl, Nat.lt_of_lt_of_le hlt hb.size, hr.below hb hlt⟩) hr.2 (.inl ⟨hs, rfl⟩)
  obtain ⟨z, hz0, z1, z2, _⟩ := hr.get 156 (by omega)
  have HC : Hid (∀ w', Below w.heap.size w w' → w'.cell? ⟨b, off + 156, none⟩ = some (.int .u8 z)) := fun w' hb => by rw [hz0]; exact (hr.below hb hlt).1 156 (by omega)
  have hkz : known z := by rw [hz0]; exact hk
  have HK := fun w => known_any z w
  rw [decide_eq_true hkz] at HK
  have HKN := Lib.hid HK
  have GOOD : Hid (dOk zs → dH zs = hdV (dT zs) (dNm zs) (dPf zs) (dLk zs) (dMd zs) (dSz zs) ∧ deE zs = 0) := fun h => ⟨(de_good hl hs hk h).2, (de_good hl hs hk h).1⟩
  have BAD : Hid (¬ dOk zs → dH zs = hd0 ∧ deE zs = 6) := fun h => ⟨(de_syn hl hs hk h).2, (de_syn hl hs hk h).1⟩
  clear hr hl hs hk hz0 hlt hkz HK hcap hm
  obtain ⟨DH, hDH⟩ := named (dH zs)
  obtain ⟨DE, hDE⟩ := named (deE zs)
  rw [← hDH.out, ← hDE.out] at GOOD BAD
  rw [← hDH.out, ← hDE.out]
  go_enter Tryz.func36, Tryz.ntmps36
  go_wp2_with (first | (refine wpList_alloc_obj rfl 56 rfl hd0 HZ.out ?_; intro w1 g1 b1; have H1 := Lib.hid g1; have B1 := Lib.hid b1; clear g1 b1))
  refine (HV.out _ B1.out).mono ?_; rintro e w2 ⟨rfl, b2⟩
  have H2 := Lib.hid (H1.out.below b2 H1.out.lt)
  have B2 := Lib.hid (belT B1.out b2)
  have c := HC.out w2 B2.out
  clear b2
  go_wp2_with fail
  refine (HKN.out _).mono ?_; rintro e w4 ⟨rfl, rfl⟩
  clear c
  go_wp2_with (first | (refine wpList_alloc_obj rfl 56 rfl hd0 HZ.out ?_; intro w3 g3 b3; have H3 := Lib.hid g3; have B3 := Lib.hid b3; clear g3 b3))
  refine (fields_any _).mono ?_; rintro e w4 ⟨rfl, h4, b4⟩
  have T4 := Lib.hid h4
  have R4 := Lib.hid ((H2.out.below B3.out H2.out.lt).below b4 (Nat.lt_of_lt_of_le H2.out.lt B3.out.size))
  have O4 := Lib.hid (H3.out.below b4 H3.out.lt)
  have B4 := Lib.hid (belT (belT B2.out B3.out) b4)
  have LR := Lib.hid H2.out.lt
  have LO := Lib.hid H3.out.lt
  have LW := Lib.hid B2.out.size
  clear h4 b4
  obtain ⟨r, hrr⟩ := named w.heap.size
  obtain ⟨hb, hhb⟩ := named w2.heap.size
  obtain ⟨tb, htb⟩ := named w3.heap.size
  rw [← hrr.out] at R4 LR LW
  rw [← hhb.out] at O4 LO LR LW
  rw [← htb.out] at T4 LO
  rw [← hrr.out, ← hhb.out, ← htb.out]
  go_wp2_with fail
  go_loopw [24] (fun i wr => ∃ j : Nat, j ≤ 13 ∧ i = .int .i64 j ∧ ObjAt wr hb 56 (hv zs j) ∧ ObjAt wr tb 130 tabV ∧ ObjAt wr r 56 hd0 ∧ Below w.heap.size w wr) (fun i _ => 13 - (intOf i).toNat)
  case atStart => exact ⟨0, Nat.zero_le _, rfl, O4.out, T4.out, R4.out, B4.out⟩
  case round =>
    obtain ⟨j, hj, rfl, ho, ht, hr, hbb⟩ := hrel
    have O := Lib.hid ho; have T := Lib.hid ht; have R := Lib.hid hr; have B := Lib.hid hbb
    clear ho ht hr hbb
    by_cases hlt : j < 13
    · have hlt' : (j : Int) < 13 := by omega
      have hrow := tab_row hlt
      have PCj : Hid (pieceT zs j = (zs.drop (offT j)).take (wdT j)) := rfl
      have FIT := Lib.hid (wdT_fit hlt)
      have PE : Hid (∀ args w, (callFunc (prsT j) args).run Tryz.prog w = .ok (.enter (prsT j) args) w) := fun args w => prs_enter hlt args w
      have PR : Hid (∀ (a : Option Addr) (cap : Nat) (w : World), ObjAt w hb 56 (hv zs j) → BytesIn w a (pieceT zs j) → wdT j ≤ cap → cap ≤ maxLen → Calls Tryz.prog (prsT j) #[.pointer (some ⟨hb, 0, none⟩), .slice a (wdT j) cap] w (SetH hb (hv zs (j + 1)) w)) := fun a cap w => prs_row HLN.out hlt a cap hb w
      obtain ⟨of, hof⟩ := named (offT j)
      obtain ⟨wd, hwd⟩ := named (wdT j)
      obtain ⟨f, hfn⟩ := named (fmtT j)
      obtain ⟨p, hpn⟩ := named (prsT j)
      rw [← hof.out, ← hwd.out, ← hfn.out, ← hpn.out] at hrow
      rw [← hof.out, ← hwd.out] at FIT PCj
      rw [← hpn.out] at PE
      rw [← hwd.out, ← hpn.out] at PR
      have RW : Hid (∀ i u, (rowV of wd f p)[i]? = some u → wr.cell? ⟨tb, j * 4 + i, none⟩ = some u) := fun i u hu => T.out.get _ (hrow i u hu)
      clear hrow hof hwd hfn hpn
      have HZF : Hid ((Tryz.prog.info? 130).map (·.zero) = some (some (.agg ([.int .i64 0, .int .i64 0, .nilFunc, .nilFunc] : List Value).toArray))) := by show _ = _; kernel_rfl
      have HT : Hid (ObjT Tryz.prog 130 4) := ⟨⟨_, Tryz.underlying130⟩, by kernel_rfl⟩
      go_wp2_with (first | (refine wpList_load_part rfl 130 4 HT.out _ rfl tb (j * 4) rfl (rowV of wd f p) rfl RW.out ?_) | (refine wpList_alloc_obj rfl 130 rfl [.int .i64 0, .int .i64 0, .nilFunc, .nilFunc] HZF.out ?_; intro w5 g5 b5; have H5 := Lib.hid g5; have B5 := Lib.hid b5; clear g5 b5) | (refine wpList_store_obj rfl 130 _ _ rfl wr.heap.size rfl (rowV of wd f p) [.int .i64 0, .int .i64 0, .nilFunc, .nilFunc] rfl 130 H5.out HT.out.2 rfl (by simp [Value.oneCell']) ?_; intro w6 g6 t6; have H6 := Lib.hid g6; have T6 := Lib.hid t6; clear g6 t6))
      obtain ⟨g, hg⟩ := named wr.heap.size
      have LA := Lib.hid O.out.lt; have LT := Lib.hid T.out.lt; have LR' := Lib.hid R.out.lt
      rw [← hg.out] at H5 H6 T6 LA LT LR'
      have NG : Hid (Below w.heap.size w w6) := by
        have h : w.heap.size ≤ g := by rw [hg.out]; exact B.out.size
        exact B.out.trans ((B5.out.mono B.out.size).trans (T6.out.below h))
      have O6 : Hid (ObjAt w6 hb 56 (hv zs j)) := (O.out.below B5.out O.out.lt).turned T6.out (Nat.ne_of_lt LA.out)
      have T6' : Hid (ObjAt w6 tb 130 tabV) := (T.out.below B5.out T.out.lt).turned T6.out (Nat.ne_of_lt LT.out)
      have R6 : Hid (ObjAt w6 r 56 hd0) := (R.out.below B5.out R.out.lt).turned T6.out (Nat.ne_of_lt LR'.out)
      have N6 : Hid (RowAt w6 b off zs) := HR.out.below NG.out HL.out
      have L6 : Hid (b < w6.heap.size) := Nat.lt_of_lt_of_le HL.out NG.out.size
      have KS : Hid (w6.drew.cell? ⟨g, 0, none⟩ = some (.int .i64 of) ∧ w6.drew.cell? ⟨g, 1, none⟩ = some (.int .i64 wd) ∧ w6.drew.cell? ⟨g, 3, none⟩ = some (.func (.func p) #[] #[])) := by
        have h := H6.out.below (Below.refl w6.heap.size w6).drew H6.out.lt
        exact ⟨h.get 0 rfl, h.get 1 rfl, h.get 3 rfl⟩
      have KT : Hid (∀ w', Out hb (hb + 1) w6.drew w' → w'.cell? ⟨g, 0, none⟩ = some (.int .i64 of) ∧ w'.cell? ⟨g, 1, none⟩ = some (.int .i64 wd) ∧ w'.cell? ⟨g, 3, none⟩ = some (.func (.func p) #[] #[])) := fun w' hw => by
        have h := (H6.out.below (Below.refl w6.heap.size w6).drew H6.out.lt).out hw (.inr LA.out)
        exact ⟨h.get 0 rfl, h.get 1 rfl, h.get 3 rfl⟩
      have PRj : Hid (Calls Tryz.prog p #[.pointer (some ⟨hb, 0, none⟩), .slice (some ⟨b, off + of, none⟩) wd (cap - of)] w6.drew (SetH hb (hv zs (j + 1)) w6.drew)) := by
        have hd : Below w6.heap.size w6 w6.drew := (Below.refl _ _).drew
        refine PR.out _ _ _ (O6.out.below hd O6.out.lt) ?_ (by have := FIT.out; have := HCAP.out; omega) (Nat.le_trans (Nat.sub_le _ _) HM.out)
        rw [PCj.out]
        exact .inr ⟨b, off + of, rfl, L6.out, ((N6.out.below hd L6.out).drop of).take wd⟩
      have o1 : (of : Int) ≤ 512 := by have := FIT.out; omega
      obtain ⟨en, hen⟩ := named (of + wd)
      have o2 : IntKind.i64.wrap ((of : Int) + (wd : Int)) = (en : Int) := by
        have h := FIT.out
        rw [hen.out, wrap_small (by omega) (by omega)]; omega
      have o3 : en ≤ cap := by have := FIT.out; have := HCAP.out; have := hen.out; omega
      have o4 : of ≤ en := by have := hen.out; omega
      have o5 : en - of = wd := by have := hen.out; omega
      have o6 : ¬ cap = of := by have := FIT.out; have := HCAP.out; omega
      go_simp
      rw [← hg.out]
      -- REGION
      refine wp_region_held_drew (S := (fun w' => w'.cell? ⟨g, 0, none⟩ = some (.int .i64 of) ∧ w'.cell? ⟨g, 1, none⟩ = some (.int .i64 wd) ∧ w'.cell? ⟨g, 3, none⟩ = some (.func (.func p) #[] #[]))) (by kernel_rfl) (KS.out) (fun hHeld => ?_)
      refine tk 0 { dst := some 28, op := Go.Op.fieldAddr 130 (Go.Operand.tmp 7) 3, type := 0, pos := "ustar.go:83", after := #[], guard := none } ?_ ?_ ?_
      rotate_left 1
      focus ((intro wS hSw; (try dsimp only at hSw); go_simp) <;> (try with_reducible rfl))
      simp only [Act.put, List.setIfInBounds_toArray, List.set_cons_zero, List.set_cons_succ]
      refine tk 1 { dst := some 29, op := Go.Op.load 128 (Go.Operand.tmp 28), type := 128, pos := "ustar.go:83", after := #[{ on := 0, ground := Go.Ground.data }], guard := none } ?_ ?_ ?_
      rotate_left 1
      focus ((intro wS hSw; (try dsimp only at hSw); go_simp) <;> (try with_reducible rfl))
      simp only [Act.put, List.setIfInBounds_toArray, List.set_cons_zero, List.set_cons_succ]
      refine tk 2 { dst := some 30, op := Go.Op.move (Go.Operand.tmp 0), type := 24, pos := "ustar.go:83", after := #[], guard := none } ?_ ?_ ?_
      rotate_left 1
      focus ((intro wS hSw; (try dsimp only at hSw); go_simp) <;> (try with_reducible rfl))
      simp only [Act.put, List.setIfInBounds_toArray, List.set_cons_zero, List.set_cons_succ]
      refine tk 3 { dst := some 31, op := Go.Op.fieldAddr 130 (Go.Operand.tmp 7) 0, type := 0, pos := "ustar.go:83", after := #[], guard := none } ?_ ?_ ?_
      rotate_left 1
      focus ((intro wS hSw; (try dsimp only at hSw); go_simp) <;> (try with_reducible rfl))
      simp only [Act.put, List.setIfInBounds_toArray, List.set_cons_zero, List.set_cons_succ]
      refine tk 4 { dst := some 32, op := Go.Op.load 3 (Go.Operand.tmp 31), type := 3, pos := "ustar.go:83", after := #[{ on := 3, ground := Go.Ground.data }], guard := none } ?_ ?_ ?_
      rotate_left 1
      focus ((intro wS hSw; (try dsimp only at hSw); go_simp) <;> (try with_reducible rfl))
      simp only [Act.put, List.setIfInBounds_toArray, List.set_cons_zero, List.set_cons_succ]
      refine tk 5 { dst := some 33, op := Go.Op.fieldAddr 130 (Go.Operand.tmp 7) 0, type := 0, pos := "ustar.go:83", after := #[], guard := none } ?_ ?_ ?_
      rotate_left 1
      focus ((intro wS hSw; (try dsimp only at hSw); go_simp) <;> (try with_reducible rfl))
      simp only [Act.put, List.setIfInBounds_toArray, List.set_cons_zero, List.set_cons_succ]
      refine tk 6 { dst := some 34, op := Go.Op.load 3 (Go.Operand.tmp 33), type := 3, pos := "ustar.go:83", after := #[{ on := 5, ground := Go.Ground.data }], guard := none } ?_ ?_ ?_
      rotate_left 1
      focus ((intro wS hSw; (try dsimp only at hSw); go_simp) <;> (try with_reducible rfl))
      simp only [Act.put, List.setIfInBounds_toArray, List.set_cons_zero, List.set_cons_succ]
      refine tk 7 { dst := some 35, op := Go.Op.fieldAddr 130 (Go.Operand.tmp 7) 1, type := 0, pos := "ustar.go:83", after := #[], guard := none } ?_ ?_ ?_
      rotate_left 1
      focus ((intro wS hSw; (try dsimp only at hSw); go_simp) <;> (try with_reducible rfl))
      simp only [Act.put, List.setIfInBounds_toArray, List.set_cons_zero, List.set_cons_succ]
      refine tk 8 { dst := some 36, op := Go.Op.load 3 (Go.Operand.tmp 35), type := 3, pos := "ustar.go:83", after := #[{ on := 7, ground := Go.Ground.data }], guard := none } ?_ ?_ ?_
      rotate_left 1
      focus ((intro wS hSw; (try dsimp only at hSw); go_simp) <;> (try with_reducible rfl))
      simp only [Act.put, List.setIfInBounds_toArray, List.set_cons_zero, List.set_cons_succ]
      refine tk 9 { dst := some 37, op := Go.Op.binOp Go.BinOp.add 3 (Go.Operand.tmp 34) (Go.Operand.tmp 36) 3, type := 3, pos := "ustar.go:83", after := #[{ on := 6, ground := Go.Ground.data }, { on := 8, ground := Go.Ground.data }], guard := none } ?_ ?_ ?_
      rotate_left 1
      focus ((intro wS hSw; (try dsimp only at hSw); go_simp) <;> (try with_reducible rfl))
      simp only [Act.put, List.setIfInBounds_toArray, List.set_cons_zero, List.set_cons_succ]
      refine tk 10 { dst := some 38, op := Go.Op.slice 24 (Go.Operand.tmp 30) (some (Go.Operand.tmp 32)) (some (Go.Operand.tmp 37)) none, type := 24, pos := "ustar.go:83", after := #[{ on := 2, ground := Go.Ground.data }, { on := 4, ground := Go.Ground.data }, { on := 9, ground := Go.Ground.data }], guard := none } ?_ ?_ ?_
      rotate_left 1
      focus ((intro wS hSw; (try dsimp only at hSw); go_simp) <;> (try with_reducible rfl))
      simp only [Act.put, List.setIfInBounds_toArray, List.set_cons_zero, List.set_cons_succ]
      refine wpAnyH_ready (rs := [11]) (by kernel_rfl) (by simp) ?_
      refine AllReadyH.cons (o := { dst := some 39, op := Go.Op.call { callee := Go.Callee.value (Go.Operand.tmp 29), args := #[Go.Operand.tmp 5, Go.Operand.tmp 38], argTypes := #[145, 24] }, type := 0, pos := "ustar.go:83", after := #[{ on := 1, ground := Go.Ground.data }, { on := 10, ground := Go.Ground.data }], guard := none }) rfl (fun K hK => ?_) AllReadyH.nil
      go_simp
      rw [PE.out, Oper.upon_enter]
      refine PRj.out.mono ?_; rintro e w7 ⟨rfl, o7, u7⟩
      have O7 := Lib.hid o7; have U7 := Lib.hid u7; clear o7 u7
      go_wp2_with fail
      refine hK.out _ _ (KT.out _ U7.out) (fun hHeld => ?_)
      clear hK K
      (try simp only [Act.put, List.setIfInBounds_toArray, List.set_cons_zero, List.set_cons_succ])
      refine wpAnyH_done (by kernel_rfl) ?_ _
      -- BEHIND
      have WH : Hid (w.heap.size ≤ hb) := by have h := LR.out; have h' := hrr.out; show _ ≤ _; omega
      have TN := Lib.hid ((T6'.out.below (Below.refl w6.heap.size w6).drew T6'.out.lt).out U7.out (.inr LO.out))
      have RN := Lib.hid ((R6.out.below (Below.refl w6.heap.size w6).drew R6.out.lt).out U7.out (.inl LR.out))
      have BN := Lib.hid (NG.out.trans ((Below.refl w.heap.size w6).drew.trans (U7.out.below WH.out NG.out.size)))
      clear o1 o2 o3 o4 o5 o6
      go_wp2
      go_roundw
      case rel => exact ⟨j + 1, by omega, by go_num, O7.out, TN.out, RN.out, BN.out⟩
      case measure => simp [intOf]; omega
    · obtain rfl : j = 13 := by omega
      have HZS : Hid (Bytes zs) := HR.out.2
      have N1 := Lib.hid (dNm_max HZS.out); have N2 := Lib.hid (dPf_max HZS.out); have N3 := Lib.hid (dLk_max HZS.out)
      have KB : Hid (0 ≤ dT zs ∧ dT zs ≤ 255) := HZS.out.getD 156
      have hE : Hid (dOk zs ↔ ckH (dT zs) (dNm zs) (dPf zs) (dLk zs) (dMd zs) (dSz zs) = 0 ∧ encH (dT zs) (dNm zs) (dPf zs) (dLk zs) (dMd zs) (dSz zs) = zs) := dOk_iff
      have OO : Hid (ObjAt wr hb 56 (hdV (dT zs) (dNm zs) (dPf zs) (dLk zs) (dMd zs) (dSz zs))) := O.out
      have WR : Hid (w.heap.size ≤ r) := by have h' := hrr.out; show _ ≤ _; omega
      obtain ⟨dt, hdt⟩ := named (dT zs); obtain ⟨nm, hnm⟩ := named (dNm zs); obtain ⟨pf, hpf⟩ := named (dPf zs); obtain ⟨lk, hlk⟩ := named (dLk zs); obtain ⟨md, hmd⟩ := named (dMd zs); obtain ⟨sz, hsz⟩ := named (dSz zs)
      rw [← hdt.out, ← hnm.out, ← hpf.out, ← hlk.out, ← hmd.out, ← hsz.out] at OO hE GOOD
      rw [← hdt.out] at KB; rw [← hnm.out] at N1; rw [← hpf.out] at N2; rw [← hlk.out] at N3
      clear hdt hnm hpf hlk hmd hsz
      have c0 := OO.out.get 0 rfl; have c1 := OO.out.get 1 rfl; have c2 := OO.out.get 2 rfl; have c3 := OO.out.get 3 rfl; have c4 := OO.out.get 4 rfl; have c5 := OO.out.get 5 rfl
      by_cases hck : ckH dt nm pf lk md sz = 0
      · have HEN := Lib.hid (enc_ok dt nm pf lk md sz wr N1.out N2.out N3.out hck)
        have ELN := Lib.hid (enc_length hck)
        by_cases he : encH dt nm pf lk md sz = zs
        · obtain ⟨g1, g2⟩ := GOOD.out (hE.out.2 ⟨hck, he⟩)
          subst g1; subst g2
          rw [he] at HEN
          clear BAD GOOD hE hck he ELN
          go_wp2_with fail
          refine HEN.out.mono ?_; rintro e w8 ⟨b8, c8, rfl, r8, l8, m8, _, _, d8⟩
          have R8 := Lib.hid r8; have M8 := Lib.hid m8; have D8 := Lib.hid d8; clear r8 l8 m8 d8 c0 c1 c2 c3 c4 c5
          have X8 : Hid (BytesIn w8 (some ⟨b, off, none⟩) zs) := .inr ⟨b, off, rfl, Nat.lt_of_lt_of_le HL.out (belT B.out D8.out).size, HR.out.below (belT B.out D8.out) HL.out⟩
          go_wp2_with fail
          refine (eq_any (some ⟨b, off, none⟩) 512 cap zs (some ⟨b8, 0, none⟩) 512 c8 zs _ X8.out HLN.out (.of_row R8.out M8.out) HLN.out).mono ?_; rintro e w9 ⟨rfl, rfl⟩
          rw [decide_eq_true rfl]
          have OO8 := Lib.hid (OO.out.below D8.out OO.out.lt)
          have RR8 := Lib.hid (R.out.below D8.out R.out.lt)
          have k0 := OO8.out.get 0 rfl; have k1 := OO8.out.get 1 rfl; have k2 := OO8.out.get 2 rfl; have k3 := OO8.out.get 3 rfl; have k4 := OO8.out.get 4 rfl; have k5 := OO8.out.get 5 rfl
          go_wp2_with (first | (refine wpList_store_obj rfl 56 _ _ rfl r rfl (hdV dt nm pf lk md sz) hd0 rfl 56 RR8.out HO.out.2 rfl (hd_one _ _ _ _ _ _) ?_; intro w10 q10 t10; have H10 := Lib.hid q10; have T10 := Lib.hid t10; clear q10 t10))
          exact bodyPost_ret (results_obj_tmp Tryz.results36 HO.out _ r rfl _ (hdV dt nm pf lk md sz) H10.out rfl) rfl ⟨rfl, (belT B.out D8.out).trans (T10.out.below WR.out)⟩
        · obtain ⟨g1, g2⟩ := BAD.out (fun h => he (hE.out.1 h).2)
          subst g1; subst g2
          obtain ⟨ys, hys⟩ := named (encH dt nm pf lk md sz)
          rw [← hys.out] at HEN ELN he
          have hne : decide (zs = ys) = false := decide_eq_false (fun e => he e.symm)
          clear BAD GOOD hE hck he hys
          go_wp2_with fail
          refine HEN.out.mono ?_; rintro e w8 ⟨b8, c8, rfl, r8, l8, m8, _, _, d8⟩
          have R8 := Lib.hid r8; have M8 := Lib.hid m8; have D8 := Lib.hid d8; clear r8 l8 m8 d8 c0 c1 c2 c3 c4 c5
          have X8 : Hid (BytesIn w8 (some ⟨b, off, none⟩) zs) := .inr ⟨b, off, rfl, Nat.lt_of_lt_of_le HL.out (belT B.out D8.out).size, HR.out.below (belT B.out D8.out) HL.out⟩
          go_wp2_with fail
          refine (eq_any (some ⟨b, off, none⟩) 512 cap zs (some ⟨b8, 0, none⟩) 512 c8 ys _ X8.out HLN.out (.of_row R8.out M8.out) ELN.out).mono ?_; rintro e w9 ⟨rfl, rfl⟩
          rw [hne]
          have RR8 := Lib.hid (R.out.below D8.out R.out.lt)
          go_wp2_with (first | (refine wpList_store_obj rfl 56 _ _ rfl r rfl hd0 hd0 rfl 56 RR8.out HO.out.2 rfl (hd_one _ _ _ _ _ _) ?_; intro w10 q10 t10; have H10 := Lib.hid q10; have T10 := Lib.hid t10; clear q10 t10))
          exact bodyPost_ret (results_obj_tmp Tryz.results36 HO.out _ r rfl _ hd0 H10.out rfl) rfl ⟨rfl, (belT B.out D8.out).trans (T10.out.below WR.out)⟩
      · obtain ⟨g1, g2⟩ := BAD.out (fun h => hck (hE.out.1 h).1)
        subst g1; subst g2
        have HEN := Lib.hid (enc_bad dt nm pf lk md sz wr N1.out N2.out N3.out KB.out hck)
        obtain ⟨ck, hc⟩ := named (ckH dt nm pf lk md sz)
        rw [← hc.out] at HEN hck
        have hne : (ck != 0) = true := by simpa using hck
        clear BAD GOOD hE hck hc
        go_wp2_with fail
        refine HEN.out.mono ?_; rintro e w8 ⟨rfl, d8⟩
        have D8 := Lib.hid d8; clear d8 c0 c1 c2 c3 c4 c5
        have RR8 := Lib.hid (R.out.below D8.out R.out.lt)
        go_wp2_with (first | (refine wpList_store_obj rfl 56 _ _ rfl r rfl hd0 hd0 rfl 56 RR8.out HO.out.2 rfl (hd_one _ _ _ _ _ _) ?_; intro w10 q10 t10; have H10 := Lib.hid q10; have T10 := Lib.hid t10; clear q10 t10))
        exact bodyPost_ret (results_obj_tmp Tryz.results36 HO.out _ r rfl _ hd0 H10.out rfl) rfl ⟨rfl, (belT B.out D8.out).trans (T10.out.below WR.out)⟩
end Go.Proofs.YtbbaleambgaanaaGreatDoor.Ust
