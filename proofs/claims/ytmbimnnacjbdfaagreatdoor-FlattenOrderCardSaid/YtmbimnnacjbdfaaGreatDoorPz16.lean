/-
  Layer 9: the program's Format.
-/
import Derived.Test.YtmbimnnacjbdfaaGreatDoorPz08
import Derived.Test.YtmbimnnacjbdfaaGreatDoorPz15
import Derived.Test.YtmbimnnacjbdfaaGreatDoorPz12
import Derived.Test.YtmbimnnacjbdfaaGreatDoorPz09
import Derived.BigQuiet
import Derived.Test.YtmbimnnacjbdfaaGreatDoorPz06
namespace Go.Proofs.YtmbimnnacjbdfaaGreatDoor.Pxr
open Go.RowKit

/-- the call returned these bytes and this error; nothing that was there in w has turned -/
def RetFm (zs : List Int) (E : Int) (w : World) (e : Ending) (w' : World) : Prop :=
  ∃ b m c, e = .returned (.tuple #[.slice b m c, .int .i64 E]) ∧ zs.length = m ∧ m ≤ c ∧ c ≤ maxLen ∧ BytesIn w' b zs ∧ Below w.heap.size w w'
theorem RetFm.nil {E : Int} {w w' : World} (h : Below w.heap.size w w') : RetFm [] E w (.returned (.tuple #[.slice none 0 0, .int .i64 E])) w' :=
  ⟨none, 0, 0, rfl, rfl, Nat.le_refl _, Nat.zero_le _, .inl rfl, h⟩
theorem RetFm.own {zs : List Int} {w w' : World} {base : Nat} {e : TypeId} {v : Value} (h : w'.ownsRow base e 1 v zs.length (zs.map (.int .u8))) (hz : ∀ z ∈ zs, 0 ≤ z ∧ z ≤ 255) (hb : Below w.heap.size w w') :
    RetFm zs 0 w (.returned (.tuple #[v, .int .i64 0])) w' := by
  rcases h.2 with ⟨hv, h0⟩ | ⟨g, cap, cur, hv, _, hh, hc, hm, _⟩
  · rw [hv]
    obtain rfl : zs = [] := List.length_eq_zero_iff.1 h0
    exact .nil hb
  · subst hv
    exact ⟨_, _, cap, rfl, rfl, hc, hm, .of_own h hz, hb⟩

theorem enR_bd (r : Rec) : ∀ z ∈ enR r, 0 ≤ z ∧ z ≤ 255 := by
  intro z hz
  unfold enR at hz
  simp only [List.mem_append, List.mem_singleton] at hz
  have hd : ∀ z ∈ decD (szR r), 0 ≤ z ∧ z ≤ 255 := fun z hz => by
    have := decD_digs (szR r)
    rw [List.all_eq_true] at this
    have := (digB_iff z).1 (this z hz)
    omega
  rcases hz with ((((h | h) | h) | h) | h) | h
  · exact hd z h
  · omega
  · exact numsOf_bd _ z h
  · omega
  · exact numsOf_bd _ z h
  · omega
theorem fmB_bd (rs : List Rec) : ∀ z ∈ fmB rs, 0 ≤ z ∧ z ≤ 255 := by
  intro z hz
  unfold fmB at hz
  obtain ⟨l, hl, hz⟩ := List.mem_flatten.1 hz
  obtain ⟨r, _, rfl⟩ := List.mem_map.1 hl
  exact enR_bd r z hz
theorem enS_str (r : Rec) : strOfNums (decD (szR r)) ++ { data := #[32] } ++ r.1 ++ { data := #[61] } ++ r.2 ++ { data := #[10] } = strOfNums (enR r) := by
  apply nums_inj
  rw [nums_cat, nums_cat, nums_cat, nums_cat, nums_cat, numsOf_strOfNums (enR_bd r)]
  rw [numsOf_strOfNums (fun z hz => enR_bd r z (by unfold enR; simp [hz]))]
  rfl

set_option maxHeartbeats 1000000 in
theorem format_nil (a : Option Addr) (cap : Nat) (w : World) : Calls Tryz.prog 46 #[.slice a 0 cap] w (RetFm [] 0 w) := by
  go_enter Tryz.func46, Tryz.ntmps46
  go_wp2
  go_loop [12] (fun i => i = .int .i64 (0 : Int)) (fun i => 0 - (intOf i).toNat)
  case atStart => rfl
  case round =>
    subst hrel
    go_wp2
    go_loop [7, 28] (fun v i => v = .slice none 0 0 ∧ i = .int .i64 (0 : Int)) (fun _ i => 0 - (intOf i).toNat)
    case atStart => exact ⟨rfl, rfl⟩
    case round =>
      obtain ⟨rfl, rfl⟩ := hrel
      go_wp2
      go_ret2
      exact .nil (Below.refl _ _)

theorem fmE_step {rs : List Rec} {j : Nat} {r : Rec} (h : rs[j]? = some r) : fmE (rs.take j) (rs.drop j) = if chkN (rs.take j) r ≠ 0 then chkN (rs.take j) r else fmE (rs.take (j + 1)) (rs.drop (j + 1)) := by
  have hl : j < rs.length := (List.getElem?_eq_some_iff.1 h).1
  have hr : rs[j] = r := (List.getElem?_eq_some_iff.1 h).2
  rw [List.drop_eq_getElem_cons hl, fmE_cons, hr, ← hr, ← List.take_succ_eq_append_getElem hl]

set_option maxHeartbeats 4000000 in
set_option maxRecDepth 100000 in
/-- the first loop finds a fault -/
theorem format_bad (b off n cap : Nat) (rs : List Rec) (w : World) (V : Vars w) (hv : ∀ r ∈ rs, r.2.size ≤ maxLen) (hn : rs.length = n) (hc : n ≤ cap) (hm : cap ≤ maxLen) (hlt : b < w.heap.size) (hR : RecsAt w b off rs) (hE : fmE [] rs ≠ 0) :
    Calls Tryz.prog 46 #[.slice (some ⟨b, off, none⟩) n cap] w (RetFm [] (fmE [] rs) w) := by
  obtain ⟨E, hEE⟩ := named (fmE [] rs)
  rw [← hEE.out] at hE ⊢
  have HR := Lib.hid hR; have HN := Lib.hid hn; have HVV := Lib.hid V; have HSZ := Lib.hid hv; have HLT := Lib.hid hlt; have HM := Lib.hid hm; have HC := Lib.hid hc
  have HZ := Lib.hid recZ; have HO := Lib.hid recO
  have HE := Lib.hid hE
  unfold maxLen at hm
  clear hR hn V hv hlt hE
  go_enter Tryz.func46, Tryz.ntmps46
  go_wp2
  go_loopw [12] (fun i wr => ∃ j : Nat, i = .int .i64 j ∧ j ≤ n ∧ fmE (rs.take j) (rs.drop j) = E ∧ Below w.heap.size w wr) (fun i _ => n - (intOf i).toNat)
  case atStart => exact ⟨0, rfl, Nat.zero_le _, by rw [hEE.out]; rfl, Below.refl _ _⟩
  case round =>
    obtain ⟨j, rfl, hj, he, hb⟩ := hrel
    have HEJ := Lib.hid he; have HL := Lib.hid hb
    clear he hb
    by_cases hjn : j < n
    · obtain ⟨r, hr⟩ := get_some (show j < rs.length by rw [HN.out]; exact hjn)
      have hmem : r ∈ rs := List.mem_of_getElem? hr
      obtain ⟨K, D⟩ := r
      obtain ⟨c0', c1'⟩ := (HR.out.below HL.out HLT.out) j _ hr
      have c0 : wr.cell? ⟨b, off + j * 2, none⟩ = some (.string K) := c0'
      have c1 : wr.cell? ⟨b, off + j * 2 + 1, none⟩ = some (.string D) := c1'
      have j1 : (j : Int) < n := by omega
      have j2 : (j : Int) ≤ cap := by omega
      have hst := fmE_step hr
      obtain ⟨C, hC⟩ := named (chkN (rs.take j) (K, D))
      rw [← hC.out, HEJ.out] at hst
      have HST := Lib.hid hst
      have LB := Lib.hid (Nat.lt_of_lt_of_le HLT.out HL.out.size)
      have RT := Lib.hid (HR.out.below HL.out HLT.out)
      have HCN := Lib.hid fun (w' : World) (hb : Below wr.heap.size wr w') =>
        (show Calls Tryz.prog 89 #[.slice (some ⟨b, off, none⟩) j cap, .agg #[.string K, .string D]] w' fun e w'' => e = .returned (.int .i64 C) ∧ Below w'.heap.size w' w'' by
          rw [hC.out]
          refine next_any _ j cap (rs.take j) K D w' (HVV.out.go (belT HL.out hb)) (HSZ.out _ hmem) (by rw [List.length_take, HN.out]; omega) (by omega) HM.out ?_
          exact RecsIn.take (.inr ⟨b, off, rfl, Nat.lt_of_lt_of_le LB.out hb.size, RT.out.below hb LB.out⟩) j)
      clear hst c0' c1' hr hmem hjn
      go_wp2_with (first | (refine wpList_alloc_obj rfl 84 rfl rz HZ.out ?_; intro w2 g2 b2; have R2 := Lib.hid g2; have B2 := Lib.hid (belT HL.out b2); have A2 := Lib.hid b2; clear g2 b2) | (refine wpList_store_obj rfl 84 _ _ rfl wr.heap.size rfl [.string K, .string D] rz rfl 84 R2.out HO.out.2 rfl (rec_one _ _) ?_; intro w3 g3 t3; have R3 := Lib.hid g3; have A3 := Lib.hid (A2.out.trans (t3.below (Nat.le_refl wr.heap.size))); have B3 := Lib.hid (belT HL.out A3.out); clear g3 t3))
      have KC : Hid (∀ w', Below w3.heap.size w3 w' → w'.cell? ⟨wr.heap.size, 0, none⟩ = some (.string K) ∧ w'.cell? ⟨wr.heap.size, 1, none⟩ = some (.string D)) := fun w' hw => by
        have h := R3.out.below hw R3.out.lt
        exact ⟨h.get 0 rfl, h.get 1 rfl⟩
      have d0 : ∀ q : Of (fun w' => Below w3.heap.size w3 w'), q.w.cell? ⟨wr.heap.size, 0, none⟩ = some (.string K) := fun q => (KC.out _ q.h).1
      have d1 : ∀ q : Of (fun w' => Below w3.heap.size w3 w'), q.w.cell? ⟨wr.heap.size, 1, none⟩ = some (.string D) := fun q => (KC.out _ q.h).2
      have j3 : (0 : Int) ≤ j := by omega
      clear c0 c1
      go_simp
      refine wp_region_class (S := fun w' => Below w3.heap.size w3 w') (by kernel_rfl) (by kernel_rfl) (Below.refl _ _).drew ?_
      intro hne
      repeat (go_big_quiet_step ((go_at_call 89; exact Calls.in_class (v := .int .i64 C) (HCN.out _ (A3.out.trans (Below.mono (Of.h _) A3.out.size))) fun w' hb q => q.trans (hb.mono q.size))))
      refine wpQuiet_nil ?_
      rintro wq ⟨q, rfl⟩
      have BQ := Lib.hid (B3.out.trans (Below.mono q.h B3.out.size))
      by_cases hC0 : C = 0
      · have H2 : Hid (fmE (rs.take (j + 1)) (rs.drop (j + 1)) = E) := by
          show _ = _
          rw [HST.out, if_neg (by simpa using hC0)]
        subst hC0
        go_wp2
        go_roundw
        case rel => exact ⟨j + 1, by go_num, by omega, H2.out, BQ.out⟩
        case measure => simp [intOf]; omega
      · have H2 : Hid (E = C) := by show _ = _; rw [HST.out, if_pos hC0]
        have q4 : (C != 0) = true := by simpa using hC0
        clear hC0
        go_wp2
        go_ret2
        rw [H2.out]
        exact .nil BQ.out
    · exfalso
      have h := HEJ.out
      rw [List.drop_eq_nil_of_le (by rw [HN.out]; omega)] at h
      exact HE.out h.symm
set_option maxHeartbeats 8000000 in
set_option maxRecDepth 100000 in
/-- no fault: the encoding -/
theorem format_good (b off n cap : Nat) (rs : List Rec) (w : World) (V : Vars w) (hv : ∀ r ∈ rs, r.2.size ≤ maxLen) (hn : rs.length = n) (hc : n ≤ cap) (hm : cap ≤ maxLen) (hlt : b < w.heap.size) (hR : RecsAt w b off rs) (hE : fmE [] rs = 0) :
    Calls Tryz.prog 46 #[.slice (some ⟨b, off, none⟩) n cap] w (RetFm (fmB rs) 0 w) := by
  obtain ⟨E, hEE⟩ : ∃ E : Int, Hid (E = 0) := ⟨0, Eq.refl (0 : Int)⟩
  have HFM := Lib.hid hE
  have HGD := Lib.hid (fmE_good rs [] hE)
  have HLE := Lib.hid (fmB_le hE)
  obtain ⟨i0, hI⟩ := info_u8 (P := Tryz.prog) (e := 5) (by kernel_rfl)
  have HR := Lib.hid hR; have HN := Lib.hid hn; have HVV := Lib.hid V; have HSZ := Lib.hid hv; have HLT := Lib.hid hlt; have HM := Lib.hid hm; have HC := Lib.hid hc
  have HZ := Lib.hid recZ; have HO := Lib.hid recO
  unfold maxLen at hm
  clear hR hn V hv hlt
  rw [← hEE.out] at hE
  have HE := Lib.hid hE
  clear hE
  go_enter Tryz.func46, Tryz.ntmps46
  go_wp2
  go_loopw [12] (fun i wr => ∃ j : Nat, i = .int .i64 j ∧ j ≤ n ∧ fmE (rs.take j) (rs.drop j) = E ∧ Below w.heap.size w wr) (fun i _ => n - (intOf i).toNat)
  case atStart => exact ⟨0, rfl, Nat.zero_le _, by rw [← HE.out]; rfl, Below.refl _ _⟩
  case round =>
    obtain ⟨j, rfl, hj, he, hb⟩ := hrel
    have HEJ := Lib.hid he; have HL := Lib.hid hb
    clear he hb
    by_cases hjn : j < n
    · obtain ⟨r, hr⟩ := get_some (show j < rs.length by rw [HN.out]; exact hjn)
      have hmem : r ∈ rs := List.mem_of_getElem? hr
      obtain ⟨K, D⟩ := r
      obtain ⟨c0', c1'⟩ := (HR.out.below HL.out HLT.out) j _ hr
      have c0 : wr.cell? ⟨b, off + j * 2, none⟩ = some (.string K) := c0'
      have c1 : wr.cell? ⟨b, off + j * 2 + 1, none⟩ = some (.string D) := c1'
      have j1 : (j : Int) < n := by omega
      have j2 : (j : Int) ≤ cap := by omega
      have hst := fmE_step hr
      obtain ⟨C, hC⟩ := named (chkN (rs.take j) (K, D))
      rw [← hC.out, HEJ.out] at hst
      have HST := Lib.hid hst
      have LB := Lib.hid (Nat.lt_of_lt_of_le HLT.out HL.out.size)
      have RT := Lib.hid (HR.out.below HL.out HLT.out)
      have HCN := Lib.hid fun (w' : World) (hb : Below wr.heap.size wr w') =>
        (show Calls Tryz.prog 89 #[.slice (some ⟨b, off, none⟩) j cap, .agg #[.string K, .string D]] w' fun e w'' => e = .returned (.int .i64 C) ∧ Below w'.heap.size w' w'' by
          rw [hC.out]
          refine next_any _ j cap (rs.take j) K D w' (HVV.out.go (belT HL.out hb)) (HSZ.out _ hmem) (by rw [List.length_take, HN.out]; omega) (by omega) HM.out ?_
          exact RecsIn.take (.inr ⟨b, off, rfl, Nat.lt_of_lt_of_le LB.out hb.size, RT.out.below hb LB.out⟩) j)
      clear hst c0' c1' hr hmem hjn
      go_wp2_with (first | (refine wpList_alloc_obj rfl 84 rfl rz HZ.out ?_; intro w2 g2 b2; have R2 := Lib.hid g2; have B2 := Lib.hid (belT HL.out b2); have A2 := Lib.hid b2; clear g2 b2) | (refine wpList_store_obj rfl 84 _ _ rfl wr.heap.size rfl [.string K, .string D] rz rfl 84 R2.out HO.out.2 rfl (rec_one _ _) ?_; intro w3 g3 t3; have R3 := Lib.hid g3; have A3 := Lib.hid (A2.out.trans (t3.below (Nat.le_refl wr.heap.size))); have B3 := Lib.hid (belT HL.out A3.out); clear g3 t3))
      have KC : Hid (∀ w', Below w3.heap.size w3 w' → w'.cell? ⟨wr.heap.size, 0, none⟩ = some (.string K) ∧ w'.cell? ⟨wr.heap.size, 1, none⟩ = some (.string D)) := fun w' hw => by
        have h := R3.out.below hw R3.out.lt
        exact ⟨h.get 0 rfl, h.get 1 rfl⟩
      have d0 : ∀ q : Of (fun w' => Below w3.heap.size w3 w'), q.w.cell? ⟨wr.heap.size, 0, none⟩ = some (.string K) := fun q => (KC.out _ q.h).1
      have d1 : ∀ q : Of (fun w' => Below w3.heap.size w3 w'), q.w.cell? ⟨wr.heap.size, 1, none⟩ = some (.string D) := fun q => (KC.out _ q.h).2
      have j3 : (0 : Int) ≤ j := by omega
      clear c0 c1
      go_simp
      refine wp_region_class (S := fun w' => Below w3.heap.size w3 w') (by kernel_rfl) (by kernel_rfl) (Below.refl _ _).drew ?_
      intro hne
      repeat (go_big_quiet_step ((go_at_call 89; exact Calls.in_class (v := .int .i64 C) (HCN.out _ (A3.out.trans (Below.mono (Of.h _) A3.out.size))) fun w' hb q => q.trans (hb.mono q.size))))
      refine wpQuiet_nil ?_
      rintro wq ⟨q, rfl⟩
      have BQ := Lib.hid (B3.out.trans (Below.mono q.h B3.out.size))
      have hC0 : C = 0 := by
        have h := HST.out
        by_cases hC0 : C = 0
        · exact hC0
        · rw [if_pos hC0, hEE.out] at h; exact h.symm
      have H2 : Hid (fmE (rs.take (j + 1)) (rs.drop (j + 1)) = E) := by
        show _ = _
        rw [HST.out, if_neg (by simpa using hC0)]
      subst hC0
      go_wp2
      go_roundw
      case rel => exact ⟨j + 1, by go_num, by omega, H2.out, BQ.out⟩
      case measure => simp [intOf]; omega
    · have hj' : j = n := by omega
      clear hjn
      have j9 : ¬ (j : Int) < n := by omega
      have HL0 := HL
      clear HEJ
      clear HL
      go_wp2
      clear j9 hj hj'
      go_loopw [7, 28] (fun v i wr => ∃ j : Nat, i = .int .i64 j ∧ j ≤ n ∧ wr.ownsRow w.heap.size 5 1 v (fmB (rs.take j)).length ((fmB (rs.take j)).map (.int .u8)) ∧ Below w.heap.size w wr) (fun _ i _ => n - (intOf i).toNat)
      case atStart => exact ⟨0, rfl, Nat.zero_le _, ⟨rfl, .inl ⟨rfl, rfl⟩⟩, HL0.out⟩
      case round =>
        obtain ⟨j, rfl, hj, ho, hb⟩ := hrel
        have HW := Lib.hid ho; have HL := Lib.hid hb
        clear ho hb
        by_cases hjn : j < n
        · obtain ⟨r, hr⟩ := get_some (show j < rs.length by rw [HN.out]; exact hjn)
          have hmem : r ∈ rs := List.mem_of_getElem? hr
          obtain ⟨K, D⟩ := r
          have G := (HGD.out _ hmem).1
          obtain ⟨c0', c1'⟩ := (HR.out.below HL.out HLT.out) j _ hr
          have c0 : wr.cell? ⟨b, off + j * 2, none⟩ = some (.string K) := c0'
          have c1 : wr.cell? ⟨b, off + j * 2 + 1, none⟩ = some (.string D) := c1'
          have j1 : (j : Int) < n := by omega
          have gk : K.size ≤ 8 := G.key
          have gd : D.size ≤ 65536 := G.val
          have k1 : (K.size : Int) ≤ 8 := by omega
          have k2 : (D.size : Int) ≤ 65536 := by omega
          have go : oth (K, D) ≤ 1000000 := by have := G.oth; omega
          have gs := G.sz
          have htake : rs.take (j + 1) = rs.take j ++ [(K, D)] := by
            have hl : j < rs.length := (List.getElem?_eq_some_iff.1 hr).1
            rw [List.take_succ_eq_append_getElem hl, (List.getElem?_eq_some_iff.1 hr).2]
          have FT : Hid (fmB (rs.take (j + 1)) = fmB (rs.take j) ++ enR (K, D)) := by show _ = _; rw [htake, fmB_snoc]
          have hle := HLE.out (j + 1)
          rw [FT.out, List.length_append, enR_len go] at hle
          obtain ⟨T, hT⟩ := named (strOfNums (decD (szR (K, D))))
          have hts : T.size ≤ 100 := by
            rw [hT.out, strD_size]
            have := nDigits_le 6 (szR (K, D)) (by have : (10 : Nat) ^ (6 + 1) = 10000000 := by decide
                                                  omega)
            omega
          have s1 : ¬ 9223372036854775807 < T.size + 1 := by omega
          have s2 : ¬ 9223372036854775807 < T.size + 1 + K.size := by omega
          have s3 : ¬ 9223372036854775807 < T.size + 1 + K.size + 1 := by omega
          have s4 : ¬ 9223372036854775807 < T.size + 1 + K.size + 1 + D.size := by omega
          have s5 : ¬ 9223372036854775807 < T.size + 1 + K.size + 1 + D.size + 1 := by omega
          have HZL := Lib.hid (show szR (K, D) ≤ 9223372036854775807 by omega)
          have ES : Hid (T ++ { data := #[32] } ++ K ++ { data := #[61] } ++ D ++ { data := #[10] } = strOfNums (enR (K, D))) := by show _ = _; rw [hT.out]; exact enS_str (K, D)
          have EL : Hid ((strOfNums (enR (K, D))).size = szR (K, D)) := by show _ = _; rw [← numsOf_length, numsOf_strOfNums (enR_bd _), enR_len go]
          obtain ⟨X, hX⟩ := named (fmB (rs.take j))
          obtain ⟨M, hM⟩ := named (fmB (rs.take j)).length
          have MX : Hid (M + szR (K, D) ≤ 140737488355328) := by show _ ≤ _; rw [hM.out]; omega
          rw [← hM.out, ← hX.out] at HW
          rw [← hX.out] at FT hM
          have LB := Lib.hid (Nat.lt_of_lt_of_le HLT.out HL.out.size)
          have SA0 := Lib.hid fun (w' : World) (hb : Below wr.heap.size wr w') => size_any K D w' (HVV.out.go (belT HL.out hb)) go
          have IT0 := Lib.hid fun (w' : World) (hb : Below wr.heap.size wr w') => itoa_any (szR (K, D)) HZL.out w' (HVV.out.go (belT HL.out hb))
          rw [← hT.out] at IT0
          have HNE : Hid (some wr.heap.size ≠ u7.ownBlock) := fun e => by
            have := (own_blockN HW.out _ e.symm).2
            omega
          have GO := Lib.hid go
          clear c0' c1' hr hmem hjn G gk gd go gs htake hle hts
          go_wp2_with (first | (refine wpList_alloc_obj rfl 84 rfl rz HZ.out ?_; intro w2 g2 b2; have R2 := Lib.hid g2; have B2 := Lib.hid (belT HL.out b2); have A2 := Lib.hid b2; clear g2 b2) | (refine wpList_store_obj rfl 84 _ _ rfl wr.heap.size rfl [.string K, .string D] rz rfl 84 R2.out HO.out.2 rfl (rec_one _ _) ?_; intro w3 g3 t3; have R3 := Lib.hid g3; have A3 := Lib.hid (A2.out.trans (t3.below (Nat.le_refl wr.heap.size))); have B3 := Lib.hid (belT HL.out A3.out); clear g3 t3))
          obtain ⟨g, hg⟩ := named wr.heap.size
          have W3 := Lib.hid (own_stay HW.out A3.out (Nat.le_refl _))
          have KC : Hid (∀ w', Below w3.heap.size w3 w' → w'.cell? ⟨g, 0, none⟩ = some (.string K) ∧ w'.cell? ⟨g, 1, none⟩ = some (.string D)) := fun w' hw => by
            have h := R3.out.below hw R3.out.lt
            rw [hg.out]
            exact ⟨h.get 0 rfl, h.get 1 rfl⟩
          have KT : Hid (∀ w' w'' : World, Below w3.heap.size w3 w' → (∀ k, k < w'.heap.size → some k ≠ u7.ownBlock → w''.heap[k]? = w'.heap[k]?) → w''.cell? ⟨g, 0, none⟩ = some (.string K) ∧ w''.cell? ⟨g, 1, none⟩ = some (.string D)) := fun w' w'' hw hk => by
            have h := R3.out.below hw R3.out.lt
            have h' : ObjAt w'' wr.heap.size 84 [.string K, .string D] := (hk _ h.lt HNE.out).trans h
            rw [hg.out]
            exact ⟨h'.get 0 rfl, h'.get 1 rfl⟩
          have SA := Lib.hid fun (w' : World) (hb : Below w3.heap.size w3 w') => SA0.out w' (A3.out.trans (hb.mono A3.out.size))
          have IT := Lib.hid fun (w' : World) (hb : Below w3.heap.size w3 w') => IT0.out w' (A3.out.trans (hb.mono A3.out.size))
          clear c0 c1
          go_simp
          rw [← hg.out]
          refine wp_region_held_drew (S := (fun w' => w'.cell? ⟨g, 0, none⟩ = some (.string K) ∧ w'.cell? ⟨g, 1, none⟩ = some (.string D))) (by kernel_rfl) (KC.out _ (Below.refl _ _).drew) (fun hHeld => ?_)
          refine wpAnyH_take (i := 0) (oi := { dst := some 32, op := Go.Op.move (Go.Operand.tmp 7), type := 25, pos := "paxrec.go:57", after := #[], guard := none }) (v := ?_) rfl (by kernel_rfl) (by kernel_rfl) (by kernel_rfl) (fun _ _ _ h => h) (Or.inl ⟨by rfl, ?_⟩) (by assumption) ?_
          rotate_left 1
          focus ((intro wS hSw; (try dsimp only at hSw); go_simp) <;> (try with_reducible rfl))
          simp only [Act.put, List.setIfInBounds_toArray, List.set_cons_zero, List.set_cons_succ]
          refine wpAnyH_take (i := 1) (oi := { dst := some 33, op := Go.Op.load 84 (Go.Operand.tmp 9), type := 84, pos := "paxrec.go:57", after := #[], guard := none }) (v := ?_) rfl (by kernel_rfl) (by kernel_rfl) (by kernel_rfl) (fun _ _ _ h => h) (Or.inl ⟨by rfl, ?_⟩) (by assumption) ?_
          rotate_left 1
          focus ((intro wS hSw; (try dsimp only at hSw); go_simp) <;> (try with_reducible rfl))
          simp only [Act.put, List.setIfInBounds_toArray, List.set_cons_zero, List.set_cons_succ]
          refine wpAnyH_take (i := 5) (oi := { dst := some 37, op := Go.Op.fieldAddr 84 (Go.Operand.tmp 9) 0, type := 0, pos := "paxrec.go:57", after := #[], guard := none }) (v := ?_) rfl (by kernel_rfl) (by kernel_rfl) (by kernel_rfl) (fun _ _ _ h => h) (Or.inl ⟨by rfl, ?_⟩) (by assumption) ?_
          rotate_left 1
          focus ((intro wS hSw; (try dsimp only at hSw); go_simp) <;> (try with_reducible rfl))
          simp only [Act.put, List.setIfInBounds_toArray, List.set_cons_zero, List.set_cons_succ]
          refine wpAnyH_take (i := 6) (oi := { dst := some 38, op := Go.Op.load 9 (Go.Operand.tmp 37), type := 9, pos := "paxrec.go:57", after := #[{ on := 5, ground := Go.Ground.data }], guard := none }) (v := ?_) rfl (by kernel_rfl) (by kernel_rfl) (by kernel_rfl) (fun _ _ _ h => h) (Or.inl ⟨by rfl, ?_⟩) (by assumption) ?_
          rotate_left 1
          focus ((intro wS hSw; (try dsimp only at hSw); go_simp) <;> (try with_reducible rfl))
          simp only [Act.put, List.setIfInBounds_toArray, List.set_cons_zero, List.set_cons_succ]
          refine wpAnyH_take (i := 9) (oi := { dst := some 41, op := Go.Op.fieldAddr 84 (Go.Operand.tmp 9) 1, type := 0, pos := "paxrec.go:57", after := #[], guard := none }) (v := ?_) rfl (by kernel_rfl) (by kernel_rfl) (by kernel_rfl) (fun _ _ _ h => h) (Or.inl ⟨by rfl, ?_⟩) (by assumption) ?_
          rotate_left 1
          focus ((intro wS hSw; (try dsimp only at hSw); go_simp) <;> (try with_reducible rfl))
          simp only [Act.put, List.setIfInBounds_toArray, List.set_cons_zero, List.set_cons_succ]
          refine wpAnyH_take (i := 10) (oi := { dst := some 42, op := Go.Op.load 9 (Go.Operand.tmp 41), type := 9, pos := "paxrec.go:57", after := #[{ on := 9, ground := Go.Ground.data }], guard := none }) (v := ?_) rfl (by kernel_rfl) (by kernel_rfl) (by kernel_rfl) (fun _ _ _ h => h) (Or.inl ⟨by rfl, ?_⟩) (by assumption) ?_
          rotate_left 1
          focus ((intro wS hSw; (try dsimp only at hSw); go_simp) <;> (try with_reducible rfl))
          simp only [Act.put, List.setIfInBounds_toArray, List.set_cons_zero, List.set_cons_succ]
          refine wpAnyH_ready (rs := [2]) (by kernel_rfl) (by simp) ?_
          refine AllReadyH.cons (o := { dst := some 34, op := Go.Op.call { callee := Go.Callee.value (Go.Operand.func 91), args := #[Go.Operand.tmp 33], argTypes := #[84] }, type := 3, pos := "paxrec.go:57", after := #[{ on := 1, ground := Go.Ground.data }], guard := none }) rfl (fun K hK => ?_) AllReadyH.nil
          go_simp
          refine (SA.out _ (Below.refl _ _).drew).mono ?_; rintro e w7 ⟨rfl, b7⟩
          have D7 : Hid (Below w3.heap.size w3 w7) := (Below.refl _ _).drew.trans b7
          clear b7
          go_wp2_with fail
          refine hK.out _ _ (KC.out _ D7.out) (fun hHeld => ?_)
          clear hK K
          (try simp only [Act.put, List.setIfInBounds_toArray, List.set_cons_zero, List.set_cons_succ])
          refine wpAnyH_ready (rs := [3]) (by kernel_rfl) (by simp) ?_
          refine AllReadyH.cons (o := { dst := some 35, op := Go.Op.call { callee := Go.Callee.value (Go.Operand.func 90), args := #[Go.Operand.tmp 34], argTypes := #[3] }, type := 9, pos := "paxrec.go:57", after := #[{ on := 2, ground := Go.Ground.data }, { on := 2, ground := Go.Ground.chain }], guard := none }) rfl (fun K hK => ?_) AllReadyH.nil
          go_simp
          refine (IT.out _ D7.out).mono ?_; rintro e w8 ⟨rfl, b8⟩
          have D8 := Lib.hid (belT D7.out b8)
          clear b8
          go_wp2_with fail
          refine hK.out _ _ (KC.out _ D8.out) (fun hHeld => ?_)
          clear hK K
          (try simp only [Act.put, List.setIfInBounds_toArray, List.set_cons_zero, List.set_cons_succ])
          refine wpAnyH_take (i := 4) (oi := { dst := some 36, op := Go.Op.binOp Go.BinOp.add 9 (Go.Operand.tmp 35) (Go.Operand.const (Go.Value.string { data := #[32] })) 9, type := 9, pos := "paxrec.go:57", after := #[{ on := 3, ground := Go.Ground.data }], guard := none }) (v := ?_) rfl (by kernel_rfl) (by kernel_rfl) (by kernel_rfl) (fun _ _ _ h => h) (Or.inl ⟨by rfl, ?_⟩) (by assumption) ?_
          rotate_left 1
          focus ((intro wS hSw; (try dsimp only at hSw); go_simp) <;> (try with_reducible rfl))
          simp only [Act.put, List.setIfInBounds_toArray, List.set_cons_zero, List.set_cons_succ]
          refine wpAnyH_take (i := 7) (oi := { dst := some 39, op := Go.Op.binOp Go.BinOp.add 9 (Go.Operand.tmp 36) (Go.Operand.tmp 38) 9, type := 9, pos := "paxrec.go:57", after := #[{ on := 4, ground := Go.Ground.data }, { on := 6, ground := Go.Ground.data }], guard := none }) (v := ?_) rfl (by kernel_rfl) (by kernel_rfl) (by kernel_rfl) (fun _ _ _ h => h) (Or.inl ⟨by rfl, ?_⟩) (by assumption) ?_
          rotate_left 1
          focus ((intro wS hSw; (try dsimp only at hSw); go_simp) <;> (try with_reducible rfl))
          simp only [Act.put, List.setIfInBounds_toArray, List.set_cons_zero, List.set_cons_succ]
          refine wpAnyH_take (i := 8) (oi := { dst := some 40, op := Go.Op.binOp Go.BinOp.add 9 (Go.Operand.tmp 39) (Go.Operand.const (Go.Value.string { data := #[61] })) 9, type := 9, pos := "paxrec.go:57", after := #[{ on := 7, ground := Go.Ground.data }], guard := none }) (v := ?_) rfl (by kernel_rfl) (by kernel_rfl) (by kernel_rfl) (fun _ _ _ h => h) (Or.inl ⟨by rfl, ?_⟩) (by assumption) ?_
          rotate_left 1
          focus ((intro wS hSw; (try dsimp only at hSw); go_simp) <;> (try with_reducible rfl))
          simp only [Act.put, List.setIfInBounds_toArray, List.set_cons_zero, List.set_cons_succ]
          refine wpAnyH_take (i := 11) (oi := { dst := some 43, op := Go.Op.binOp Go.BinOp.add 9 (Go.Operand.tmp 40) (Go.Operand.tmp 42) 9, type := 9, pos := "paxrec.go:57", after := #[{ on := 8, ground := Go.Ground.data }, { on := 10, ground := Go.Ground.data }], guard := none }) (v := ?_) rfl (by kernel_rfl) (by kernel_rfl) (by kernel_rfl) (fun _ _ _ h => h) (Or.inl ⟨by rfl, ?_⟩) (by assumption) ?_
          rotate_left 1
          focus ((intro wS hSw; (try dsimp only at hSw); go_simp) <;> (try with_reducible rfl))
          simp only [Act.put, List.setIfInBounds_toArray, List.set_cons_zero, List.set_cons_succ]
          refine wpAnyH_take (i := 12) (oi := { dst := some 44, op := Go.Op.binOp Go.BinOp.add 9 (Go.Operand.tmp 43) (Go.Operand.const (Go.Value.string { data := #[10] })) 9, type := 9, pos := "paxrec.go:57", after := #[{ on := 11, ground := Go.Ground.data }], guard := none }) (v := ?_) rfl (by kernel_rfl) (by kernel_rfl) (by kernel_rfl) (fun _ _ _ h => h) (Or.inl ⟨by rfl, ?_⟩) (by assumption) ?_
          rotate_left 1
          focus ((intro wS hSw; (try dsimp only at hSw); go_simp) <;> (try with_reducible rfl))
          simp only [Act.put, List.setIfInBounds_toArray, List.set_cons_zero, List.set_cons_succ]
          refine wpAnyH_ready (rs := [13]) (by kernel_rfl) (by simp) ?_
          refine AllReadyH.cons (o := { dst := some 45, op := Go.Op.call { callee := Go.Callee.builtin Go.Builtin.append, args := #[Go.Operand.tmp 32, Go.Operand.tmp 44], argTypes := #[25, 9] }, type := 25, pos := "paxrec.go:57", after := #[{ on := 0, ground := Go.Ground.data }, { on := 12, ground := Go.Ground.data }, { on := 3, ground := Go.Ground.chain }], guard := none }) rfl (fun K hK => ?_) AllReadyH.nil
          refine step_append_str rfl (.tmp 32) (.tmp 44) 25 9 rfl w.heap.size 5 i0 Tryz.underlying25 Tryz.underlying9 hI u7 M X rfl (own_stay W3.out D8.out (Nat.le_refl _)) _ rfl ?_ (Nat.le_trans B3.out.size D8.out.size) ?_
          · have e := ES.out
            have h1 := EL.out
            rw [e, h1]; exact MX.out
          intro v9 w9 o9 b9 k9
          have O9 := Lib.hid o9; have B9 := Lib.hid ((B3.out.trans (D8.out.mono B3.out.size)).trans b9); have K9 := Lib.hid k9; clear o9 b9 k9
          refine hK.out _ _ (KT.out _ _ D8.out K9.out) (fun hHeld => ?_)
          clear hK K
          (try simp only [Act.put, List.setIfInBounds_toArray, List.set_cons_zero, List.set_cons_succ])
          refine wpAnyH_take (i := 14) (oi := { dst := some 7, op := Go.Op.assign (Go.Operand.tmp 45), type := 25, pos := "paxrec.go:57", after := #[{ on := 13, ground := Go.Ground.data }, { on := 13, ground := Go.Ground.chain }, { on := 0, ground := Go.Ground.phase }, { on := 1, ground := Go.Ground.phase }, { on := 2, ground := Go.Ground.phase }, { on := 3, ground := Go.Ground.phase }, { on := 4, ground := Go.Ground.phase }, { on := 5, ground := Go.Ground.phase }, { on := 6, ground := Go.Ground.phase }, { on := 7, ground := Go.Ground.phase }, { on := 8, ground := Go.Ground.phase }, { on := 9, ground := Go.Ground.phase }, { on := 10, ground := Go.Ground.phase }, { on := 11, ground := Go.Ground.phase }, { on := 12, ground := Go.Ground.phase }, { on := 13, ground := Go.Ground.phase }], guard := none }) (v := ?_) rfl (by kernel_rfl) (by kernel_rfl) (by kernel_rfl) (fun _ _ _ h => h) (Or.inl ⟨by rfl, ?_⟩) (by assumption) ?_
          rotate_left 1
          focus ((intro wS hSw; (try dsimp only at hSw); go_simp) <;> (try with_reducible rfl))
          simp only [Act.put, List.setIfInBounds_toArray, List.set_cons_zero, List.set_cons_succ]
          refine wpAnyH_done (by kernel_rfl) ?_ _
          go_wp2
          go_roundw
          case rel =>
            refine ⟨j + 1, by go_num, by omega, ?_, B9.out⟩
            have h := O9.out
            rw [ES.out, EL.out, numsOf_strOfNums (enR_bd _)] at h
            rw [FT.out, List.length_append, ← hM.out, enR_len GO.out]
            exact h
          case measure => simp [intOf]; omega
        · have hj' : j = n := by omega
          subst hj'
          clear hjn
          have j9 : ¬ (j : Int) < j := by omega
          have hX : rs.take j = rs := List.take_of_length_le (by rw [HN.out]; exact Nat.le_refl _)
          rw [hX] at HW
          go_wp2
          go_ret2
          exact .own HW.out (fmB_bd rs) HL.out

/-- Format -/
def fmR (rs : List Rec) : List Int := if fmE [] rs = 0 then fmB rs else []
theorem format_any (a : Option Addr) (n cap : Nat) (rs : List Rec) (w : World) (V : Vars w) (hv : ∀ r ∈ rs, r.2.size ≤ maxLen) (hn : rs.length = n) (hc : n ≤ cap) (hm : cap ≤ maxLen) (hR : RecsIn w a rs) :
    Calls Tryz.prog 46 #[.slice a n cap] w (RetFm (fmR rs) (fmE [] rs) w) := by
  unfold fmR
  rcases hR with rfl | ⟨b, off, rfl, hlt, hat⟩
  · obtain rfl : n = 0 := hn.symm
    exact format_nil a cap w
  · by_cases hE : fmE [] rs = 0
    · rw [if_pos hE, hE]; exact format_good b off n cap rs w V hv hn hc hm hlt hat hE
    · rw [if_neg hE]; exact format_bad b off n cap rs w V hv hn hc hm hlt hat hE
end Go.Proofs.YtmbimnnacjbdfaaGreatDoor.Pxr
/-
  Layer 11: the walks of Blocks and of the search for a byte that is not zero.
-/
namespace Go.Proofs.YtmbimnnacjbdfaaGreatDoor
open Go.RowKit

theorem blocks_any (z : Int) (hz : z ≤ 9223372036854775807) (w : World) : Calls Tryz.prog 15 #[.int .i64 z] w fun e w' => e = .returned (.int .i64 (blkN z.toNat : Nat)) ∧ w = w' := by
  by_cases h0 : z ≤ 0
  · have e : blkN z.toNat = 0 := by rw [show z.toNat = 0 by omega]; rfl
    rw [e]
    clear hz e
    go_enter Tryz.func15, Tryz.ntmps15
    go_wp2
    go_ret
    exact ⟨rfl, rfl⟩
  · obtain ⟨s, rfl⟩ : ∃ s : Nat, z = s + 1 := ⟨(z - 1).toNat, by omega⟩
    have e : ((blkN ((s : Int) + 1).toNat : Nat) : Int) = (s : Int) / 512 + 1 := by
      rw [show ((s : Int) + 1).toNat = s + 1 by omega]; unfold blkN; omega
    rw [e]
    have h1 : ¬ (s : Int) + 1 ≤ 0 := by omega
    have h2 : (s : Int) + 1 - 1 = s := by omega
    have h3 : (s : Int) ≤ 9223372036854775806 := by omega
    clear h0 e hz
    go_enter Tryz.func15, Tryz.ntmps15
    go_wp2
    go_ret
    exact ⟨rfl, rfl⟩

end Go.Proofs.YtmbimnnacjbdfaaGreatDoor
/-
  Layer 11: the reference's Blocks.
-/
namespace Go.Proofs.YtmbimnnacjbdfaaGreatDoor
open Go.RowKit

theorem rblocks_any (z : Int) (hz : z ≤ 9223372036854775807) (w : World) : Calls Tryz.prog 17 #[.int .i64 z] w fun e w' => e = .returned (.int .i64 (blkN z.toNat : Nat)) ∧ w = w' := by
  by_cases h0 : z < 0
  · have e : blkN z.toNat = 0 := by rw [show z.toNat = 0 by omega]; rfl
    rw [e]
    clear hz e
    go_enter Tryz.func17, Tryz.ntmps17
    go_wp2
    go_ret
    exact ⟨rfl, rfl⟩
  · obtain ⟨s, rfl⟩ : ∃ s : Nat, z = s := ⟨z.toNat, by omega⟩
    have hs : (s : Int) ≤ 9223372036854775807 := hz
    have hs0 : ¬ (s : Int) < 0 := h0
    by_cases hm : (s : Int) % 512 = 0
    · have e : ((blkN (s : Int).toNat : Nat) : Int) = (s : Int) / 512 := by
        rw [show (s : Int).toNat = s from rfl]; unfold blkN; omega
      rw [e]
      clear e hz h0
      go_enter Tryz.func17, Tryz.ntmps17
      go_wp2
      go_ret
      exact ⟨rfl, rfl⟩
    · have e : ((blkN (s : Int).toNat : Nat) : Int) = (s : Int) / 512 + 1 := by
        rw [show (s : Int).toNat = s from rfl]; unfold blkN; omega
      rw [e]
      have hm' : ((s : Int) % 512 != 0) = true := by simp [hm]
      clear e hz h0 hm
      go_enter Tryz.func17, Tryz.ntmps17
      go_wp2
      go_ret
      exact ⟨rfl, rfl⟩

end Go.Proofs.YtmbimnnacjbdfaaGreatDoor
