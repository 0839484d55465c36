/- EtrDec OctSmall OctParse CstParse UstPrs ChkFns -/
import Derived.Test.YtbbaleambgaanaaGreatDoorQ5
import Derived.Test.YtbbaleambgaanaaGreatDoorQ30
import Derived.Test.YtbbaleambgaanaaGreatDoorQ32
import Derived.Test.YtbbaleambgaanaaGreatDoorQ4
import Derived.Test.YtbbaleambgaanaaGreatDoorQ9
import Derived.Test.YtbbaleambgaanaaGreatDoorQ8
import Derived.Test.YtbbaleambgaanaaGreatDoorQ11
namespace Go.Proofs.YtbbaleambgaanaaGreatDoor
open Go.RowKit
theorem Out.late {lo hi g : Nat} {a b c : World} (h : Out lo hi a b) (ht : Turned b c g) (hg : a.heap.size ≤ g) : Out lo hi a c := by
  have hs := ht.size
  have ho := fun k => ht.other (k := k)
  obtain ⟨cs, rfl⟩ := ht
  exact ⟨h.os, h.tape, h.output, by have := h.size; omega, fun k hk hj => (ho k (by omega)).trans (h.block k hk hj)⟩
theorem Out.late_below {lo hi B : Nat} {a b c : World} (h : Out lo hi a b) (hb : Below B b c) (hB : a.heap.size ≤ B) : Out lo hi a c :=
  ⟨hb.os.trans h.os, hb.tape.trans h.tape, hb.output.trans h.output, Nat.le_trans h.size hb.size, fun k hk hj => (hb.block k (Nat.lt_of_lt_of_le hk hB)).trans (h.block k hk hj)⟩
end Go.Proofs.YtbbaleambgaanaaGreatDoor
namespace Go.Proofs.YtbbaleambgaanaaGreatDoor.Etr
open Go.RowKit Go.Proofs.YtbbaleambgaanaaGreatDoor.Fit Pxr Pnm
theorem nx_zero {Z : List Int} {E : Int} {o : Nat} {err : Int} (hE : E = 11 ∨ E = 4) (h : nxE Z E o err = 0) : err = 0 ∧ o + 512 ≤ Z.length := by
  unfold nxE at h
  by_cases he : err ≠ 0
  · rw [if_pos he] at h; exact absurd h he
  · rw [if_neg he] at h
    refine ⟨Decidable.byContradiction he, ?_⟩
    by_cases hc : o + 512 ≤ Z.length
    · exact hc
    · rw [if_neg hc] at h
      split at h <;> omega
theorem dH_ok {zs : List Int} (h : Ust.deE zs = 0) : Ust.dH zs = Ust.hdV (Ust.dT zs) (Ust.dNm zs) (Ust.dPf zs) (Ust.dLk zs) (Ust.dMd zs) (Ust.dSz zs) := by
  obtain ⟨h1, h2, h3, h4⟩ := Ust.dec_ok h
  exact (Ust.de_good h1 h2 h3 h4).2
theorem dH_bad {zs : List Int} (h : Ust.deE zs ≠ 0) : Ust.dH zs = Ust.hd0 := by
  by_cases h1 : zs.length = 512
  · by_cases h2 : zs = Chk.sealZ zs
    · by_cases h3 : Ust.known (Ust.dT zs)
      · by_cases h4 : Ust.dOk zs
        · exact absurd (Ust.de_good h1 h2 h3 h4).1 h
        · exact (Ust.de_syn h1 h2 h3 h4).2
      · exact (Ust.de_kind h1 h2 h3).2
    · exact (Ust.de_ver h1 h2).2
  · exact (Ust.de_len h1).2
theorem mgRes_D {h : Hd} {rs : List Rec} {x : Ent} {E : Int} (hm : mgRes h rs x E) (o last o' : Nat) : mgD h rs o last o' = ⟨x, if E = 0 then o else last, E, o', 0⟩ ∧ (E ≠ 0 → x = ez) := by
  unfold mgD
  rcases hm with ⟨h1, rfl, rfl⟩ | ⟨h1, rfl, rfl⟩
  · rw [if_pos h1, if_pos rfl]; exact ⟨rfl, fun h => absurd rfl h⟩
  · rw [if_neg h1]
    by_cases h0 : rs = []
    · rw [if_pos h0, h0, if_pos (show ([] : List Rec).length = 0 from rfl), if_neg (by decide)]; exact ⟨rfl, fun _ => rfl⟩
    · rw [if_neg h0, if_neg (fun h => h0 (List.length_eq_zero_iff.1 h)), if_neg (by decide)]; exact ⟨rfl, fun _ => rfl⟩
def RetDe (d : DR) (e : Ending) : Prop := e = .returned (.tuple #[.agg (enV d.x.k d.x.p d.x.m d.x.t d.x.s).toArray, .int .i64 d.p, .int .i64 d.e])
theorem cp_size (zs : List Int) (h : Bytes zs) : (strOfNums (Cst.cpS zs)).size ≤ 256 := by
  have hb : ∀ z ∈ Cst.cpS zs, 0 ≤ z ∧ z ≤ 255 := Cst.cpS_bd zs h
  rw [← numsOf_length, numsOf_strOfNums hb]
  unfold Cst.cpS
  split
  · exact Nat.zero_le _
  · split
    · exact Nat.zero_le _
    · have := Cst.trimZ_length zs; omega
theorem hd_sizes {B : List Int} (h : Bytes B) : (Ust.dNm B).size ≤ 256 ∧ (Ust.dPf B).size ≤ 256 ∧ (Ust.dLk B).size ≤ 256 :=
  ⟨cp_size _ (h.take _), cp_size _ ((h.drop _).take _), cp_size _ ((h.drop _).take _)⟩
theorem par_good {D : List Int} (hD : Bytes D) : (∀ r ∈ (Pxr.parZ D).1, r.2.size ≤ 65536) ∧ (Pxr.parZ D).1.length ≤ 3 := by
  rcases par_says D hD with ⟨_, q2, _⟩ | ⟨_, q2, _⟩
  · exact ⟨fun r hr => (fmE_good _ _ q2 r hr).1.val, fmE_three q2⟩
  · rw [q2]; exact ⟨fun r hr => by simp at hr, Nat.zero_le _⟩
end Go.Proofs.YtbbaleambgaanaaGreatDoor.Etr
namespace Go.Proofs.YtbbaleambgaanaaGreatDoor.Oct
open Go.RowKit
def odB (n : Int) : Bool := decide (48 ≤ n ∧ n ≤ 55)
set_option maxHeartbeats 400000 in
theorem digit_any (n : Int) (w : World) :
    Calls Tryz.prog 175 #[.int .u8 n] w fun e w' => e = .returned (.bool (odB n)) ∧ w = w' := by
  by_cases h1 : 48 ≤ n
  · by_cases h2 : n ≤ 55
    · have h : odB n = true := by unfold odB; simp [h1, h2]
      rw [h]; clear h
      go_enter Tryz.func175, Tryz.ntmps175
      go_wp2
      go_ret
      exact ⟨rfl, rfl⟩
    · have h : odB n = false := by unfold odB; simp [h2]
      rw [h]; clear h
      go_enter Tryz.func175, Tryz.ntmps175
      go_wp2
      go_ret
      exact ⟨rfl, rfl⟩
  · have h : odB n = false := by unfold odB; simp [h1]
    rw [h]; clear h
    go_enter Tryz.func175, Tryz.ntmps175
    go_wp2
    go_ret
    exact ⟨rfl, rfl⟩
end Go.Proofs.YtbbaleambgaanaaGreatDoor.Oct
namespace Go.Proofs.YtbbaleambgaanaaGreatDoor.Oct
open Go.RowKit
set_option maxHeartbeats 400000 in
theorem parse_len (a : Option Addr) (len cap : Nat) (w : World) (h : len < 2 ∨ 22 < len) (hm : len ≤ maxLen) :
    Calls Tryz.prog 152 #[.slice a len cap] w fun e w' => e = .returned (.tuple #[.int .i64 0, .int .i64 2]) ∧ w = w' := by
  unfold maxLen at hm
  have hv := vwB_false (n := (len : Int)) (by omega)
  clear h
  go_enter Tryz.func152, Tryz.ntmps152
  go_wp2_with (go_at_call 174; refine (valid_any _ _).mono ?_; rintro e w' ⟨rfl, rfl⟩)
  go_ret2
  exact ⟨rfl, rfl⟩
set_option maxHeartbeats 400000 in
theorem parse_last (b off m cap : Nat) (zs : List Int) (w : World) (hz : zs.length = m + 1) (h1 : 1 ≤ m) (h2 : m ≤ 21) (hr : RowAt w b off zs) (hl : zs.getD m 0 ≠ 0) :
    Calls Tryz.prog 152 #[.slice (some ⟨b, off, none⟩) (m + 1) cap] w fun e w' => e = .returned (.tuple #[.int .i64 0, .int .i64 6]) ∧ w = w' := by
  have hv := vwB_true (n := (m : Int) + 1) (by omega) (by omega)
  obtain ⟨d, hd, d0, d1, hc⟩ := hr.get m (by omega)
  have hne : ¬ d = 0 := by rw [hd]; exact hl
  clear hd hl hr hz
  go_enter Tryz.func152, Tryz.ntmps152
  go_wp2_with (go_at_call 174; refine (valid_any _ _).mono ?_; rintro e w' ⟨rfl, rfl⟩)
  go_ret2
  exact ⟨rfl, rfl⟩
set_option maxHeartbeats 400000 in
theorem parse_ok (b off m cap : Nat) (zs : List Int) (w : World) (hz : zs.length = m + 1) (h1 : 1 ≤ m) (h2 : m ≤ 21) (hr : RowAt w b off zs) (hl : zs.getD m 0 = 0) (ho : OctD (zs.take m)) :
    Calls Tryz.prog 152 #[.slice (some ⟨b, off, none⟩) (m + 1) cap] w fun e w' => e = .returned (.tuple #[.int .i64 (val (zs.take m)), .int .i64 0]) ∧ w = w' := by
  have hv := vwB_true (n := (m : Int) + 1) (by omega) (by omega)
  obtain ⟨d, hd, d0, d1, hc⟩ := hr.get m (by omega)
  obtain rfl : d = 0 := hd.trans hl
  have HR := Lib.hid hr
  have HO := Lib.hid ho
  have HZ := Lib.hid hz
  clear hd hl hr hz ho
  go_enter Tryz.func152, Tryz.ntmps152
  go_wp2_with (go_at_call 174; refine (valid_any _ _).mono ?_; rintro e w' ⟨rfl, rfl⟩)
  go_loop [5, 20] (fun t i => ∃ j : Nat, j ≤ m ∧ i = .int .i64 j ∧ t = .int .i64 (val (zs.take j))) (fun _ i => m - (intOf i).toNat)
  case atStart => exact ⟨0, Nat.zero_le _, rfl, rfl⟩
  case round =>
    obtain ⟨j, hj, rfl, rfl⟩ := hrel
    by_cases hlt : j < m
    · obtain ⟨d, hd, d2, d3, hcj⟩ := HR.out.get j (by have := HZ.out; omega)
      have HV : Hid (val (zs.take (j + 1)) = val (zs.take j) * 8 + (d - 48)) := by
        show _ = _; rw [take_snoc (by have := HZ.out; omega), val_snoc, hd]
      have hdd : 48 ≤ d ∧ d ≤ 55 := by
        apply HO.out; rw [hd, List.mem_take_iff_getElem]
        have := HZ.out
        exact ⟨j, by omega, by simp [List.getD_eq_getElem?_getD, show j < zs.length by omega]⟩
      obtain ⟨d4, d5⟩ := hdd
      have hod : odB d = true := by unfold odB; simp [d4, d5]
      have hb := val_bd j (zs.take j) (by have := HZ.out; rw [List.length_take]; omega) (fun x hx => HO.out x (by
        rw [List.mem_take_iff_getElem] at hx ⊢
        obtain ⟨i, hi, rfl⟩ := hx
        exact ⟨i, by omega, rfl⟩))
      obtain ⟨b0, b1⟩ := hb
      have b2 := mx_small (k := j) (by omega)
      have b3 : val (zs.take j) ≤ 1152921504606846975 := Int.le_trans b1 b2
      clear b1 b2 hd d2 d3
      go_wp2_with (go_at_call 175; refine (digit_any _ _).mono ?_; rintro e w' ⟨rfl, rfl⟩)
      go_round
      case rel => exact ⟨j + 1, by omega, by go_num, by rw [HV.out]⟩
      case measure => simp [intOf]; omega
    · obtain rfl : j = m := by omega
      go_wp2
      go_ret2
      exact ⟨rfl, rfl⟩
set_option maxHeartbeats 400000 in
theorem parse_digit (b off m cap : Nat) (zs : List Int) (w : World) (hz : zs.length = m + 1) (h1 : 1 ≤ m) (h2 : m ≤ 21) (hr : RowAt w b off zs) (hl : zs.getD m 0 = 0) (ho : ¬ OctD (zs.take m)) :
    Calls Tryz.prog 152 #[.slice (some ⟨b, off, none⟩) (m + 1) cap] w fun e w' => e = .returned (.tuple #[.int .i64 0, .int .i64 6]) ∧ w = w' := by
  have hv := vwB_true (n := (m : Int) + 1) (by omega) (by omega)
  obtain ⟨d, hd, d0, d1, hc⟩ := hr.get m (by omega)
  obtain rfl : d = 0 := hd.trans hl
  have HR := Lib.hid hr
  have HO := Lib.hid ho
  have HZ := Lib.hid hz
  clear hd hl hr hz ho
  go_enter Tryz.func152, Tryz.ntmps152
  go_wp2_with (go_at_call 174; refine (valid_any _ _).mono ?_; rintro e w' ⟨rfl, rfl⟩)
  go_loop [5, 20] (fun t i => ∃ j : Nat, j ≤ m ∧ i = .int .i64 j ∧ t = .int .i64 (val (zs.take j)) ∧ OctD (zs.take j)) (fun _ i => m - (intOf i).toNat)
  case atStart => exact ⟨0, Nat.zero_le _, rfl, rfl, fun x hx => by simp at hx⟩
  case round =>
    obtain ⟨j, hj, rfl, rfl, hoj⟩ := hrel
    have HJ := Lib.hid hoj; clear hoj
    by_cases hlt : j < m
    · obtain ⟨d, hd, d2, d3, hcj⟩ := HR.out.get j (by have := HZ.out; omega)
      have HD := Lib.hid hd; clear hd
      by_cases hdd : 48 ≤ d ∧ d ≤ 55
      · have HV : Hid (val (zs.take (j + 1)) = val (zs.take j) * 8 + (d - 48)) := by
          show _ = _; rw [take_snoc (by have := HZ.out; omega), val_snoc, HD.out]
        have HJ' : Hid (OctD (zs.take (j + 1))) := by
          show OctD _
          rw [take_snoc (by have := HZ.out; omega), ← HD.out]
          intro x hx
          rcases List.mem_append.1 hx with hx | hx
          · exact HJ.out x hx
          · obtain rfl : x = d := by simpa using hx
            exact hdd
        obtain ⟨d4, d5⟩ := hdd
        have hod : odB d = true := by unfold odB; simp [d4, d5]
        have hb := val_bd j (zs.take j) (by have := HZ.out; rw [List.length_take]; omega) HJ.out
        obtain ⟨b0, b1⟩ := hb
        have b2 := mx_small (k := j) (by omega)
        have b3 : val (zs.take j) ≤ 1152921504606846975 := Int.le_trans b1 b2
        clear b1 b2 d2 d3
        go_wp2_with (go_at_call 175; refine (digit_any _ _).mono ?_; rintro e w' ⟨rfl, rfl⟩)
        go_round
        case rel => exact ⟨j + 1, by omega, by go_num, by rw [HV.out], HJ'.out⟩
        case measure => simp [intOf]; omega
      · have hod : odB d = false := by unfold odB; simp; omega
        clear hdd
        go_wp2_with (go_at_call 175; refine (digit_any _ _).mono ?_; rintro e w' ⟨rfl, rfl⟩)
        go_ret2
        exact ⟨rfl, rfl⟩
    · obtain rfl : j = m := by omega
      exact absurd HJ.out HO.out
theorem parse_in (a : Option Addr) (len cap : Nat) (zs : List Int) (w : World) (h : BytesIn w a zs) (hz : zs.length = len) (hm : len ≤ maxLen) :
    Calls Tryz.prog 152 #[.slice a len cap] w fun e w' => e = .returned (.tuple #[.int .i64 (pzV zs), .int .i64 (pzE zs)]) ∧ w = w' := by
  subst hz
  by_cases h1 : zs.length < 2 ∨ 22 < zs.length
  · unfold pzV pzE; rw [if_pos h1, if_pos h1]; exact parse_len a _ cap w h1 hm
  · rcases h with h | ⟨b, off, rfl, _, hr⟩
    · rw [h] at h1; simp at h1
    · unfold pzV pzE; rw [if_neg h1, if_neg h1]
      obtain ⟨m, hm'⟩ : ∃ m, zs.length = m + 1 := ⟨zs.length - 1, by omega⟩
      by_cases h2 : pzOk zs
      · rw [if_pos h2, if_pos h2, hm']
        obtain ⟨h3, h4⟩ := h2
        rw [hm'] at h3 h4
        exact parse_ok b off m cap zs w hm' (by omega) (by omega) hr h3 h4
      · rw [if_neg h2, if_neg h2, hm']
        by_cases h3 : zs.getD m 0 = 0
        · exact parse_digit b off m cap zs w hm' (by omega) (by omega) hr h3 (fun h4 => h2 (by unfold pzOk; rw [hm']; exact ⟨h3, h4⟩))
        · exact parse_last b off m cap zs w hm' (by omega) (by omega) hr h3
end Go.Proofs.YtbbaleambgaanaaGreatDoor.Oct
namespace Go.Proofs.YtbbaleambgaanaaGreatDoor.Cst
open Go.RowKit
theorem _root_.Go.Proofs.YtbbaleambgaanaaGreatDoor.RowAt.front {w : World} {b off : Nat} {zs ys : List Int} (h : RowAt w b off zs) {m : Nat} (e : zs = ys ++ List.replicate m 0) : RowAt w b off ys := by
  subst e
  refine ⟨fun i hi => ?_, fun z hz => h.2 z (List.mem_append_left _ hz)⟩
  have := h.1 i (by rw [List.length_append]; omega)
  rwa [List.getD_eq_getElem?_getD, List.getElem?_append_left hi, ← List.getD_eq_getElem?_getD] at this
theorem _root_.Go.Proofs.YtbbaleambgaanaaGreatDoor.RowAt.trim {w : World} {b off : Nat} {zs : List Int} (h : RowAt w b off zs) : RowAt w b off (trimZ zs) := by
  obtain ⟨m, hm⟩ := trimZ_back zs
  exact h.front hm
set_option maxHeartbeats 1000000 in
theorem trimByte (b off cap : Nat) (zs : List Int) (w : World) (h : RowAt w b off zs) (hl : zs.length ≤ cap) (hm : cap ≤ maxLen) :
    Calls Tryz.prog 183 #[.slice (some ⟨b, off, none⟩) zs.length cap, .int .u8 0] w fun e w' => e = .returned (.slice (some ⟨b, off, none⟩) (trimZ zs).length cap) ∧ w = w' := by
  unfold maxLen at hm
  have H := Lib.hid h; clear h
  go_enter Tryz.func183, Tryz.ntmps183
  go_wp2
  go_loop [0] (fun t => ∃ j : Nat, j ≤ zs.length ∧ t = .slice (some ⟨b, off, none⟩) j cap ∧ trimZ (zs.take j) = trimZ zs) (fun t => match t with | .slice _ n _ => n | _ => 0)
  case atStart => exact ⟨zs.length, Nat.le_refl _, rfl, by rw [List.take_length]⟩
  case round =>
    obtain ⟨j, hj, rfl, ht⟩ := hrel
    have HT := Lib.hid ht; clear ht
    rcases j with _ | k
    · have HE : Hid ((trimZ zs).length = 0) := by show _ = _; rw [← HT.out]; rfl
      go_wp2
      go_ret
      exact ⟨by rw [HE.out]; rfl, rfl⟩
    · obtain ⟨d, hd, d2, d3, hc⟩ := H.out.get k (by omega)
      have HD := Lib.hid hd; clear hd
      by_cases h0 : d = 0
      · subst h0
        have HN : Hid (trimZ (zs.take k) = trimZ zs) := by
          show _ = _; rw [← HT.out, take_snoc' (by omega), ← HD.out, trimZ_snoc_zero]
        go_wp2
        go_round
        case rel => exact ⟨k, by omega, rfl, HN.out⟩
        case measure => simp
      · have h0' : (d == 0) = false := by simpa using h0
        have HE : Hid ((trimZ zs).length = k + 1) := by
          show _ = _; rw [← HT.out, take_snoc' (by omega), ← HD.out, trimZ_snoc_ne _ h0]; simp; omega
        clear h0
        go_wp2
        go_ret
        exact ⟨by rw [HE.out]; rfl, rfl⟩
set_option maxRecDepth 10000 in
set_option maxHeartbeats 1000000 in
theorem trim_any (b off cap : Nat) (zs : List Int) (w : World) (h : RowAt w b off zs) (h0 : 0 < zs.length) (hl : zs.length ≤ cap) (hm : cap ≤ maxLen) :
    Calls Tryz.prog 172 #[.slice (some ⟨b, off, none⟩) zs.length cap, .string { data := #[0] }] w fun e w' => e = .returned (.slice (some ⟨b, off, none⟩) (trimZ zs).length cap) ∧ w = w' := by
  have H := Lib.hid h; clear h
  have HM := Lib.hid hm; clear hm
  have h1 : ((zs.length : Int) == 0) = false := beq_eq_false_iff_ne.2 (by omega)
  go_enter Tryz.func172, Tryz.ntmps172
  go_wp2_with fail
  refine (trimByte _ _ _ zs _ H.out hl HM.out).mono ?_; rintro e w1 ⟨rfl, rfl⟩
  go_wp2
  go_ret
  exact ⟨rfl, rfl⟩
set_option maxRecDepth 20000 in
set_option maxHeartbeats 1000000 in
theorem idxb_in (a : Option Addr) (n cap : Nat) (zs : List Int) (w : World) (h : BytesIn w a zs) (hn : zs.length = n) :
    Calls Tryz.prog 173 #[.slice a n cap, .int .u8 0] w fun e w' => e = .returned (.int .i64 (Lib.indexByte (Lib.bytesOf zs) 0)) ∧ w = w' := by
  go_enter Tryz.func173, Tryz.ntmps173
  go_wp2
  rw [run_callFunc_extern Tryz.func187 (by kernel_rfl) (by kernel_rfl) (by kernel_rfl) (e := Extern.BytealgIndexByte.indexByte) (by kernel_rfl), run_indexByteIn h n cap hn 0]
  simp only [Result.andThen]
  rw [Oper.upon_value]
  go_wp2
  go_ret
  exact ⟨rfl, rfl⟩
set_option maxRecDepth 100000 in
set_option maxHeartbeats 1000000 in
theorem parse_row (b off cap : Nat) (zs : List Int) (w : World) (h : RowAt w b off zs) (h0 : 1 ≤ zs.length) (h1 : zs.length ≤ 256) (hl : zs.length ≤ cap) (hm : cap ≤ maxLen) :
    Calls Tryz.prog 150 #[.slice (some ⟨b, off, none⟩) zs.length cap] w fun e w' => e = .returned (.tuple #[.string (strOfNums (cpS zs)), .int .i64 (cpE zs)]) ∧ w = w' := by
  have H := Lib.hid h; clear h
  have HM := Lib.hid hm; clear hm
  have hv : vwB zs.length = true := vwB_true (by omega) (by omega)
  obtain ⟨k, HK⟩ := named (Lib.indexByte (Lib.bytesOf (trimZ zs)) 0)
  have hk := idx_bytes (trimZ zs) (trimZ_bd zs H.out.2)
  rw [← HK.out] at hk
  have hbt : Hid (∀ w', w = w' → BytesIn w' (some ⟨b, off, none⟩) (trimZ zs)) := fun w' e => by
    subst e
    have hlt : b < w.heap.size := by
      have := H.out.1 0 h0
      rcases Nat.lt_or_ge b w.heap.size with h | h
      · exact h
      · rw [World.cell?] at this
        simp [Array.getElem?_eq_none h] at this
    exact .inr ⟨b, off, rfl, hlt, H.out.trim⟩
  by_cases h2 : (0 : Int) ∈ trimZ zs
  · have hp := hk.2 h2
    have e1 : cpS zs = [] := by unfold cpS; rw [if_neg (by omega), if_pos h2]
    have e2 : cpE zs = 6 := by unfold cpE; rw [if_neg (by omega), if_pos h2]
    rw [e1, e2]; clear e1 e2 hk h2
    go_enter Tryz.func150, Tryz.ntmps150
    go_wp2_with fail
    refine (valid_any _ _).mono ?_; rintro e w' ⟨rfl, rfl⟩
    go_wp2_with fail
    refine (trim_any _ _ _ zs _ H.out h0 hl HM.out).mono ?_; rintro e w1 ⟨rfl, rfl⟩
    go_wp2_with fail
    refine (idxb_in _ _ _ _ _ (hbt.out _ rfl) rfl).mono ?_; rintro e w1 ⟨rfl, rfl⟩
    rw [← HK.out]
    go_wp2
    go_ret2
    exact ⟨rfl, rfl⟩
  · have hp : ¬ 0 ≤ k := fun h => h2 (hk.1 h)
    have e1 : cpS zs = trimZ zs := by unfold cpS; rw [if_neg (by omega), if_neg h2]
    have e2 : cpE zs = 0 := by unfold cpE; rw [if_neg (by omega), if_neg h2]
    rw [e1, e2]; clear e1 e2 hk h2
    have hc := run_str_in (P := Tryz.prog) Tryz.underlying24 Tryz.underlying5 Tryz.underlying9 (hbt.out w rfl) (trimZ zs).length cap rfl
    go_enter Tryz.func150, Tryz.ntmps150
    go_wp2_with fail
    refine (valid_any _ _).mono ?_; rintro e w' ⟨rfl, rfl⟩
    go_wp2_with fail
    refine (trim_any _ _ _ zs _ H.out h0 hl HM.out).mono ?_; rintro e w1 ⟨rfl, rfl⟩
    go_wp2_with fail
    refine (idxb_in _ _ _ _ _ (hbt.out _ rfl) rfl).mono ?_; rintro e w1 ⟨rfl, rfl⟩
    rw [← HK.out]
    go_wp2
    go_ret2
    exact ⟨rfl, rfl⟩
theorem parse_len (a : Option Addr) (len cap : Nat) (w : World) (h : len < 1 ∨ 256 < len) :
    Calls Tryz.prog 150 #[.slice a len cap] w fun e w' => e = .returned (.tuple #[.string { data := #[] }, .int .i64 2]) ∧ w = w' := by
  have hv : vwB len = false := vwB_false (by omega)
  clear h
  go_enter Tryz.func150, Tryz.ntmps150
  go_wp2_with fail
  refine (valid_any _ _).mono ?_; rintro e w' ⟨rfl, rfl⟩
  go_wp2
  go_ret2
  exact ⟨rfl, rfl⟩
theorem parse_in (a : Option Addr) (len cap : Nat) (zs : List Int) (w : World) (h : BytesIn w a zs) (hz : zs.length = len) (hl : len ≤ cap) (hm : cap ≤ maxLen) :
    Calls Tryz.prog 150 #[.slice a len cap] w fun e w' => e = .returned (.tuple #[.string (strOfNums (cpS zs)), .int .i64 (cpE zs)]) ∧ w = w' := by
  subst hz
  by_cases h1 : zs.length < 1 ∨ 256 < zs.length
  · have e1 : cpS zs = [] := by unfold cpS; rw [if_pos h1]
    have e2 : cpE zs = 2 := by unfold cpE; rw [if_pos h1]
    rw [e1, e2]; exact parse_len a _ cap w h1
  · rcases h with h | ⟨b, off, rfl, _, hr⟩
    · rw [h] at h1; simp at h1
    · exact parse_row b off cap zs w hr (by omega) (by omega) hl hm
end Go.Proofs.YtbbaleambgaanaaGreatDoor.Cst
namespace Go.Proofs.YtbbaleambgaanaaGreatDoor.Ust
open Go.RowKit
open Oct Cst Chk
def SetH (hb : Nat) (vs : List Value) (w : World) (e : Ending) (w' : World) : Prop := e = .returned (.tuple #[]) ∧ ObjAt w' hb 56 vs ∧ Out hb (hb + 1) w w'
section
variable (a : Option Addr) (n cap : Nat) (zs : List Int) (w : World) (hb : Nat) (v0 v1 v2 v3 v4 v5 : Value)
theorem pr_skip (b : Value) (hh : ObjAt w hb 56 [v0, v1, v2, v3, v4, v5]) :
    Calls Tryz.prog 105 #[.pointer (some ⟨hb, 0, none⟩), b] w (SetH hb [v0, v1, v2, v3, v4, v5] w) := by
  go_enter Tryz.func105, Tryz.ntmps105
  go_wp2
  go_end0
  exact ⟨rfl, hh, Out.refl _ _ _⟩
theorem set_out {w : World} {hb : Nat} (i : Nat) (v : Value) : Out hb (hb + 1) w (w.setCell ⟨hb, i, none⟩ v) := Out.setCell (p := ⟨hb, i, none⟩) (Out.refl hb (hb + 1) w) (Nat.le_refl _) (Nat.lt_succ_self _) v
set_option maxHeartbeats 1000000 in
theorem pr_type (T : Int) (hh : ObjAt w hb 56 [.int .u8 T, v1, v2, v3, v4, v5]) (hz : BytesIn w a zs) (hl : zs.length = 1) :
    Calls Tryz.prog 109 #[.pointer (some ⟨hb, 0, none⟩), .slice a 1 cap] w (SetH hb [.int .u8 (zs.getD 0 0), v1, v2, v3, v4, v5] w) := by
  obtain ⟨b, off, rfl, hlt, hr⟩ : ∃ b off, a = some ⟨b, off, none⟩ ∧ b < w.heap.size ∧ RowAt w b off zs := by
    rcases hz with hz | hz
    · rw [hz] at hl; cases hl
    · exact hz
  obtain ⟨z, hz0, z1, z2, hcell⟩ := hr.get 0 (by omega)
  rw [← hz0]
  have H := Lib.hid hh; have c0 := hh.get 0 rfl; have f0 := hh.frozen 0
  simp only [Nat.add_zero] at hcell
  clear hh hr hz0 hlt hz hl
  go_enter Tryz.func109, Tryz.ntmps109
  go_wp2
  go_end0
  exact ⟨rfl, H.out.set 0 _, set_out _ _⟩
set_option maxHeartbeats 1000000 in
theorem pr_name (x : ByteArray) (hh : ObjAt w hb 56 [v0, .string x, v2, v3, v4, v5]) (hz : BytesIn w a zs) (hl : zs.length = n) (hc : n ≤ cap) (hm : cap ≤ maxLen) :
    Calls Tryz.prog 101 #[.pointer (some ⟨hb, 0, none⟩), .slice a n cap] w (SetH hb [v0, .string (strOfNums (cpS zs)), v2, v3, v4, v5] w) := by
  have HP := Lib.hid (Cst.parse_in a n cap zs w hz hl hc hm)
  obtain ⟨V, hV⟩ := named (strOfNums (cpS zs))
  obtain ⟨E, hE⟩ := named (cpE zs)
  rw [← hV.out, ← hE.out] at HP
  rw [← hV.out]
  have H := Lib.hid hh; have c0 := hh.get 1 rfl; have f0 := hh.frozen 1
  clear hh hz hl hc hm hV hE
  go_enter Tryz.func101, Tryz.ntmps101
  go_wp2_with fail
  refine HP.out.mono ?_; rintro e w1 ⟨rfl, rfl⟩
  go_wp2
  go_end0
  exact ⟨rfl, H.out.set 1 _, set_out _ _⟩
set_option maxHeartbeats 1000000 in
theorem pr_prefix (x : ByteArray) (hh : ObjAt w hb 56 [v0, v1, .string x, v3, v4, v5]) (hz : BytesIn w a zs) (hl : zs.length = n) (hc : n ≤ cap) (hm : cap ≤ maxLen) :
    Calls Tryz.prog 115 #[.pointer (some ⟨hb, 0, none⟩), .slice a n cap] w (SetH hb [v0, v1, .string (strOfNums (cpS zs)), v3, v4, v5] w) := by
  have HP := Lib.hid (Cst.parse_in a n cap zs w hz hl hc hm)
  obtain ⟨V, hV⟩ := named (strOfNums (cpS zs))
  obtain ⟨E, hE⟩ := named (cpE zs)
  rw [← hV.out, ← hE.out] at HP
  rw [← hV.out]
  have H := Lib.hid hh; have c0 := hh.get 2 rfl; have f0 := hh.frozen 2
  clear hh hz hl hc hm hV hE
  go_enter Tryz.func115, Tryz.ntmps115
  go_wp2_with fail
  refine HP.out.mono ?_; rintro e w1 ⟨rfl, rfl⟩
  go_wp2
  go_end0
  exact ⟨rfl, H.out.set 2 _, set_out _ _⟩
set_option maxHeartbeats 1000000 in
theorem pr_link (x : ByteArray) (hh : ObjAt w hb 56 [v0, v1, v2, .string x, v4, v5]) (hz : BytesIn w a zs) (hl : zs.length = n) (hc : n ≤ cap) (hm : cap ≤ maxLen) :
    Calls Tryz.prog 111 #[.pointer (some ⟨hb, 0, none⟩), .slice a n cap] w (SetH hb [v0, v1, v2, .string (strOfNums (cpS zs)), v4, v5] w) := by
  have HP := Lib.hid (Cst.parse_in a n cap zs w hz hl hc hm)
  obtain ⟨V, hV⟩ := named (strOfNums (cpS zs))
  obtain ⟨E, hE⟩ := named (cpE zs)
  rw [← hV.out, ← hE.out] at HP
  rw [← hV.out]
  have H := Lib.hid hh; have c0 := hh.get 3 rfl; have f0 := hh.frozen 3
  clear hh hz hl hc hm hV hE
  go_enter Tryz.func111, Tryz.ntmps111
  go_wp2_with fail
  refine HP.out.mono ?_; rintro e w1 ⟨rfl, rfl⟩
  go_wp2
  go_end0
  exact ⟨rfl, H.out.set 3 _, set_out _ _⟩
set_option maxHeartbeats 1000000 in
theorem pr_mode (x : Int) (hh : ObjAt w hb 56 [v0, v1, v2, v3, .int .i64 x, v5]) (hz : BytesIn w a zs) (hl : zs.length = n) (hc : n ≤ cap) (hm : cap ≤ maxLen) :
    Calls Tryz.prog 103 #[.pointer (some ⟨hb, 0, none⟩), .slice a n cap] w (SetH hb [v0, v1, v2, v3, .int .i64 (pzV zs), v5] w) := by
  have HP := Lib.hid (Oct.parse_in a n cap zs w hz hl (Nat.le_trans hc hm))
  obtain ⟨V, hV⟩ := named (pzV zs)
  obtain ⟨E, hE⟩ := named (pzE zs)
  rw [← hV.out, ← hE.out] at HP
  rw [← hV.out]
  have H := Lib.hid hh; have c0 := hh.get 4 rfl; have f0 := hh.frozen 4
  clear hh hz hl hc hm hV hE
  go_enter Tryz.func103, Tryz.ntmps103
  go_wp2_with fail
  refine HP.out.mono ?_; rintro e w1 ⟨rfl, rfl⟩
  go_wp2
  go_end0
  exact ⟨rfl, H.out.set 4 _, set_out _ _⟩
set_option maxHeartbeats 1000000 in
theorem pr_size (x : Int) (hh : ObjAt w hb 56 [v0, v1, v2, v3, v4, .int .i64 x]) (hz : BytesIn w a zs) (hl : zs.length = n) (hc : n ≤ cap) (hm : cap ≤ maxLen) :
    Calls Tryz.prog 107 #[.pointer (some ⟨hb, 0, none⟩), .slice a n cap] w (SetH hb [v0, v1, v2, v3, v4, .int .i64 (pzV zs)] w) := by
  have HP := Lib.hid (Oct.parse_in a n cap zs w hz hl (Nat.le_trans hc hm))
  obtain ⟨V, hV⟩ := named (pzV zs)
  obtain ⟨E, hE⟩ := named (pzE zs)
  rw [← hV.out, ← hE.out] at HP
  rw [← hV.out]
  have H := Lib.hid hh; have c0 := hh.get 5 rfl; have f0 := hh.frozen 5
  clear hh hz hl hc hm hV hE
  go_enter Tryz.func107, Tryz.ntmps107
  go_wp2_with fail
  refine HP.out.mono ?_; rintro e w1 ⟨rfl, rfl⟩
  go_wp2
  go_end0
  exact ⟨rfl, H.out.set 5 _, set_out _ _⟩
end
end Go.Proofs.YtbbaleambgaanaaGreatDoor.Ust
namespace Go.Proofs.YtbbaleambgaanaaGreatDoor.Chk
open Go.RowKit
open Oct
set_option maxHeartbeats 1000000 in
theorem ver_bad (a : Option Addr) (len cap : Nat) (w : World) (hl : ¬ len = 512) :
    Calls Tryz.prog 72 #[.slice a len cap] w fun e w' => e = .returned (.int .i64 2) ∧ Below w.heap.size w w' := by
  have HL := Lib.hid hl; clear hl
  have HT := Lib.hid hdrT
  go_enter Tryz.func72, Tryz.ntmps72
  go_wp2_with fail
  refine (conv_bad a len cap _ HL.out).mono ?_; rintro e w1 ⟨rfl, b1⟩
  have B1 := Lib.hid b1; clear b1
  go_wp2_with (first | (refine wpList_alloc_arr rfl 182 5 512 HT.out rfl ?_; intro w2 h2 b2; have H2 := Lib.hid h2; have B2 := Lib.hid b2; clear h2 b2) | (refine wpList_store_arr rfl 182 5 512 HT.out _ _ rfl w1.heap.size rfl (zeros 512) rfl (zeros_bytes _) (zeros_length _) 182 (zeros 512) H2.out (zeros_length _) ?_; intro w3 h3 t3; have H3 := Lib.hid h3; have T3 := Lib.hid t3; clear h3 t3))
  go_ret
  exact ⟨rfl, B1.out.trans ((B2.out.trans (T3.out.below (Nat.le_refl _))).mono B1.out.size)⟩
set_option maxHeartbeats 1000000 in
theorem ver_ok (a : Option Addr) (cap : Nat) (zs : List Int) (w : World) (v : Int) (hl : zs.length = 512) (hb : BytesIn w a zs) (hz : Bytes zs) (hv : (zs = sealZ zs ∧ v = 0) ∨ (¬ zs = sealZ zs ∧ v = 9)) :
    Calls Tryz.prog 72 #[.slice a 512 cap] w fun e w' => e = .returned (.int .i64 v) ∧ Below w.heap.size w w' := by
  have HL := Lib.hid hl; clear hl
  have HB := Lib.hid hb; clear hb
  have HZ := Lib.hid hz; clear hz
  have HT := Lib.hid hdrT
  go_enter Tryz.func72, Tryz.ntmps72
  go_wp2_with fail
  refine (conv_ok a cap zs _ HL.out HB.out).mono ?_; rintro e w1 ⟨rfl, b1⟩
  have B1 := Lib.hid b1; clear b1
  go_wp2_with (first | (refine wpList_alloc_arr rfl 182 5 512 HT.out rfl ?_; intro w2 h2 b2; have H2 := Lib.hid h2; have B2 := Lib.hid b2; clear h2 b2) | (refine wpList_store_arr rfl 182 5 512 HT.out _ _ rfl w1.heap.size rfl zs rfl HZ.out HL.out 182 (zeros 512) H2.out (zeros_length _) ?_; intro w3 h3 t3; have H3 := Lib.hid h3; have T3 := Lib.hid t3; clear h3 t3))
  have B13 : Hid (Below w.heap.size w w3) := B1.out.trans ((B2.out.trans (T3.out.below (Nat.le_refl _))).mono B1.out.size)
  have HQ : Hid (∀ w, (∃ q : Of (fun w' => Below w3.heap.size w3 w'), w = q.w) → RowAt w w1.heap.size 0 zs) := by
    rintro w ⟨q, rfl⟩
    exact (H3.out.below q.h H3.out.lt).row
  have hq : Tryz.prog.eqGuardType Tryz.prog.depth 182 = false := by kernel_rfl
  rcases hv with ⟨hv, rfl⟩ | ⟨hv, rfl⟩
  · have hne : ∀ w, (binOp .neq 182 (.agg (arr zs)) (.agg (arr (sealZ zs)))).run Tryz.prog w = .ok (.bool false) w := fun w => by
      rw [run_neq_arr (P := Tryz.prog) (w := w) HT.out zs (sealZ zs) HL.out (seal_length HL.out), decide_eq_true hv]; rfl
    clear hv
    refine wp_region_class (S := fun w' => Below w3.heap.size w3 w') (by kernel_rfl) (by kernel_rfl) (Below.refl _ _).drew ?_
    intro hn0
    repeat (first | (go_big_quiet_want; (with_reducible refine quiet_load_arr 182 5 512 HT.out _ rfl w1.heap.size 0 rfl zs HQ.out HL.out ?_); go_big_quiet_on; go_frame) | go_big_quiet_step ((go_at_call 117; exact Calls.in_class (hseal_any zs _ HL.out HZ.out) fun w' hb q => q.trans (hb.mono q.size))))
    refine wpQuiet_nil ?_
    rintro wq ⟨q, rfl⟩
    go_wp2
    go_ret
    exact ⟨rfl, B13.out.trans (q.h.mono B13.out.size)⟩
  · have hne : ∀ w, (binOp .neq 182 (.agg (arr zs)) (.agg (arr (sealZ zs)))).run Tryz.prog w = .ok (.bool true) w := fun w => by
      rw [run_neq_arr (P := Tryz.prog) (w := w) HT.out zs (sealZ zs) HL.out (seal_length HL.out), decide_eq_false hv]; rfl
    clear hv
    refine wp_region_class (S := fun w' => Below w3.heap.size w3 w') (by kernel_rfl) (by kernel_rfl) (Below.refl _ _).drew ?_
    intro hn0
    repeat (first | (go_big_quiet_want; (with_reducible refine quiet_load_arr 182 5 512 HT.out _ rfl w1.heap.size 0 rfl zs HQ.out HL.out ?_); go_big_quiet_on; go_frame) | go_big_quiet_step ((go_at_call 117; exact Calls.in_class (hseal_any zs _ HL.out HZ.out) fun w' hb q => q.trans (hb.mono q.size))))
    refine wpQuiet_nil ?_
    rintro wq ⟨q, rfl⟩
    go_wp2
    go_ret
    exact ⟨rfl, B13.out.trans (q.h.mono B13.out.size)⟩
end Go.Proofs.YtbbaleambgaanaaGreatDoor.Chk
