/-
  Walks of cstring.Parse and of the library's TrimRight and IndexByte at slices of bytes.
-/
import Derived.Test.YtbgmhdhfcckbbaaDoorCstSmall
namespace Go.Proofs.YtbgmhdhfcckbbaaDoor.Cst
open Go.RowKit

theorem _root_.Go.Proofs.YtbgmhdhfcckbbaaDoor.RowAt.front {w : World} {b off : Nat} {zs ys : List Int} (h : RowAt w b off zs) {m : Nat} (e : zs = ys ++ List.replicate m 0) : RowAt w b off ys := by
  subst e
  refine ⟨fun i hi => ?_, fun z hz => h.2 z (List.mem_append_left _ hz)⟩
  have := h.1 i (by rw [List.length_append]; omega)
  rwa [List.getD_eq_getElem?_getD, List.getElem?_append_left hi, ← List.getD_eq_getElem?_getD] at this

theorem _root_.Go.Proofs.YtbgmhdhfcckbbaaDoor.RowAt.trim {w : World} {b off : Nat} {zs : List Int} (h : RowAt w b off zs) : RowAt w b off (trimZ zs) := by
  obtain ⟨m, hm⟩ := trimZ_back zs
  exact h.front hm

set_option maxHeartbeats 1000000 in
theorem trimByte (b off cap : Nat) (zs : List Int) (w : World) (h : RowAt w b off zs) (hl : zs.length ≤ cap) (hm : cap ≤ maxLen) :
    Calls Tryd.prog 82 #[.slice (some ⟨b, off, none⟩) zs.length cap, .int .u8 0] w fun e w' => e = .returned (.slice (some ⟨b, off, none⟩) (trimZ zs).length cap) ∧ w = w' := by
  unfold maxLen at hm
  have H := Lib.hid h; clear h
  go_enter Tryd.func82, Tryd.ntmps82
  go_wp2
  go_loop [0] (fun t => ∃ j : Nat, j ≤ zs.length ∧ t = .slice (some ⟨b, off, none⟩) j cap ∧ trimZ (zs.take j) = trimZ zs) (fun t => match t with | .slice _ n _ => n | _ => 0)
  case atStart => exact ⟨zs.length, Nat.le_refl _, rfl, by rw [List.take_length]⟩
  case round =>
    obtain ⟨j, hj, rfl, ht⟩ := hrel
    have HT := Lib.hid ht; clear ht
    rcases j with _ | k
    · have HE : Hid ((trimZ zs).length = 0) := by show _ = _; rw [← HT.out]; rfl
      go_wp2
      go_ret
      exact ⟨by rw [HE.out]; rfl, rfl⟩
    · obtain ⟨d, hd, d2, d3, hc⟩ := H.out.get k (by omega)
      have HD := Lib.hid hd; clear hd
      by_cases h0 : d = 0
      · subst h0
        have HN : Hid (trimZ (zs.take k) = trimZ zs) := by
          show _ = _; rw [← HT.out, take_snoc' (by omega), ← HD.out, trimZ_snoc_zero]
        go_wp2
        go_round
        case rel => exact ⟨k, by omega, rfl, HN.out⟩
        case measure => simp
      · have h0' : (d == 0) = false := by simpa using h0
        have HE : Hid ((trimZ zs).length = k + 1) := by
          show _ = _; rw [← HT.out, take_snoc' (by omega), ← HD.out, trimZ_snoc_ne _ h0]; simp; omega
        clear h0
        go_wp2
        go_ret
        exact ⟨by rw [HE.out]; rfl, rfl⟩

set_option maxRecDepth 10000 in
set_option maxHeartbeats 1000000 in
theorem trim_any (b off cap : Nat) (zs : List Int) (w : World) (h : RowAt w b off zs) (h0 : 0 < zs.length) (hl : zs.length ≤ cap) (hm : cap ≤ maxLen) :
    Calls Tryd.prog 78 #[.slice (some ⟨b, off, none⟩) zs.length cap, .string { data := #[0] }] w fun e w' => e = .returned (.slice (some ⟨b, off, none⟩) (trimZ zs).length cap) ∧ w = w' := by
  have H := Lib.hid h; clear h
  have HM := Lib.hid hm; clear hm
  have h1 : ((zs.length : Int) == 0) = false := beq_eq_false_iff_ne.2 (by omega)
  go_enter Tryd.func78, Tryd.ntmps78
  go_wp2_with fail
  refine (trimByte _ _ _ zs _ H.out hl HM.out).mono ?_; rintro e w1 ⟨rfl, rfl⟩
  go_wp2
  go_ret
  exact ⟨rfl, rfl⟩

set_option maxRecDepth 20000 in
set_option maxHeartbeats 1000000 in
theorem idxb_in (a : Option Addr) (n cap : Nat) (zs : List Int) (w : World) (h : BytesIn w a zs) (hn : zs.length = n) :
    Calls Tryd.prog 79 #[.slice a n cap, .int .u8 0] w fun e w' => e = .returned (.int .i64 (Lib.indexByte (Lib.bytesOf zs) 0)) ∧ w = w' := by
  go_enter Tryd.func79, Tryd.ntmps79
  go_wp2
  rw [run_callFunc_extern Tryd.func86 (by kernel_rfl) (by kernel_rfl) (by kernel_rfl) (e := Extern.BytealgIndexByte.indexByte) (by kernel_rfl), run_indexByteIn h n cap hn 0]
  simp only [Result.andThen]
  rw [Oper.upon_value]
  go_wp2
  go_ret
  exact ⟨rfl, rfl⟩

set_option maxRecDepth 100000 in
set_option maxHeartbeats 1000000 in
theorem parse_row (b off cap : Nat) (zs : List Int) (w : World) (h : RowAt w b off zs) (h0 : 1 ≤ zs.length) (h1 : zs.length ≤ 256) (hl : zs.length ≤ cap) (hm : cap ≤ maxLen) :
    Calls Tryd.prog 69 #[.slice (some ⟨b, off, none⟩) zs.length cap] w fun e w' => e = .returned (.tuple #[.string (strOfNums (cpS zs)), .int .i64 (cpE zs)]) ∧ w = w' := by
  have H := Lib.hid h; clear h
  have HM := Lib.hid hm; clear hm
  have hv : vwB zs.length = true := vwB_true (by omega) (by omega)
  obtain ⟨k, HK⟩ := named (Lib.indexByte (Lib.bytesOf (trimZ zs)) 0)
  have hk := idx_bytes (trimZ zs) (trimZ_bd zs H.out.2)
  rw [← HK.out] at hk
  have hbt : Hid (∀ w', w = w' → BytesIn w' (some ⟨b, off, none⟩) (trimZ zs)) := fun w' e => by
    subst e
    have hlt : b < w.heap.size := by
      have := H.out.1 0 h0
      rcases Nat.lt_or_ge b w.heap.size with h | h
      · exact h
      · rw [World.cell?] at this
        simp [Array.getElem?_eq_none h] at this
    exact .inr ⟨b, off, rfl, hlt, H.out.trim⟩
  by_cases h2 : (0 : Int) ∈ trimZ zs
  · have hp := hk.2 h2
    have e1 : cpS zs = [] := by unfold cpS; rw [if_neg (by omega), if_pos h2]
    have e2 : cpE zs = 6 := by unfold cpE; rw [if_neg (by omega), if_pos h2]
    rw [e1, e2]; clear e1 e2 hk h2
    go_enter Tryd.func69, Tryd.ntmps69
    go_wp2_with fail
    refine (valid_any _ _).mono ?_; rintro e w' ⟨rfl, rfl⟩
    go_wp2_with fail
    refine (trim_any _ _ _ zs _ H.out h0 hl HM.out).mono ?_; rintro e w1 ⟨rfl, rfl⟩
    go_wp2_with fail
    refine (idxb_in _ _ _ _ _ (hbt.out _ rfl) rfl).mono ?_; rintro e w1 ⟨rfl, rfl⟩
    rw [← HK.out]
    go_wp2
    go_ret2
    exact ⟨rfl, rfl⟩
  · have hp : ¬ 0 ≤ k := fun h => h2 (hk.1 h)
    have e1 : cpS zs = trimZ zs := by unfold cpS; rw [if_neg (by omega), if_neg h2]
    have e2 : cpE zs = 0 := by unfold cpE; rw [if_neg (by omega), if_neg h2]
    rw [e1, e2]; clear e1 e2 hk h2
    have hc := run_str_in (P := Tryd.prog) Tryd.underlying26 Tryd.underlying5 Tryd.underlying9 (hbt.out w rfl) (trimZ zs).length cap rfl
    go_enter Tryd.func69, Tryd.ntmps69
    go_wp2_with fail
    refine (valid_any _ _).mono ?_; rintro e w' ⟨rfl, rfl⟩
    go_wp2_with fail
    refine (trim_any _ _ _ zs _ H.out h0 hl HM.out).mono ?_; rintro e w1 ⟨rfl, rfl⟩
    go_wp2_with fail
    refine (idxb_in _ _ _ _ _ (hbt.out _ rfl) rfl).mono ?_; rintro e w1 ⟨rfl, rfl⟩
    rw [← HK.out]
    go_wp2
    go_ret2
    exact ⟨rfl, rfl⟩

theorem parse_len (a : Option Addr) (len cap : Nat) (w : World) (h : len < 1 ∨ 256 < len) :
    Calls Tryd.prog 69 #[.slice a len cap] w fun e w' => e = .returned (.tuple #[.string { data := #[] }, .int .i64 2]) ∧ w = w' := by
  have hv : vwB len = false := vwB_false (by omega)
  clear h
  go_enter Tryd.func69, Tryd.ntmps69
  go_wp2_with fail
  refine (valid_any _ _).mono ?_; rintro e w' ⟨rfl, rfl⟩
  go_wp2
  go_ret2
  exact ⟨rfl, rfl⟩

theorem parse_in (a : Option Addr) (len cap : Nat) (zs : List Int) (w : World) (h : BytesIn w a zs) (hz : zs.length = len) (hl : len ≤ cap) (hm : cap ≤ maxLen) :
    Calls Tryd.prog 69 #[.slice a len cap] w fun e w' => e = .returned (.tuple #[.string (strOfNums (cpS zs)), .int .i64 (cpE zs)]) ∧ w = w' := by
  subst hz
  by_cases h1 : zs.length < 1 ∨ 256 < zs.length
  · have e1 : cpS zs = [] := by unfold cpS; rw [if_pos h1]
    have e2 : cpE zs = 2 := by unfold cpE; rw [if_pos h1]
    rw [e1, e2]; exact parse_len a _ cap w h1
  · rcases h with h | ⟨b, off, rfl, _, hr⟩
    · rw [h] at h1; simp at h1
    · exact parse_row b off cap zs w hr (by omega) (by omega) hl hm

end Go.Proofs.YtbgmhdhfcckbbaaDoor.Cst
