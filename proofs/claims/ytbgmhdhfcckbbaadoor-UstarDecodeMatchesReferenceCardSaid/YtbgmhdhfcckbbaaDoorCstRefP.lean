/-
  Walks of the reference's Parse.
-/
import Derived.Test.YtbgmhdhfcckbbaaDoorCstParse
namespace Go.Proofs.YtbgmhdhfcckbbaaDoor.Cst
open Go.RowKit

set_option maxHeartbeats 1000000 in
theorem rparse_len (a : Option Addr) (len cap : Nat) (w : World) (h : len < 1 ∨ 256 < len) (hm : len ≤ maxLen) :
    Calls Tryd.prog 30 #[.slice a len cap] w fun e w' => e = .returned (.tuple #[.string { data := #[] }, .int .i64 2]) ∧ w = w' := by
  unfold maxLen at hm
  by_cases h1 : len < 1
  · have h1' : (len : Int) < 1 := by omega
    clear h
    go_enter Tryd.func30, Tryd.ntmps30
    go_wp2
    go_ret2
    exact ⟨rfl, rfl⟩
  · have h1' : ¬ (len : Int) < 1 := by omega
    have h2' : (256 : Int) < len := by omega
    clear h
    go_enter Tryd.func30, Tryd.ntmps30
    go_wp2
    go_ret2
    exact ⟨rfl, rfl⟩

theorem trimZ_pre (zs : List Int) : zs.take (trimZ zs).length = trimZ zs := by
  obtain ⟨m, hm⟩ := trimZ_back zs
  have := congrArg (List.take (trimZ zs).length) hm
  rw [List.take_left' rfl] at this
  exact this

set_option maxHeartbeats 2000000 in
theorem rparse_row (b off cap : Nat) (zs : List Int) (w : World) (h : RowAt w b off zs) (h0 : 1 ≤ zs.length) (h1 : zs.length ≤ 256) (hl : zs.length ≤ cap) (hm : cap ≤ maxLen) :
    Calls Tryd.prog 30 #[.slice (some ⟨b, off, none⟩) zs.length cap] w fun e w' => e = .returned (.tuple #[.string (strOfNums (cpS zs)), .int .i64 (cpE zs)]) ∧ w = w' := by
  have H := Lib.hid h; clear h
  unfold maxLen at hm
  have h2 : ¬ (zs.length : Int) < 1 := by omega
  have h3 : ¬ (256 : Int) < zs.length := by omega
  have e0 : ¬ (zs.length < 1 ∨ 256 < zs.length) := by omega
  have HS : Hid ((0 : Int) ∈ trimZ zs → strOfNums (cpS zs) = { data := #[] } ∧ cpE zs = 6) := fun h =>
    ⟨by unfold cpS; rw [if_neg e0, if_pos h]; rfl, by unfold cpE; rw [if_neg e0, if_pos h]⟩
  have HT : Hid ((0 : Int) ∉ trimZ zs → cpS zs = trimZ zs ∧ cpE zs = 0) := fun h =>
    ⟨by unfold cpS; rw [if_neg e0, if_neg h], by unfold cpE; rw [if_neg e0, if_neg h]⟩
  clear e0
  go_enter Tryd.func30, Tryd.ntmps30
  go_wp2
  go_loop [4] (fun t => ∃ j : Nat, j ≤ zs.length ∧ t = .int .i64 j ∧ trimZ (zs.take j) = trimZ zs) (fun t => (intOf t).toNat)
  case atStart => exact ⟨zs.length, Nat.le_refl _, rfl, by rw [List.take_length]⟩
  case round =>
    obtain ⟨j, hj, rfl, ht⟩ := hrel
    have HQ := Lib.hid ht; clear ht
    by_cases hstop : ∃ k, j = k + 1 ∧ zs.getD k 0 = 0
    · obtain ⟨k, rfl, hk0⟩ := hstop
      obtain ⟨d, hd, d2, d3, hc⟩ := H.out.get k (by omega)
      obtain rfl : d = 0 := hd.trans hk0
      have HN : Hid (trimZ (zs.take k) = trimZ zs) := by
        show _ = _; rw [← HQ.out, take_snoc' (by omega), hk0, trimZ_snoc_zero]
      clear hd hk0
      go_wp2
      go_round
      case rel => exact ⟨k, by omega, by go_num, HN.out⟩
      case measure => simp [intOf]
    · have HE : Hid (zs.take j = trimZ zs ∧ (trimZ zs).length = j) := by
        have e : zs.take j = trimZ zs := by
          rw [← HQ.out]
          rcases j with _ | k
          · rfl
          · rw [take_snoc' (by omega), trimZ_snoc_ne]
            exact fun h => hstop ⟨k, rfl, h⟩
        refine ⟨e, ?_⟩
        rw [← e, List.length_take]; omega
      have HX : Hid (∀ k, j = k + 1 → (zs.getD k 0 == 0) = false) := fun k hk => by
        have : zs.getD k 0 ≠ 0 := fun h => hstop ⟨k, hk, h⟩
        simpa using this
      clear hstop HQ
      -- the second loop
      rcases j with _ | k
      · have hf : Hid ((0 : Int) ∉ trimZ zs) := by show _ ∉ _; rw [← HE.out.1]; simp
        have hc := run_str_in (P := Tryd.prog) (w := w) Tryd.underlying26 Tryd.underlying5 Tryd.underlying9 (a := some ⟨b, off, none⟩) (zs := []) (.inl rfl) 0 cap rfl
        go_wp2
        go_loop [5] (fun i => i = .int .i64 0) (fun _ => 0)
        case atStart => rfl
        case round =>
          subst hrel
          go_wp2
          go_ret2
          refine ⟨?_, rfl⟩
          rw [(HT.out hf.out).1, (HT.out hf.out).2, ← HE.out.1]
          rfl
      · obtain ⟨d, hd, d2, d3, hc⟩ := H.out.get k (by omega)
        have hd0 : (d == 0) = false := by rw [hd]; exact HX.out k rfl
        have HD := Lib.hid hd; clear hd
        go_wp2
        have hbt : Hid (BytesIn w (some ⟨b, off, none⟩) (trimZ zs)) := by
          have hlt : b < w.heap.size := by
            have := H.out.1 0 h0
            rcases Nat.lt_or_ge b w.heap.size with h | h
            · exact h
            · rw [World.cell?] at this
              simp [Array.getElem?_eq_none h] at this
          exact .inr ⟨b, off, rfl, hlt, H.out.trim⟩
        clear hc hd0 d2 d3
        go_loop [5] (fun i => ∃ l : Nat, l ≤ k + 1 ∧ i = .int .i64 l ∧ (0 : Int) ∉ zs.take l) (fun i => k + 1 - (intOf i).toNat)
        case atStart => exact ⟨0, Nat.zero_le _, rfl, by simp⟩
        case round =>
          obtain ⟨l, hl', rfl, hnz⟩ := hrel
          have HNZ := Lib.hid hnz; clear hnz
          by_cases hlt : l < k + 1
          · obtain ⟨x, hx, x2, x3, hcx⟩ := H.out.get l (by omega)
            have HXX := Lib.hid hx; clear hx
            have hlt' : (l : Int) < (k : Int) + 1 := by omega
            by_cases hx0 : x = 0
            · subst hx0
              have hin : Hid ((0 : Int) ∈ trimZ zs) := by
                show _ ∈ _
                rw [← HE.out.1, HXX.out, List.getD_eq_getElem?_getD, List.getElem?_eq_getElem (by omega)]
                exact List.mem_take_iff_getElem.2 ⟨l, by omega, rfl⟩
              go_wp2
              go_ret2
              exact ⟨by rw [(HS.out hin.out).1, (HS.out hin.out).2]; rfl, rfl⟩
            · have hx0' : (x == 0) = false := by simpa using hx0
              have HNN : Hid ((0 : Int) ∉ zs.take (l + 1)) := by
                show _ ∉ _
                rw [take_snoc' (by omega), ← HXX.out]
                intro h
                rcases List.mem_append.1 h with h | h
                · exact HNZ.out h
                · exact hx0 (List.mem_singleton.1 h).symm
              clear hx0
              go_wp2
              go_round
              case rel => exact ⟨l + 1, by omega, by go_num, HNN.out⟩
              case measure => simp [intOf]; omega
          · obtain rfl : l = k + 1 := by omega
            have hf : Hid ((0 : Int) ∉ trimZ zs) := by show _ ∉ _; rw [← HE.out.1]; exact HNZ.out
            have hcv := run_str_in (P := Tryd.prog) Tryd.underlying26 Tryd.underlying5 Tryd.underlying9 hbt.out (k + 1) cap HE.out.2
            go_wp2
            go_ret2
            exact ⟨by rw [(HT.out hf.out).1, (HT.out hf.out).2]; rfl, rfl⟩

theorem rparse_in (a : Option Addr) (len cap : Nat) (zs : List Int) (w : World) (h : BytesIn w a zs) (hz : zs.length = len) (hl : len ≤ cap) (hm : cap ≤ maxLen) :
    Calls Tryd.prog 30 #[.slice a len cap] w fun e w' => e = .returned (.tuple #[.string (strOfNums (cpS zs)), .int .i64 (cpE zs)]) ∧ w = w' := by
  subst hz
  by_cases h1 : zs.length < 1 ∨ 256 < zs.length
  · have e1 : cpS zs = [] := by unfold cpS; rw [if_pos h1]
    have e2 : cpE zs = 2 := by unfold cpE; rw [if_pos h1]
    rw [e1, e2]; exact rparse_len a _ cap w h1 (Nat.le_trans hl hm)
  · rcases h with h | ⟨b, off, rfl, _, hr⟩
    · rw [h] at h1; simp at h1
    · exact rparse_row b off cap zs w hr (by omega) (by omega) hl hm

end Go.Proofs.YtbgmhdhfcckbbaaDoor.Cst
