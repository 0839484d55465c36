/-
  Walks of the reference's Format.
-/
import Derived.Test.YtbgmhdhfcckbbaaDoorCstFormat
import Derived.Test.YtbgmhdhfcckbbaaDoorGenC
import Derived.Deep.DeepMust
namespace Go.Proofs.YtbgmhdhfcckbbaaDoor.Cst
open Go.RowKit

theorem bt_nums (s : ByteArray) (j : Nat) (h : j < s.size) : (numsOf s)[j]? = some (s[j].toNat : Int) := by
  rw [numsOf_eq, List.getElem?_map, Array.getElem?_toList]
  have : s.data[j]? = some s[j] := Array.getElem?_eq_getElem h
  rw [this]; rfl

set_option maxHeartbeats 1000000 in
theorem rfmt_width (s : ByteArray) (wd : Int) (w : World) (h : wd < 1 ∨ 256 < wd) :
    Calls Tryd.prog 58 #[.string s, .int .i64 wd] w fun e w' => e = .returned (.tuple #[.slice none 0 0, .int .i64 2]) ∧ w = w' := by
  by_cases h1 : wd < 1
  · clear h
    go_enter Tryd.func58, Tryd.ntmps58
    go_wp2
    go_ret2
    exact ⟨rfl, rfl⟩
  · have h2 : 256 < wd := by omega
    clear h
    go_enter Tryd.func58, Tryd.ntmps58
    go_wp2
    go_ret2
    exact ⟨rfl, rfl⟩

set_option maxHeartbeats 1000000 in
theorem rfmt_nul (s : ByteArray) (wd : Int) (w : World) (h1 : 1 ≤ wd) (h2 : wd ≤ 256) (hs : s.size ≤ maxLen) (hz : (0 : Int) ∈ numsOf s) :
    Calls Tryd.prog 58 #[.string s, .int .i64 wd] w fun e w' => e = .returned (.tuple #[.slice none 0 0, .int .i64 6]) ∧ w = w' := by
  unfold maxLen at hs
  have HZ := Lib.hid hz; clear hz
  go_enter Tryd.func58, Tryd.ntmps58
  go_wp2
  go_loop [6] (fun i => ∃ j : Nat, j ≤ s.size ∧ i = .int .i64 j ∧ (0 : Int) ∉ (numsOf s).take j) (fun i => s.size + 1 - (intOf i).toNat)
  case atStart => exact ⟨0, Nat.zero_le _, rfl, by simp⟩
  case round =>
    obtain ⟨j, hj, rfl, hoj⟩ := hrel
    have HJ := Lib.hid hoj; clear hoj
    by_cases hlt : j < s.size
    · have HB := Lib.hid (bt_nums s j hlt)
      by_cases hb : ((s[j].toNat : Int) == 0) = true
      · go_wp2
        go_ret2
        exact ⟨rfl, rfl⟩
      · have hb' : ((s[j].toNat : Int) == 0) = false := by simpa using hb
        clear hb
        have HN : Hid ((0 : Int) ∉ (numsOf s).take (j + 1)) := by
          show (0 : Int) ∉ _
          rw [take_snoc' (by rw [numsOf_length]; exact hlt), List.getD_eq_getElem?_getD, HB.out]
          intro h
          rcases List.mem_append.1 h with h | h
          · exact HJ.out h
          · have e : (0 : Int) = (s[j].toNat : Int) := by simpa using h
            rw [← e] at hb'; simp at hb'
        go_wp2
        go_round
        case rel => exact ⟨j + 1, by omega, by go_num, HN.out⟩
        case measure => simp [intOf]; omega
    · exfalso
      have := HJ.out
      rw [List.take_of_length_le (by rw [numsOf_length]; omega)] at this
      exact this HZ.out

theorem nul_ne (s : ByteArray) (hz : (0 : Int) ∉ numsOf s) : ∀ j (h : j < s.size), ((s[j].toNat : Int) == 0) = false := by
  intro j h
  have hb := bt_nums s j h
  by_cases hc : (s[j].toNat : Int) = 0
  · exfalso; apply hz; rw [hc] at hb; exact List.mem_of_getElem? hb
  · simpa using hc

set_option maxHeartbeats 1000000 in
theorem rfmt_long (s : ByteArray) (k : Int) (w : World) (h1 : 1 ≤ k) (h2 : k ≤ 256) (hs : s.size ≤ maxLen) (hz : (0 : Int) ∉ numsOf s) (hk : k < s.size) :
    Calls Tryd.prog 58 #[.string s, .int .i64 k] w fun e w' => e = .returned (.tuple #[.slice none 0 0, .int .i64 7]) ∧ w = w' := by
  unfold maxLen at hs
  have HNE := Lib.hid (nul_ne s hz); clear hz
  go_enter Tryd.func58, Tryd.ntmps58
  go_wp2
  go_loop [6] (fun i => ∃ j : Nat, j ≤ s.size ∧ i = .int .i64 j) (fun i => s.size + 1 - (intOf i).toNat)
  case atStart => exact ⟨0, Nat.zero_le _, rfl⟩
  case round =>
    obtain ⟨j, hj, rfl⟩ := hrel
    by_cases hlt : j < s.size
    · have hb' := HNE.out j hlt
      go_wp2
      go_round
      case rel => exact ⟨j + 1, by omega, by go_num⟩
      case measure => simp [intOf]; omega
    · obtain rfl : j = s.size := by omega
      go_wp2
      go_ret2
      exact ⟨rfl, rfl⟩

set_option maxRecDepth 100000 in
set_option maxHeartbeats 1000000 in
theorem rfmt_ok (s : ByteArray) (k : Nat) (w : World) (h1 : (1 : Int) ≤ k) (h2 : (k : Int) ≤ 256) (hz : (0 : Int) ∉ numsOf s) (hk : s.size ≤ k) :
    Calls Tryd.prog 58 #[.string s, .int .i64 k] w (RetBytes (fldS (numsOf s) k) k 0 w) := by
  have HNE := Lib.hid (nul_ne s hz); clear hz
  obtain ⟨i0, HI⟩ := info_u8 Tryd.info5
  obtain ⟨v0, w2, hrun, hbuf, hb2⟩ := run_bytes_buf (P := Tryd.prog) w Tryd.underlying9 Tryd.underlying26 Tryd.underlying5 s (by unfold maxLen; omega)
  have HB := Lib.hid hbuf; clear hbuf
  have HS := Lib.hid (numsOf_length s)
  go_enter Tryd.func58, Tryd.ntmps58
  go_wp2
  go_loop [6] (fun i => ∃ j : Nat, j ≤ s.size ∧ i = .int .i64 j) (fun i => s.size + 1 - (intOf i).toNat)
  case atStart => exact ⟨0, Nat.zero_le _, rfl⟩
  case round =>
    obtain ⟨j, hj, rfl⟩ := hrel
    by_cases hlt : j < s.size
    · have hb' := HNE.out j hlt
      go_wp2
      go_round
      case rel => exact ⟨j + 1, by omega, by go_num⟩
      case measure => simp [intOf]; omega
    · obtain rfl : j = s.size := by omega
      have hk' : ¬ (k : Int) < s.size := by omega
      go_wp2
      go_loopw [7] (fun v wr => ∃ j : Nat, s.size + j ≤ k ∧ Buf wr w.heap.size v (numsOf s ++ List.replicate j 0) ∧ Below w.heap.size w wr ∧ ∃ b cap, v = .slice (some ⟨b, 0, none⟩) (s.size + j) cap) (fun v _ => match v with | .slice _ n _ => k + 1 - n | _ => 0)
      case atStart =>
        refine ⟨0, hk, by simpa using HB.out, hb2, ?_⟩
        obtain ⟨b, cap, e, _⟩ := HB.out
        rw [HS.out] at e
        exact ⟨b, cap, e⟩
      case round =>
        obtain ⟨j, hj, hbuf, hbel, b, cap, rfl⟩ := hrel
        have HBU := Lib.hid hbuf; clear hbuf
        by_cases hlt : s.size + j < k
        · have hlt' : ((s.size + j : Nat) : Int) < k := by omega
          have hb3 := HBU.out.alloc (.cells #[.int .u8 0] 5)
          have h1b := BytesIn.new_one wr 0 5 (by omega) (by omega)
          go_wp2_with (first | (at_builtin; refine wpList_append_buf rfl _ _ 26 rfl w.heap.size 5 i0 Tryd.underlying26 HI _ _ rfl hb3 _ 1 1 [0] rfl h1b rfl (by simp [HS.out]; omega) (Nat.le_trans hbel.size (by simp)) ?_; intro v' w3 hbuf3 hbel3))
          go_roundw
          case rel =>
            refine ⟨j + 1, by omega, ?_, (hbel.alloc hbel.size _).trans hbel3, ?_⟩
            · rw [List.append_assoc, ← List.replicate_succ'] at hbuf3; exact hbuf3
            · obtain ⟨b, cap, e, _⟩ := hbuf3
              rw [e]
              exact ⟨b, cap, by simp [HS.out]⟩
          case measure =>
            obtain ⟨b, cap, e, _⟩ := hbuf3
            rw [e]; simp [HS.out]; omega
        · have hlt' : ¬ ((s.size + j : Nat) : Int) < k := by omega
          go_wp2
          go_ret2
          obtain rfl : s.size + j = k := by omega
          obtain ⟨b', cap', e, hrow, hlt3⟩ := HBU.out.bytes
          simp only [Value.slice.injEq, Option.some.injEq, Addr.mk.injEq, and_true] at e
          obtain ⟨rfl, _⟩ := e
          refine ⟨_, _, rfl, ?_, hlt3, hbel⟩
          unfold fldS
          rw [HS.out, Nat.add_sub_cancel_left]
          exact hrow
end Go.Proofs.YtbgmhdhfcckbbaaDoor.Cst
