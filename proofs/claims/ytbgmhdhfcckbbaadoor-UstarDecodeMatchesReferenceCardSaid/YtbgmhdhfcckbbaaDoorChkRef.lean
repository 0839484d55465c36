/-
  Walks of the reference of layer 3, of the statements' own 'block', and of their example.
-/
import Derived.Test.YtbgmhdhfcckbbaaDoorChkRefS
namespace Go.Proofs.YtbgmhdhfcckbbaaDoor.Chk
open Go.RowKit
open Oct

set_option maxHeartbeats 1000000 in
theorem rver_bad (a : Option Addr) (len cap : Nat) (w : World) (hl : ¬ len = 512) :
    Calls Tryd.prog 28 #[.slice a len cap] w fun e w' => e = .returned (.int .i64 2) ∧ w = w' := by
  go_enter Tryd.func28, Tryd.ntmps28
  go_wp2_with fail
  refine (rseal_bad a len cap _ hl).mono ?_; rintro e w1 ⟨rfl, rfl⟩
  go_wp2
  go_ret
  exact ⟨rfl, rfl⟩

set_option maxHeartbeats 1000000 in
theorem rver_ok (a : Option Addr) (cap : Nat) (zs : List Int) (w : World) (v : Int) (hl : zs.length = 512) (hb : BytesIn w a zs) (hz : Bytes zs) (hc : 512 ≤ cap) (hv : (zs = sealZ zs ∧ v = 0) ∨ (¬ zs = sealZ zs ∧ v = 9)) :
    Calls Tryd.prog 28 #[.slice a 512 cap] w fun e w' => e = .returned (.int .i64 v) ∧ Below w.heap.size w w' := by
  have HL := Lib.hid hl; clear hl
  have HB := Lib.hid hb; clear hb
  have HZ := Lib.hid hz; clear hz
  obtain ⟨S, hS⟩ := named (strOfNums zs)
  go_enter Tryd.func28, Tryd.ntmps28
  go_wp2_with fail
  refine (rseal_ok a cap zs _ HL.out HB.out hc).mono ?_; rintro e w1 ⟨b1, c1, rfl, hr1, hlt1, hb1⟩
  have B1 := Lib.hid hb1; clear hb1
  have hc2 := run_str_in (P := Tryd.prog) (w := w1) Tryd.underlying26 Tryd.underlying5 Tryd.underlying9 (HB.out.below B1.out) 512 cap HL.out
  have hc1 := run_str_of (P := Tryd.prog) (w := w1) Tryd.underlying26 Tryd.underlying5 Tryd.underlying9 hr1 512 c1 (seal_length HL.out)
  clear hr1 hlt1
  rcases hv with ⟨hv, rfl⟩ | ⟨hv, rfl⟩
  · rw [← hv, ← hS.out] at hc1
    rw [← hS.out] at hc2
    clear hv
    go_wp2
    go_ret
    exact ⟨rfl, B1.out⟩
  · obtain ⟨S2, hS2⟩ := named (strOfNums (sealZ zs))
    have hne : ¬ S2 = S := by rw [hS.out, hS2.out]; exact str_ne (seal_bytes HZ.out) HZ.out (fun e => hv e.symm)
    have hnl : (S2.toList == S.toList) = false := by
      rw [beq_eq_false_iff_ne]
      exact fun e => hne (by
        apply ByteArray.ext
        apply Array.ext'
        rw [ByteArray.toList_eq, ByteArray.toList_eq] at e
        exact e)
    clear hne
    rw [← hS2.out] at hc1
    rw [← hS.out] at hc2
    clear hv
    go_wp2
    go_ret
    exact ⟨rfl, B1.out⟩
end Go.Proofs.YtbgmhdhfcckbbaaDoor.Chk
