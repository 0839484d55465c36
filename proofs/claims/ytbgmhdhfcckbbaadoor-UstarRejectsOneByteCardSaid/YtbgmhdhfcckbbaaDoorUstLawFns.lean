/-
  Layer 7: the statements' own functions: alive, Of, tooLarge.
-/
import Derived.Test.YtbgmhdhfcckbbaaDoorUstIface
namespace Go.Proofs.YtbgmhdhfcckbbaaDoor.Ust
open Go.RowKit
open Oct Cst Chk

theorem hdT : ObjT Tryd.prog 23 6 := ⟨⟨_, Tryd.underlying23⟩, by kernel_rfl⟩

set_option maxHeartbeats 1000000 in
theorem large_any (T : Int) (nm pf lk : ByteArray) (md sz : Int) (w : World) (hn : nm.size ≤ maxLen) (hp : pf.size ≤ maxLen) (hk : lk.size ≤ maxLen) :
    Calls Tryd.prog 9 #[.agg (hdV T nm pf lk md sz).toArray] w fun e w' => ∃ B, e = .returned (.bool B) ∧ Below w.heap.size w w' := by
  have h1 : (nm.size : Int) ≤ 9223372036854775807 := by unfold maxLen at hn; omega
  have h2 : (pf.size : Int) ≤ 9223372036854775807 := by unfold maxLen at hp; omega
  have h3 : (lk.size : Int) ≤ 9223372036854775807 := by unfold maxLen at hk; omega
  clear hn hp hk
  go_enter Tryd.func9, Tryd.ntmps9
  go_wp2_with (first | (refine wpList_box_obj rfl 23 _ rfl (hdV T nm pf lk md sz) rfl ?_; intro w1 h1 b1; have B1 := Lib.hid b1; have c1 := h1.get 1 rfl; have c2 := h1.get 2 rfl; have c3 := h1.get 3 rfl; clear h1 b1))
  go_ret
  exact ⟨_, rfl, B1.out⟩

theorem a_ck : ckH 48 { data := #[97] } { data := #[] } { data := #[] } 420 3 = 0 := by decide
theorem a_100 : strOfNums ((fld 7 420).take 7) = { data := #[48, 48, 48, 48, 54, 52, 52] } := by decide
theorem a_124 : strOfNums ((fld 11 3).take 11) = { data := #[48, 48, 48, 48, 48, 48, 48, 48, 48, 48, 51] } := by decide

set_option maxHeartbeats 1000000 in
theorem alive_any (w : World) : Calls Tryd.prog 10 #[] w fun e w' => e = .returned (.bool true) ∧ Below w.heap.size w w' := by
  go_enter Tryd.func10, Tryd.ntmps10
  go_wp2_with fail
  refine (enc_ok 48 { data := #[97] } { data := #[] } { data := #[] } 420 3 w (by decide) (by decide) (by decide) a_ck).mono ?_; rintro e w1 ⟨b, c, rfl, hr, _, hlt, hc, hm, hb⟩
  obtain ⟨f1, f2, f3, _⟩ := enc_fields a_ck
  have e1 : ((encH 48 { data := #[97] } { data := #[] } { data := #[] } 420 3).drop 100).take 7 = (fld 7 420).take 7 := by rw [← f2, List.take_take]; rfl
  have e2 : ((encH 48 { data := #[97] } { data := #[] } { data := #[] } 420 3).drop 124).take 11 = (fld 11 3).take 11 := by rw [← f3, List.take_take]; rfl
  have r1 := (hr.drop 100).take 7
  have r2 := (hr.drop 124).take 11
  rw [e1] at r1; rw [e2] at r2
  have hc1 := run_str_of (P := Tryd.prog) (w := w1) Tryd.underlying26 Tryd.underlying5 Tryd.underlying9 r1 7 (c - 100) rfl
  have hc2 := run_str_of (P := Tryd.prog) (w := w1) Tryd.underlying26 Tryd.underlying5 Tryd.underlying9 r2 11 (c - 124) rfl
  rw [a_100, Nat.zero_add] at hc1
  rw [a_124, Nat.zero_add] at hc2
  have B := Lib.hid hb
  have k1 : ¬ c = 100 := by omega
  have k2 : ¬ c = 124 := by omega
  have k3 : ¬ c < 107 := by omega
  have k4 : ¬ c < 135 := by omega
  have k5 : 107 ≤ c := by omega
  have k6 : 135 ≤ c := by omega
  clear f1 f2 f3 e1 e2 r1 r2 hr hlt hb hm
  go_wp2
  go_ret
  exact ⟨rfl, B.out⟩
end Go.Proofs.YtbgmhdhfcckbbaaDoor.Ust
