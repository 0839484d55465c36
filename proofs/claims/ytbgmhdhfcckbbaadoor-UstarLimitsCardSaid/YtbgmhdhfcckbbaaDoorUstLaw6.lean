/-
  UstarLimits, walked.
-/
import Derived.Test.YtbgmhdhfcckbbaaDoorUstLawFns
import Derived.Test.YtbgmhdhfcckbbaaDoorUstDec
import Derived.Test.YtbgmhdhfcckbbaaDoorStrRep
import Derived.Test.YtbgmhdhfcckbbaaDoorShelf
namespace Go.Proofs.YtbgmhdhfcckbbaaDoor
open Go.RowKit
open Ust Cst

set_option maxRecDepth 100000 in
set_option maxHeartbeats 4000000 in
theorem walk_UstarLimits (n which : Int) (w : World) (hn : (Lit.int .u16 n).wf = true) (hw : (Lit.int .u8 which).wf = true) :
    Calls Tryd.prog 8 #[.int .u16 n, .int .u8 which] w fun e w' => e = .returned (.bool true) ∧ Below w.heap.size w w' := by
  have hn' : 0 ≤ n ∧ n ≤ 65535 := bounds_u16 hn
  obtain ⟨hn0, hn1⟩ := hn'
  obtain ⟨hw0, hw1⟩ := bounds_u8 hw
  clear hn hw
  obtain ⟨c, hcn⟩ : ∃ c : Nat, n % 300 = c := ⟨(n % 300).toNat, by omega⟩
  have hc3 : c < 300 := by omega
  obtain ⟨S, HS⟩ := named (⟨(Lib.repeatL [120] c).toArray⟩ : ByteArray)
  have HN : Hid (numsOf S = List.replicate c 120) := by show _ = _; rw [HS.out]; exact nums_rep 120 c
  have hsz : S.size = c := by rw [← numsOf_length, HN.out]; simp
  have hfree : (0 : Int) ∉ numsOf S := by rw [HN.out, List.mem_replicate]; omega
  have HF := Lib.hid hfree; clear hfree
  have HCE : Hid (∀ k : Nat, 1 ≤ k → k ≤ 256 → ceF (numsOf S) k = if (k : Int) < c then 7 else 0) := fun k h1 h2 => by
    unfold ceF; rw [if_neg (by omega), if_neg HF.out, numsOf_length, hsz]
  have C0 : Hid (ceF (numsOf { data := #[] }) 100 = 0 ∧ ceF (numsOf { data := #[] }) 155 = 0) := by show _ ∧ _; decide
  have Z9 : Hid (S.size ≤ maxLen) := by show _ ≤ _; unfold maxLen; omega
  have ZE : Hid (({ data := #[] } : ByteArray).size ≤ maxLen) := by show _ ≤ _; decide
  have hz1 : (Tryd.prog.info? 23).map (·.zero) = some (some (.agg hd0.toArray)) := by kernel_rfl
  have hs1 : (Tryd.prog.info? 23).map (·.size) = some 6 := by kernel_rfl
  have HZ1 := Lib.hid hz1; have HS1 := Lib.hid hs1
  have OC : Hid (∀ T nm pf lk md sz, ∀ v ∈ hdV T nm pf lk md sz, v.oneCell' = true) := by
    intro T nm pf lk md sz v hv; simp at hv; rcases hv with rfl | rfl | rfl | rfl | rfl | rfl <;> rfl
  clear hz1 hs1
  have hcase : which % 3 = 0 ∨ which % 3 = 1 ∨ which % 3 = 2 := by omega
  rcases hcase with hk | hk | hk
  · skip
    have EV : Hid (ckH 53 S { data := #[] } { data := #[] } 0 0 = if c ≤ 100 then 0 else 7) := by
      show _ = _
      have e1 : ceF (numsOf S) 100 = if (100 : Int) < c then 7 else 0 := HCE.out 100 (by decide) (by decide)
      unfold ckH
      simp only [C0.out.1, C0.out.2, e1]
      rw [if_neg (by decide)]
      by_cases hc : c ≤ 100
      · rw [if_neg (by omega : ¬ ((100 : Int) < c))]; simp [hc]
      · rw [if_pos (by omega : ((100 : Int) < c))]; simp [hc]
    obtain ⟨E, hE⟩ := named (ckH 53 S { data := #[] } { data := #[] } 0 0)
    go_enter Tryd.func8, Tryd.ntmps8
    go_wp2_with fail
    refine (Tryd.strings_Repeat ⟨#[120]⟩ c w (by omega) (by show 1 * c ≤ _; omega)).mono ?_; rintro e w1 ⟨rfl, b1⟩
    have B1 := Lib.hid b1; clear b1
    rw [show (⟨#[120]⟩ : ByteArray).data.toList = [120] from rfl, ← HS.out]
    go_wp2_with (first | (refine wpList_alloc_obj rfl 23 rfl hd0 HZ1.out ?_; intro w2 h2 b2; have H2 := Lib.hid h2; have B2 := Lib.hid b2; clear h2 b2) | (refine wpList_store_obj rfl 23 _ _ rfl w1.heap.size rfl (hdV 53 { data := #[] } { data := #[] } { data := #[] } 0 0) hd0 rfl 23 H2.out HS1.out rfl (OC.out _ _ _ _ _ _) ?_; intro w3 h3 t3; have H3 := Lib.hid h3; have T3 := Lib.hid t3; have c0 := h3.get 0 rfl; have c1 := h3.get 1 rfl; have c2 := h3.get 2 rfl; have c3 := h3.get 3 rfl; have c4 := h3.get 4 rfl; have c5 := h3.get 5 rfl; have f := h3.frozen 1; clear h3 t3))
    obtain ⟨w4, h4⟩ := named (w3.setCell ⟨w1.heap.size, 1, none⟩ (.string S))
    rw [← h4.out]
    have B4 : Hid (Below w.heap.size w w4) := by
      show Below _ _ _
      rw [h4.out]
      exact (B1.out.trans ((B2.out.mono B1.out.size).trans (T3.out.below B1.out.size))).setCell (p := ⟨w1.heap.size, 1, none⟩) B1.out.size _
    clear c0 c1 c2 c3 c4 c5 f
    refine (check_any 53 S { data := #[] } { data := #[] } 0 0 w4 Z9.out ZE.out ZE.out (by decide)).mono ?_; rintro e w5 ⟨rfl, b5⟩
    have B5 := Lib.hid (B4.out.trans (b5.mono B4.out.size)); clear b5
    rw [EV.out]
    by_cases hc : c ≤ 100
    · have hc' : (c : Int) ≤ 100 := by omega
      rw [if_pos hc]
      clear hc
      go_wp2_with fail
      refine (alive_any w5).mono ?_; rintro e w6 ⟨rfl, b6⟩
      have B6 := Lib.hid (B5.out.trans (b6.mono B5.out.size)); clear b6
      go_wp2_with fail
      go_ret
      exact ⟨rfl, B6.out⟩
    · have hc' : decide ((c : Int) ≤ 100) = false := by simp; omega
      rw [if_neg hc]
      clear hc
      go_wp2_with fail
      refine (alive_any w5).mono ?_; rintro e w6 ⟨rfl, b6⟩
      have B6 := Lib.hid (B5.out.trans (b6.mono B5.out.size)); clear b6
      go_wp2_with fail
      go_ret
      exact ⟨rfl, B6.out⟩
  · skip
    have EV : Hid (ckH 53 { data := #[] } { data := #[] } S 0 0 = if c ≤ 100 then 0 else 7) := by
      show _ = _
      have e1 : ceF (numsOf S) 100 = if (100 : Int) < c then 7 else 0 := HCE.out 100 (by decide) (by decide)
      unfold ckH
      simp only [C0.out.1, C0.out.2, e1]
      rw [if_neg (by decide)]
      by_cases hc : c ≤ 100
      · rw [if_neg (by omega : ¬ ((100 : Int) < c))]; simp [hc]
      · rw [if_pos (by omega : ((100 : Int) < c))]; simp [hc]
    obtain ⟨E, hE⟩ := named (ckH 53 { data := #[] } { data := #[] } S 0 0)
    go_enter Tryd.func8, Tryd.ntmps8
    go_wp2_with fail
    refine (Tryd.strings_Repeat ⟨#[120]⟩ c w (by omega) (by show 1 * c ≤ _; omega)).mono ?_; rintro e w1 ⟨rfl, b1⟩
    have B1 := Lib.hid b1; clear b1
    rw [show (⟨#[120]⟩ : ByteArray).data.toList = [120] from rfl, ← HS.out]
    go_wp2_with (first | (refine wpList_alloc_obj rfl 23 rfl hd0 HZ1.out ?_; intro w2 h2 b2; have H2 := Lib.hid h2; have B2 := Lib.hid b2; clear h2 b2) | (refine wpList_store_obj rfl 23 _ _ rfl w1.heap.size rfl (hdV 53 { data := #[] } { data := #[] } { data := #[] } 0 0) hd0 rfl 23 H2.out HS1.out rfl (OC.out _ _ _ _ _ _) ?_; intro w3 h3 t3; have H3 := Lib.hid h3; have T3 := Lib.hid t3; have c0 := h3.get 0 rfl; have c1 := h3.get 1 rfl; have c2 := h3.get 2 rfl; have c3 := h3.get 3 rfl; have c4 := h3.get 4 rfl; have c5 := h3.get 5 rfl; have f := h3.frozen 3; clear h3 t3))
    obtain ⟨w4, h4⟩ := named (w3.setCell ⟨w1.heap.size, 3, none⟩ (.string S))
    rw [← h4.out]
    have B4 : Hid (Below w.heap.size w w4) := by
      show Below _ _ _
      rw [h4.out]
      exact (B1.out.trans ((B2.out.mono B1.out.size).trans (T3.out.below B1.out.size))).setCell (p := ⟨w1.heap.size, 3, none⟩) B1.out.size _
    clear c0 c1 c2 c3 c4 c5 f
    refine (check_any 53 { data := #[] } { data := #[] } S 0 0 w4 ZE.out ZE.out Z9.out (by decide)).mono ?_; rintro e w5 ⟨rfl, b5⟩
    have B5 := Lib.hid (B4.out.trans (b5.mono B4.out.size)); clear b5
    rw [EV.out]
    by_cases hc : c ≤ 100
    · have hc' : (c : Int) ≤ 100 := by omega
      rw [if_pos hc]
      clear hc
      go_wp2_with fail
      refine (alive_any w5).mono ?_; rintro e w6 ⟨rfl, b6⟩
      have B6 := Lib.hid (B5.out.trans (b6.mono B5.out.size)); clear b6
      go_wp2_with fail
      go_ret
      exact ⟨rfl, B6.out⟩
    · have hc' : decide ((c : Int) ≤ 100) = false := by simp; omega
      rw [if_neg hc]
      clear hc
      go_wp2_with fail
      refine (alive_any w5).mono ?_; rintro e w6 ⟨rfl, b6⟩
      have B6 := Lib.hid (B5.out.trans (b6.mono B5.out.size)); clear b6
      go_wp2_with fail
      go_ret
      exact ⟨rfl, B6.out⟩
  · skip
    have EV : Hid (ckH 53 { data := #[] } S { data := #[] } 0 0 = if c ≤ 155 then 0 else 7) := by
      show _ = _
      have e1 : ceF (numsOf S) 155 = if (155 : Int) < c then 7 else 0 := HCE.out 155 (by decide) (by decide)
      unfold ckH
      simp only [C0.out.1, e1]
      rw [if_neg (by decide)]
      by_cases hc : c ≤ 155
      · rw [if_neg (by omega : ¬ ((155 : Int) < c))]; simp [hc]
      · rw [if_pos (by omega : ((155 : Int) < c))]; simp [hc]
    obtain ⟨E, hE⟩ := named (ckH 53 { data := #[] } S { data := #[] } 0 0)
    go_enter Tryd.func8, Tryd.ntmps8
    go_wp2_with fail
    refine (Tryd.strings_Repeat ⟨#[120]⟩ c w (by omega) (by show 1 * c ≤ _; omega)).mono ?_; rintro e w1 ⟨rfl, b1⟩
    have B1 := Lib.hid b1; clear b1
    rw [show (⟨#[120]⟩ : ByteArray).data.toList = [120] from rfl, ← HS.out]
    go_wp2_with (first | (refine wpList_alloc_obj rfl 23 rfl hd0 HZ1.out ?_; intro w2 h2 b2; have H2 := Lib.hid h2; have B2 := Lib.hid b2; clear h2 b2) | (refine wpList_store_obj rfl 23 _ _ rfl w1.heap.size rfl (hdV 53 { data := #[] } { data := #[] } { data := #[] } 0 0) hd0 rfl 23 H2.out HS1.out rfl (OC.out _ _ _ _ _ _) ?_; intro w3 h3 t3; have H3 := Lib.hid h3; have T3 := Lib.hid t3; have c0 := h3.get 0 rfl; have c1 := h3.get 1 rfl; have c2 := h3.get 2 rfl; have c3 := h3.get 3 rfl; have c4 := h3.get 4 rfl; have c5 := h3.get 5 rfl; have f := h3.frozen 2; clear h3 t3))
    obtain ⟨w4, h4⟩ := named (w3.setCell ⟨w1.heap.size, 2, none⟩ (.string S))
    rw [← h4.out]
    have B4 : Hid (Below w.heap.size w w4) := by
      show Below _ _ _
      rw [h4.out]
      exact (B1.out.trans ((B2.out.mono B1.out.size).trans (T3.out.below B1.out.size))).setCell (p := ⟨w1.heap.size, 2, none⟩) B1.out.size _
    clear c0 c1 c2 c3 c4 c5 f
    refine (check_any 53 { data := #[] } S { data := #[] } 0 0 w4 ZE.out Z9.out ZE.out (by decide)).mono ?_; rintro e w5 ⟨rfl, b5⟩
    have B5 := Lib.hid (B4.out.trans (b5.mono B4.out.size)); clear b5
    rw [EV.out]
    by_cases hc : c ≤ 155
    · have hc' : (c : Int) ≤ 155 := by omega
      rw [if_pos hc]
      clear hc
      go_wp2_with fail
      refine (alive_any w5).mono ?_; rintro e w6 ⟨rfl, b6⟩
      have B6 := Lib.hid (B5.out.trans (b6.mono B5.out.size)); clear b6
      go_wp2_with fail
      go_ret
      exact ⟨rfl, B6.out⟩
    · have hc' : decide ((c : Int) ≤ 155) = false := by simp; omega
      rw [if_neg hc]
      clear hc
      go_wp2_with fail
      refine (alive_any w5).mono ?_; rintro e w6 ⟨rfl, b6⟩
      have B6 := Lib.hid (B5.out.trans (b6.mono B5.out.size)); clear b6
      go_wp2_with fail
      go_ret
      exact ⟨rfl, B6.out⟩
end Go.Proofs.YtbgmhdhfcckbbaaDoor
