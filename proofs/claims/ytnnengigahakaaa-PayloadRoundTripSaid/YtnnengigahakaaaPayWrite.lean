/-
  Layer 11: the walk of Write.
-/
import Derived.Test.YtnnengigahakaaaPayMath
import Derived.Test.YtnnengigahakaaaBlkWtr
namespace Go.Proofs.Ytnnengigahakaaa
open Go.RowKit

theorem allK_more {F : Int} {L n p : Nat} (h : 0 ≤ F ∧ F - L < n) : allK F L (n + p) = allK F L n ∧ allE F L (n + p) = 11 ∧ allE F L n = 11 ∧ ((0 ≤ F → (L : Int) ≤ F) → allK F L n < n) := by
  unfold allK allE
  rw [if_pos h, if_pos h, if_pos (by omega), if_pos (by omega)]
  exact ⟨rfl, rfl, rfl, fun _ => by omega⟩
theorem allK_next {F : Int} {L n p : Nat} (h : ¬ (0 ≤ F ∧ F - L < n)) : allK F L n = n ∧ allE F L n = 0 ∧ allK F L (n + p) = n + allK F (L + n) p ∧ allE F L (n + p) = allE F (L + n) p := by
  unfold allK allE
  rw [if_neg h, if_neg h]
  refine ⟨rfl, rfl, ?_, ?_⟩
  · split <;> split <;> omega
  · congr 1
    apply propext
    omega

theorem pwrite_nil (a : Option Addr) (n c : Nat) (w : World) : Calls Try.prog 17 #[.pointer none, .slice a n c] w fun e w' => e = .returned (.int .i64 1) ∧ w = w' := by
  go_enter Try.func17, Try.ntmps17
  go_wp2_with fail
  refine (wtr_write_nil a n c w).mono ?_; rintro e w1 ⟨rfl, rfl⟩
  go_wp2_with fail
  go_ret
  exact ⟨rfl, rfl⟩

set_option maxRecDepth 100000 in
set_option maxHeartbeats 4000000 in
theorem pwrite_any {S : Nat → Prop} {q m : Nat} {ys : List Int} {F : Int} {o : Nat} {err : Int} (a : Option Addr) (n cap : Nat) (bs : List Int) (w : World) (h : Wtr w S q m ys F o err) (hb : BytesIn w a bs) (hl : bs.length = n) (hnc : n ≤ cap) (hn : ys.length + n ≤ 80000000) (hF : F ≤ 9223372036854775807)
    (hd : ∀ x, a = some x → bs = [] ∨ ¬ S x.block) (p : Nat) (hp : p = padN (o + n)) :
    Calls Try.prog 17 #[.pointer (some ⟨q, 0, none⟩), .slice a n cap] w fun e w' => e = .returned (.int .i64 (wwE F ys.length (n + p) err)) ∧
      Wtr w' (Grow S w w') q m (ys ++ (bs ++ zeros p).take (wwK F ys.length (n + p) err)) F (o + wwK F ys.length (n + p) err) (wwE F ys.length (n + p) err) ∧ Only S w w' := by
  have H := Lib.hid h; have HP := Lib.hid hp
  have HB := Lib.hid hb; have HL := Lib.hid hl; have HN := Lib.hid hn; have HD := Lib.hid hd
  obtain ⟨L, hL⟩ := named ys.length
  obtain ⟨K, hK⟩ := named (wwK F L (n + p) err)
  obtain ⟨E, hE⟩ := named (wwE F L (n + p) err)
  rw [← hL.out, ← hK.out, ← hE.out]
  clear h hp hb hl hn hd
  by_cases he : err = 0
  · subst he
    have k0 : wwK F L (n + p) 0 = allK F L (n + p) := if_pos rfl
    have k1 : wwE F L (n + p) 0 = allE F L (n + p) := if_pos rfl
    have k2 : wwK F L n 0 = allK F L n := if_pos rfl
    have k3 : wwE F L n 0 = allE F L n := if_pos rfl
    by_cases hf : 0 ≤ F ∧ F - L < n
    · obtain ⟨a1, a2, a3, a4⟩ := allK_more (p := p) hf
      have hLF : 0 ≤ F → (L : Int) ≤ F := by
        obtain ⟨_, _, _, s, _⟩ := H.out.sink
        rw [hL.out]; exact s.bytes.2.2.2.2
      have hKn := a4 hLF
      have HK : Hid (wwK F L n 0 = K) := by show _ = _; rw [hK.out, k0, k2, a1]
      have HE : Hid (wwE F L n 0 = 11) := by show _ = _; rw [k3, a3]
      have HE' : Hid (E = 11) := by show _ = _; rw [hE.out, k1, a2]
      have HT : Hid ((bs ++ zeros p).take K = bs.take K) := by show _ = _; rw [List.take_append_of_le_length (by rw [HL.out, ← HK.out, k2]; omega)]
      clear k0 k1 k2 k3 a1 a2 a3 a4 hf hLF hKn
      go_enter Try.func17, Try.ntmps17
      go_wp2_with fail
      refine (wtr_write a n cap bs w H.out HB.out HL.out hnc (by have := HN.out; omega) hF HD.out).mono ?_; rintro e w2 ⟨rfl, s2, o2⟩
      rw [← hL.out, HK.out, HE.out] at s2
      rw [← hL.out, HE.out]
      have S2 := Lib.hid s2; have O2 := Lib.hid o2
      clear s2 o2
      go_wp2_with fail
      go_ret
      rw [HE'.out, HT.out]
      exact ⟨rfl, S2.out, O2.out⟩
    · obtain ⟨a1, a2, a3, a4⟩ := allK_next (p := p) hf
      obtain ⟨K2, hK2⟩ := named (allK F (L + n) p)
      have HK : Hid (wwK F L n 0 = n) := by show _ = _; rw [k2, a1]
      have HE : Hid (wwE F L n 0 = 0) := by show _ = _; rw [k3, a2]
      have HK' : Hid (K = n + K2) := by show _ = _; rw [hK.out, k0, a3, hK2.out]
      have HW : Hid (wwK F (L + n) p 0 = K2) := by show _ = _; rw [hK2.out]; exact if_pos rfl
      have HE' : Hid (wwE F (L + n) p 0 = E) := by show _ = _; rw [hE.out, k1, a4]; exact if_pos rfl
      have HT : Hid (ys ++ (bs ++ zeros p).take K = (ys ++ bs) ++ (zeros p).take K2) := by
        show _ = _
        rw [HK'.out, List.take_append, HL.out, List.take_of_length_le (by rw [HL.out]; omega), Nat.add_sub_cancel_left, List.append_assoc]
      have HBT : Hid (bs.take n = bs) := List.take_of_length_le (by rw [HL.out]; exact Nat.le_refl _)
      have HYL : Hid ((ys ++ bs).length = L + n) := by show _ = _; rw [List.length_append, HL.out, hL.out]
      clear k0 k1 k2 k3 a1 a2 a3 a4 hf
      go_enter Try.func17, Try.ntmps17
      go_wp2_with fail
      refine (wtr_write a n cap bs w H.out HB.out HL.out hnc (by have := HN.out; omega) hF HD.out).mono ?_; rintro e w2 ⟨rfl, s2, o2⟩
      rw [← hL.out, HK.out, HE.out, HBT.out] at s2
      rw [← hL.out, HE.out]
      have S2 := Lib.hid s2; have O2 := Lib.hid o2
      clear s2 o2
      go_wp2_with fail
      refine (wtr_pad w2 S2.out (by rw [HYL.out]; have := HN.out; have := hL.out; omega) hF).mono ?_; rintro e w3 ⟨rfl, s3, o3⟩
      rw [← HP.out, HYL.out, HW.out, HE'.out] at s3
      rw [← HP.out, HYL.out, HE'.out]
      have S3 := Lib.hid s3; have O3 := Lib.hid o3
      clear s3 o3
      go_wp2_with fail
      go_ret
      rw [HT.out, HK'.out, ← Nat.add_assoc]
      exact ⟨rfl, S3.out.grow (grow_grow' O2.out.size O3.out.size) (grow_lt' H.out.lt.1 (Nat.le_trans O2.out.size O3.out.size)), O2.out.comp' O3.out⟩
  · have k0 : wwK F L (n + p) err = 0 := if_neg he
    have k1 : wwE F L (n + p) err = err := if_neg he
    have HK : Hid (wwK F L n err = 0) := if_neg he
    have HE : Hid (wwE F L n err = err) := if_neg he
    have HK' : Hid (K = 0) := by show _ = _; rw [hK.out, k0]
    have HE' : Hid (E = err) := by show _ = _; rw [hE.out, k1]
    have hne : (err != 0) = true := by simp [he]
    clear k0 k1 he
    go_enter Try.func17, Try.ntmps17
    go_wp2_with fail
    refine (wtr_write a n cap bs w H.out HB.out HL.out hnc (by have := HN.out; omega) hF HD.out).mono ?_; rintro e w2 ⟨rfl, s2, o2⟩
    rw [← hL.out, HK.out, HE.out] at s2
    rw [← hL.out, HE.out]
    have S2 := Lib.hid s2; have O2 := Lib.hid o2
    clear s2 o2
    go_wp2_with fail
    go_ret
    rw [HE'.out, HK'.out]
    exact ⟨rfl, S2.out, O2.out⟩
end Go.Proofs.Ytnnengigahakaaa
