/-
  Layer 6: the reference's Pad and Zeros.
-/
import Derived.Test.YtjipmiiohijfoaaRWr
namespace Go.Proofs.Ytjipmiiohijfoaa
open Go.RowKit

/-- how many bytes Pad writes -/
def padN (o : Nat) : Nat := (512 - o % 512) % 512

theorem RWr.wide {w w2 w' : World} {S : Nat → Prop} {q m : Nat} {ys : List Int} {F : Int} {o : Nat} {err : Int} (h : RWr w' (Grow S w2 w') q m ys F o err) (hw : w.heap.size ≤ w2.heap.size) (hS : ∀ k, S k → k < w.heap.size) (hz : w2.heap.size ≤ w'.heap.size) : RWr w' (Grow S w w') q m ys F o err :=
  h.grow (fun k hk => hk.imp id (fun h => ⟨Nat.le_trans hw h.1, h.2⟩)) (fun k hk => hk.elim (fun h => by have := hS k h; omega) (fun h => h.2))

set_option maxHeartbeats 4000000 in
theorem rwr_pad {S : Nat → Prop} {q m : Nat} {ys : List Int} {F : Int} {o : Nat} {err : Int} (w : World) (h : RWr w S q m ys F o err) (hn : ys.length ≤ 90000000) (hF : F ≤ 9223372036854775807) :
    Calls Try.prog 22 #[.pointer (some ⟨q, 0, none⟩)] w fun e w' => e = .returned (.int .i64 (wwE F ys.length (padN o) err)) ∧
      RWr w' (Grow S w w') q m (ys ++ (zeros (padN o)).take (wwK F ys.length (padN o) err)) F (o + wwK F ys.length (padN o) err) (wwE F ys.length (padN o) err) ∧ Only S w w' := by
  have H := Lib.hid h
  obtain ⟨S', cs, r, h1, h2, h3, h4, h5, h6, h7⟩ := h
  have c1 := h1.get 1 rfl
  have ho : (o : Int) ≤ 100000000 := by omega
  obtain ⟨p, hp⟩ := named (padN o)
  have hpi : ((512 : Int) - (o : Int) % 512) % 512 = (p : Int) := by rw [hp.out]; unfold padN; omega
  have hp5 : p < 512 := by omega
  obtain ⟨i0, HI⟩ := info_u8 (P := Try.prog) (e := 5) (by kernel_rfl)
  have HN := Lib.hid hn
  rw [← hp.out]
  clear h1 h2 h3 h4 h5 h6 h7 hn
  go_enter Try.func22, Try.ntmps22
  go_wp2_with (refine wpList_make_arr rfl _ _ 22 5 rfl Try.underlying22 i0 HI p (by first | rfl | exact congrArg (Value.int .i64) hpi) (by first | rfl | exact congrArg (Value.int .i64) hpi) (by omega) ?_; intro w2 h2 b2; have H2 := Lib.hid h2; have B2 := Lib.hid b2; clear h2 b2)
  obtain ⟨Z, hZ⟩ := named (zeros p)
  rw [← hZ.out] at H2
  have hlt := H.out.lt.1
  refine (rwr_write (some ⟨w.heap.size, 0, none⟩) p p Z w2 (H.out.below B2.out) H2.out.bytes (by rw [hZ.out, zeros_length]) (Nat.le_refl _) (by have := HN.out; omega) hF (fun x hx => .inr (by cases hx; intro h; have := hlt _ h; simp at this))).mono ?_; rintro e w3 ⟨rfl, s3, o3⟩
  go_wp2_with fail
  go_ret
  rw [← hZ.out]
  exact ⟨rfl, s3.wide B2.out.size hlt o3.size, (Only.of_below B2.out (Nat.le_refl _)).trans o3⟩

/-- what Zeros answers; how many zero bytes it writes -/
theorem rwr_zeros_arg {S : Nat → Prop} {q m : Nat} {ys : List Int} {F : Int} {o : Nat} {err : Int} (n : Int) (w : World) (_ : RWr w S q m ys F o err) (hn : n < 0 ∨ 1024 < n) :
    Calls Try.prog 24 #[.pointer (some ⟨q, 0, none⟩), .int .i64 n] w fun e w' => e = .returned (.int .i64 2) ∧ w = w' := by
  by_cases h0 : n < 0
  · go_enter Try.func24, Try.ntmps24
    go_wp2
    go_ret
    exact ⟨rfl, rfl⟩
  · have h1 : 1024 < n := by omega
    go_enter Try.func24, Try.ntmps24
    go_wp2
    go_ret
    exact ⟨rfl, rfl⟩
set_option maxHeartbeats 4000000 in
theorem rwr_zeros {S : Nat → Prop} {q m : Nat} {ys : List Int} {F : Int} {o : Nat} {err : Int} (n : Nat) (w : World) (h : RWr w S q m ys F o err) (hnn : n ≤ 1024) (hn : ys.length ≤ 90000000) (hF : F ≤ 9223372036854775807) :
    Calls Try.prog 24 #[.pointer (some ⟨q, 0, none⟩), .int .i64 n] w fun e w' => e = .returned (.int .i64 (wwE F ys.length (512 * n) err)) ∧
      RWr w' (Grow S w w') q m (ys ++ (zeros (512 * n)).take (wwK F ys.length (512 * n) err)) F (o + wwK F ys.length (512 * n) err) (wwE F ys.length (512 * n) err) ∧ Only S w w' := by
  have H := Lib.hid h
  obtain ⟨p, hp⟩ := named (512 * n)
  have hpi : (512 : Int) * (n : Int) = (p : Int) := by rw [hp.out]; omega
  have hp5 : p ≤ 524288 := by omega
  have hn0 : ¬ (n : Int) < 0 := by omega
  have hn1 : ¬ (1024 : Int) < n := by omega
  obtain ⟨i0, HI⟩ := info_u8 (P := Try.prog) (e := 5) (by kernel_rfl)
  have HN := Lib.hid hn
  rw [← hp.out]
  clear h hn
  go_enter Try.func24, Try.ntmps24
  go_wp2_with (refine wpList_make_arr rfl _ _ 22 5 rfl Try.underlying22 i0 HI p (by first | rfl | exact congrArg (Value.int .i64) hpi) (by first | rfl | exact congrArg (Value.int .i64) hpi) (by omega) ?_; intro w2 h2 b2; have H2 := Lib.hid h2; have B2 := Lib.hid b2; clear h2 b2)
  obtain ⟨Z, hZ⟩ := named (zeros p)
  rw [← hZ.out] at H2
  have hlt := H.out.lt.1
  refine (rwr_write (some ⟨w.heap.size, 0, none⟩) p p Z w2 (H.out.below B2.out) H2.out.bytes (by rw [hZ.out, zeros_length]) (Nat.le_refl _) (by have := HN.out; omega) hF (fun x hx => .inr (by cases hx; intro h; have := hlt _ h; simp at this))).mono ?_; rintro e w3 ⟨rfl, s3, o3⟩
  go_wp2_with fail
  go_ret
  rw [← hZ.out]
  exact ⟨rfl, s3.wide B2.out.size hlt o3.size, (Only.of_below B2.out (Nat.le_refl _)).trans o3⟩
end Go.Proofs.Ytjipmiiohijfoaa
