/-
  Layer 7: the program's methods that read the fields of a header.
-/
import Derived.Test.YtbgmhdhfcckbbaaDoorUstTab
import Derived.Test.YtbgmhdhfcckbbaaDoorOctParse
import Derived.Test.YtbgmhdhfcckbbaaDoorCstParse
import Derived.Test.YtbgmhdhfcckbbaaDoorUstDec
namespace Go.Proofs.YtbgmhdhfcckbbaaDoor.Ust
open Go.RowKit
open Oct Cst Chk

/-- the header at block hb holds vs now; nothing else has turned -/
def SetH (hb : Nat) (vs : List Value) (w : World) (e : Ending) (w' : World) : Prop := e = .returned (.tuple #[]) ∧ ObjAt w' hb 23 vs ∧ Out hb (hb + 1) w w'

section
variable (a : Option Addr) (n cap : Nat) (zs : List Int) (w : World) (hb : Nat) (v0 v1 v2 v3 v4 v5 : Value)

theorem pr_skip (b : Value) (hh : ObjAt w hb 23 [v0, v1, v2, v3, v4, v5]) :
    Calls Tryd.prog 47 #[.pointer (some ⟨hb, 0, none⟩), b] w (SetH hb [v0, v1, v2, v3, v4, v5] w) := by
  go_enter Tryd.func47, Tryd.ntmps47
  go_wp2
  go_end0
  exact ⟨rfl, hh, Out.refl _ _ _⟩

theorem set_out {w : World} {hb : Nat} (i : Nat) (v : Value) : Out hb (hb + 1) w (w.setCell ⟨hb, i, none⟩ v) := Out.setCell (p := ⟨hb, i, none⟩) (Out.refl hb (hb + 1) w) (Nat.le_refl _) (Nat.lt_succ_self _) v

set_option maxHeartbeats 1000000 in
theorem pr_type (T : Int) (hh : ObjAt w hb 23 [.int .u8 T, v1, v2, v3, v4, v5]) (hz : BytesIn w a zs) (hl : zs.length = 1) :
    Calls Tryd.prog 51 #[.pointer (some ⟨hb, 0, none⟩), .slice a 1 cap] w (SetH hb [.int .u8 (zs.getD 0 0), v1, v2, v3, v4, v5] w) := by
  obtain ⟨b, off, rfl, hlt, hr⟩ : ∃ b off, a = some ⟨b, off, none⟩ ∧ b < w.heap.size ∧ RowAt w b off zs := by
    rcases hz with hz | hz
    · rw [hz] at hl; cases hl
    · exact hz
  obtain ⟨z, hz0, z1, z2, hcell⟩ := hr.get 0 (by omega)
  rw [← hz0]
  have H := Lib.hid hh; have c0 := hh.get 0 rfl; have f0 := hh.frozen 0
  simp only [Nat.add_zero] at hcell
  clear hh hr hz0 hlt hz hl
  go_enter Tryd.func51, Tryd.ntmps51
  go_wp2
  go_end0
  exact ⟨rfl, H.out.set 0 _, set_out _ _⟩

set_option maxHeartbeats 1000000 in
theorem pr_name (x : ByteArray) (hh : ObjAt w hb 23 [v0, .string x, v2, v3, v4, v5]) (hz : BytesIn w a zs) (hl : zs.length = n) (hc : n ≤ cap) (hm : cap ≤ maxLen) :
    Calls Tryd.prog 43 #[.pointer (some ⟨hb, 0, none⟩), .slice a n cap] w (SetH hb [v0, .string (strOfNums (cpS zs)), v2, v3, v4, v5] w) := by
  have HP := Lib.hid (Cst.parse_in a n cap zs w hz hl hc hm)
  obtain ⟨V, hV⟩ := named (strOfNums (cpS zs))
  obtain ⟨E, hE⟩ := named (cpE zs)
  rw [← hV.out, ← hE.out] at HP
  rw [← hV.out]
  have H := Lib.hid hh; have c0 := hh.get 1 rfl; have f0 := hh.frozen 1
  clear hh hz hl hc hm hV hE
  go_enter Tryd.func43, Tryd.ntmps43
  go_wp2_with fail
  refine HP.out.mono ?_; rintro e w1 ⟨rfl, rfl⟩
  go_wp2
  go_end0
  exact ⟨rfl, H.out.set 1 _, set_out _ _⟩

set_option maxHeartbeats 1000000 in
theorem pr_prefix (x : ByteArray) (hh : ObjAt w hb 23 [v0, v1, .string x, v3, v4, v5]) (hz : BytesIn w a zs) (hl : zs.length = n) (hc : n ≤ cap) (hm : cap ≤ maxLen) :
    Calls Tryd.prog 57 #[.pointer (some ⟨hb, 0, none⟩), .slice a n cap] w (SetH hb [v0, v1, .string (strOfNums (cpS zs)), v3, v4, v5] w) := by
  have HP := Lib.hid (Cst.parse_in a n cap zs w hz hl hc hm)
  obtain ⟨V, hV⟩ := named (strOfNums (cpS zs))
  obtain ⟨E, hE⟩ := named (cpE zs)
  rw [← hV.out, ← hE.out] at HP
  rw [← hV.out]
  have H := Lib.hid hh; have c0 := hh.get 2 rfl; have f0 := hh.frozen 2
  clear hh hz hl hc hm hV hE
  go_enter Tryd.func57, Tryd.ntmps57
  go_wp2_with fail
  refine HP.out.mono ?_; rintro e w1 ⟨rfl, rfl⟩
  go_wp2
  go_end0
  exact ⟨rfl, H.out.set 2 _, set_out _ _⟩

set_option maxHeartbeats 1000000 in
theorem pr_link (x : ByteArray) (hh : ObjAt w hb 23 [v0, v1, v2, .string x, v4, v5]) (hz : BytesIn w a zs) (hl : zs.length = n) (hc : n ≤ cap) (hm : cap ≤ maxLen) :
    Calls Tryd.prog 53 #[.pointer (some ⟨hb, 0, none⟩), .slice a n cap] w (SetH hb [v0, v1, v2, .string (strOfNums (cpS zs)), v4, v5] w) := by
  have HP := Lib.hid (Cst.parse_in a n cap zs w hz hl hc hm)
  obtain ⟨V, hV⟩ := named (strOfNums (cpS zs))
  obtain ⟨E, hE⟩ := named (cpE zs)
  rw [← hV.out, ← hE.out] at HP
  rw [← hV.out]
  have H := Lib.hid hh; have c0 := hh.get 3 rfl; have f0 := hh.frozen 3
  clear hh hz hl hc hm hV hE
  go_enter Tryd.func53, Tryd.ntmps53
  go_wp2_with fail
  refine HP.out.mono ?_; rintro e w1 ⟨rfl, rfl⟩
  go_wp2
  go_end0
  exact ⟨rfl, H.out.set 3 _, set_out _ _⟩

set_option maxHeartbeats 1000000 in
theorem pr_mode (x : Int) (hh : ObjAt w hb 23 [v0, v1, v2, v3, .int .i64 x, v5]) (hz : BytesIn w a zs) (hl : zs.length = n) (hc : n ≤ cap) (hm : cap ≤ maxLen) :
    Calls Tryd.prog 45 #[.pointer (some ⟨hb, 0, none⟩), .slice a n cap] w (SetH hb [v0, v1, v2, v3, .int .i64 (pzV zs), v5] w) := by
  have HP := Lib.hid (Oct.parse_in a n cap zs w hz hl (Nat.le_trans hc hm))
  obtain ⟨V, hV⟩ := named (pzV zs)
  obtain ⟨E, hE⟩ := named (pzE zs)
  rw [← hV.out, ← hE.out] at HP
  rw [← hV.out]
  have H := Lib.hid hh; have c0 := hh.get 4 rfl; have f0 := hh.frozen 4
  clear hh hz hl hc hm hV hE
  go_enter Tryd.func45, Tryd.ntmps45
  go_wp2_with fail
  refine HP.out.mono ?_; rintro e w1 ⟨rfl, rfl⟩
  go_wp2
  go_end0
  exact ⟨rfl, H.out.set 4 _, set_out _ _⟩

set_option maxHeartbeats 1000000 in
theorem pr_size (x : Int) (hh : ObjAt w hb 23 [v0, v1, v2, v3, v4, .int .i64 x]) (hz : BytesIn w a zs) (hl : zs.length = n) (hc : n ≤ cap) (hm : cap ≤ maxLen) :
    Calls Tryd.prog 49 #[.pointer (some ⟨hb, 0, none⟩), .slice a n cap] w (SetH hb [v0, v1, v2, v3, v4, .int .i64 (pzV zs)] w) := by
  have HP := Lib.hid (Oct.parse_in a n cap zs w hz hl (Nat.le_trans hc hm))
  obtain ⟨V, hV⟩ := named (pzV zs)
  obtain ⟨E, hE⟩ := named (pzE zs)
  rw [← hV.out, ← hE.out] at HP
  rw [← hV.out]
  have H := Lib.hid hh; have c0 := hh.get 5 rfl; have f0 := hh.frozen 5
  clear hh hz hl hc hm hV hE
  go_enter Tryd.func49, Tryd.ntmps49
  go_wp2_with fail
  refine HP.out.mono ?_; rintro e w1 ⟨rfl, rfl⟩
  go_wp2
  go_end0
  exact ⟨rfl, H.out.set 5 _, set_out _ _⟩
end
end Go.Proofs.YtbgmhdhfcckbbaaDoor.Ust
