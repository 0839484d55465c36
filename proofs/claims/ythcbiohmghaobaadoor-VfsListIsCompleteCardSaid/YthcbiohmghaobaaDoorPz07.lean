/-
  Layer 8: the program's Join, Split.
-/
import Derived.Test.YthcbiohmghaobaaDoorPz02
import Derived.Test.YthcbiohmghaobaaDoorRows
import Derived.Test.YthcbiohmghaobaaDoorPz01
import Derived.Test.YthcbiohmghaobaaDoorPnmMath
import Derived.Deep.DeepMust
import Derived.Deep.QuietTactic
import Derived.BigQuiet
import Derived.BigRegion
import Derived.Test.YthcbiohmghaobaaDoorShelf
import Derived.Test.YthcbiohmghaobaaDoorPz05
import Derived.Test.YthcbiohmghaobaaDoorPz04
import Derived.RangeFuncNested
import Derived.RangeFuncBound
import Derived.RangeFuncCalls
import Derived.RangeFuncLeaves
import Derived.Shelf.Abstract
import Derived.Shelf.RegionOpen
import Derived.WalkKit
import Derived.OwnWalkIn
import Derived.TacticsInMore
import Derived.LoopNIn
import Derived.LoopIn
import Derived.Test.YthcbiohmghaobaaDoorPnmRefK
import Derived.Test.YthcbiohmghaobaaDoorPz06
namespace Go.Proofs.YthcbiohmghaobaaDoor.Pnm
open Go.RowKit

theorem pjoin (s t : ByteArray) (w : World) (hs : s.size ≤ 1000000) (ht : t.size ≤ 1000000) : Calls Tryd.prog 31 #[.string s, .string t] w fun e w' => e = .returned (.string (strOfNums (joinZ (numsOf s) (numsOf t)))) ∧ Below w.heap.size w w' := by
  have h1 : (s.size : Int) ≤ 1000000 := by omega
  have h2 : (t.size : Int) ≤ 1000000 := by omega
  by_cases he : s = { data := #[] }
  · subst he
    have e : joinZ (numsOf { data := #[] }) (numsOf t) = numsOf t := rfl
    rw [e, strOfNums_numsOf]
    go_enter Tryd.func31, Tryd.ntmps31
    go_wp2
    go_ret
    exact ⟨rfl, Below.refl _ _⟩
  · have hn : numsOf s ≠ [] := fun h => he (by have := congrArg strOfNums h; rw [strOfNums_numsOf] at this; rw [this]; rfl)
    have e : joinZ (numsOf s) (numsOf t) = numsOf (s ++ { data := #[47] } ++ t) := by
      unfold joinZ; rw [if_neg hn, nums_cat, nums_cat, List.append_assoc]; rfl
    rw [e, strOfNums_numsOf]
    have hne : s.toList.isEmpty = false := empty_no he
    clear hn e he hs ht
    go_enter Tryd.func31, Tryd.ntmps31
    go_wp2
    go_ret
    exact ⟨rfl, Below.refl _ _⟩

end Go.Proofs.YthcbiohmghaobaaDoor.Pnm
/-
  Layer 8: the reference.
-/
namespace Go.Proofs.YthcbiohmghaobaaDoor.Pnm
open Go.RowKit

set_option maxHeartbeats 1000000 in
theorem rlast_any (s : ByteArray) (w : World) (hs : s.size ≤ maxLen) : Calls Tryd.prog 95 #[.string s] w fun e w' => e = .returned (.int .i64 (lastZ (numsOf s))) ∧ w = w' := by
  unfold maxLen at hs
  obtain ⟨L, hL⟩ := named (lastZ (numsOf s))
  have HL : Hid (L = lastF (numsOf s) s.size) := by show _ = _; rw [hL.out]; unfold lastZ; rw [numsOf_length]
  have HA : Hid (∀ j (h : j < s.size), (numsOf s).getD j 0 = (s[j].toNat : Int)) := num_at s
  rw [← hL.out]
  clear hL
  go_enter Tryd.func95, Tryd.ntmps95
  go_wp2
  go_loop [3] (fun i => ∃ v : Int, i = .int .i64 v ∧ -1 ≤ v ∧ v < s.size ∧ lastF (numsOf s) (v + 1).toNat = L) (fun i => (intOf i + 1).toNat)
  case atStart => exact ⟨(s.size : Int) - 1, by go_num, by omega, by omega, by rw [HL.out]; congr 1; omega⟩
  case round =>
    obtain ⟨v, rfl, hv1, hv2, hv3⟩ := hrel
    by_cases h0 : 0 ≤ v
    · obtain ⟨k, rfl⟩ : ∃ k : Nat, v = k := ⟨v.toNat, by omega⟩
      have hk : k < s.size := by omega
      have e1 : ((k : Int) + 1).toNat = k + 1 := by omega
      rw [e1] at hv3
      have hx := HA.out k hk
      by_cases hb : (s[k].toNat : Int) = 47
      · have hb' : ((s[k].toNat : Int) == 47) = true := by rw [hb]; rfl
        have e2 : L = k := by rw [← hv3]; unfold lastF; rw [if_pos (by rw [hx]; exact hb)]
        clear hx
        go_wp2
        go_ret
        exact ⟨rfl, rfl⟩
      · have hb' : ((s[k].toNat : Int) == 47) = false := by simpa using hb
        have e2 : lastF (numsOf s) k = L := by rw [← hv3]; conv => rhs; unfold lastF; rw [if_neg (by rw [hx]; exact hb)]
        have E2 := Lib.hid e2
        clear hx hv3 e2
        go_wp2
        go_round
        case rel => exact ⟨(k : Int) - 1, by go_num, by omega, by omega, by rw [← E2.out]; congr 1; omega⟩
        case measure => simp [intOf]
    · obtain rfl : v = -1 := by omega
      have e2 : L = -1 := by rw [← hv3]; rfl
      clear hv3
      go_wp2
      go_ret
      exact ⟨rfl, rfl⟩

set_option maxHeartbeats 1000000 in
theorem rparent_any (s : ByteArray) (w : World) (hs : s.size ≤ maxLen) : Calls Tryd.prog 71 #[.string s] w fun e w' => e = .returned (.string (strOfNums (parZ (numsOf s)))) ∧ w = w' := by
  have hb := lastF_bd (numsOf s) (numsOf s).length
  rw [numsOf_length] at hb
  obtain ⟨L, hL⟩ := named (lastZ (numsOf s))
  have hb' : -1 ≤ L ∧ L < s.size := by rw [hL.out]; unfold lastZ; rw [numsOf_length]; exact hb
  obtain ⟨b1, b2⟩ := hb'
  unfold maxLen at hs
  have HS := Lib.hid hs
  clear hb
  by_cases h0 : L < 0
  · have e : parZ (numsOf s) = [] := by unfold parZ; rw [← hL.out, if_pos h0]
    rw [e]
    go_enter Tryd.func71, Tryd.ntmps71
    go_wp2_with fail
    refine (rlast_any s w HS.out).mono ?_; rintro e w1 ⟨rfl, rfl⟩
    rw [← hL.out]
    go_wp2_with fail
    go_ret
    exact ⟨rfl, rfl⟩
  · obtain ⟨k, rfl⟩ : ∃ k : Nat, L = k := ⟨L.toNat, by omega⟩
    have e : parZ (numsOf s) = (numsOf s).take k := by unfold parZ; rw [← hL.out, if_neg h0]; rfl
    rw [e]
    go_enter Tryd.func71, Tryd.ntmps71
    go_wp2_with fail
    refine (rlast_any s w HS.out).mono ?_; rintro e w1 ⟨rfl, rfl⟩
    rw [← hL.out]
    go_wp2_with fail
    go_ret
    exact ⟨by show Ending.returned (.string (s.extract 0 k)) = _; rw [ext_str]; rfl, rfl⟩

set_option maxHeartbeats 1000000 in
theorem rbase_any (s : ByteArray) (w : World) (hs : s.size ≤ maxLen) : Calls Tryd.prog 73 #[.string s] w fun e w' => e = .returned (.string (strOfNums (basZ (numsOf s)))) ∧ w = w' := by
  have hb := lastF_bd (numsOf s) (numsOf s).length
  rw [numsOf_length] at hb
  obtain ⟨L, hL⟩ := named (lastZ (numsOf s))
  obtain ⟨k, hk⟩ : ∃ k : Nat, L + 1 = k := ⟨(L + 1).toNat, by rw [hL.out]; unfold lastZ; rw [numsOf_length]; omega⟩
  have hks : k ≤ s.size := by have := hL.out; unfold lastZ at this; rw [numsOf_length] at this; omega
  unfold maxLen at hs
  have hki : (k : Int) ≤ s.size := by omega
  have hw : IntKind.i64.wrap (L + 1) = k := by rw [hk]; exact wrapP (by omega) (by omega)
  have HS := Lib.hid hs
  have e : basZ (numsOf s) = (numsOf s).drop k := by unfold basZ; rw [← hL.out, hk]; rfl
  rw [e]
  clear hb hk e
  go_enter Tryd.func73, Tryd.ntmps73
  go_wp2_with fail
  refine (rlast_any s w HS.out).mono ?_; rintro e w1 ⟨rfl, rfl⟩
  rw [← hL.out]
  go_wp2_with fail
  go_ret
  exact ⟨by show Ending.returned (.string (s.extract k s.size)) = _; rw [ext_str, List.take_of_length_le (by rw [List.length_drop, numsOf_length]; exact Nat.le_refl _)], rfl⟩
end Go.Proofs.YthcbiohmghaobaaDoor.Pnm
/-
  Layer 8: the reference's Compare, Split.
-/
namespace Go.Proofs.YthcbiohmghaobaaDoor.Pnm
open Go.RowKit

end Go.Proofs.YthcbiohmghaobaaDoor.Pnm
/-
  Layer 8: the program's Parent, Base, Split, Join, Compare.
-/
namespace Go.Proofs.YthcbiohmghaobaaDoor.Pnm
open Go.RowKit

set_option maxHeartbeats 1000000 in
theorem lastS_any (s : ByteArray) (w : World) (hs : s.size ≤ maxLen) : Calls Tryd.prog 88 #[.string s, .int .u8 47] w fun e w' => e = .returned (.int .i64 (lastZ (numsOf s))) ∧ w = w' := by
  unfold maxLen at hs
  obtain ⟨L, hL⟩ := named (lastZ (numsOf s))
  have HL : Hid (L = lastF (numsOf s) s.size) := by show _ = _; rw [hL.out]; unfold lastZ; rw [numsOf_length]
  have HA : Hid (∀ j (h : j < s.size), (numsOf s).getD j 0 = (s[j].toNat : Int)) := num_at s
  rw [← hL.out]
  clear hL
  go_enter Tryd.func88, Tryd.ntmps88
  go_wp2
  go_loop [5] (fun i => ∃ v : Int, i = .int .i64 v ∧ -1 ≤ v ∧ v < s.size ∧ lastF (numsOf s) (v + 1).toNat = L) (fun i => (intOf i + 1).toNat)
  case atStart => exact ⟨(s.size : Int) - 1, by go_num, by omega, by omega, by rw [HL.out]; congr 1; omega⟩
  case round =>
    obtain ⟨v, rfl, hv1, hv2, hv3⟩ := hrel
    by_cases h0 : 0 ≤ v
    · obtain ⟨k, rfl⟩ : ∃ k : Nat, v = k := ⟨v.toNat, by omega⟩
      have hk : k < s.size := by omega
      have e1 : ((k : Int) + 1).toNat = k + 1 := by omega
      rw [e1] at hv3
      have hx := HA.out k hk
      by_cases hb : (s[k].toNat : Int) = 47
      · have hb' : ((s[k].toNat : Int) == 47) = true := by rw [hb]; rfl
        have e2 : L = k := by rw [← hv3]; unfold lastF; rw [if_pos (by rw [hx]; exact hb)]
        clear hx
        go_wp2
        go_ret
        exact ⟨rfl, rfl⟩
      · have hb' : ((s[k].toNat : Int) == 47) = false := by simpa using hb
        have e2 : lastF (numsOf s) k = L := by rw [← hv3]; conv => rhs; unfold lastF; rw [if_neg (by rw [hx]; exact hb)]
        have E2 := Lib.hid e2
        clear hx hv3 e2
        go_wp2
        go_round
        case rel => exact ⟨(k : Int) - 1, by go_num, by omega, by omega, by rw [← E2.out]; congr 1; omega⟩
        case measure => simp [intOf]
    · obtain rfl : v = -1 := by omega
      have e2 : L = -1 := by rw [← hv3]; rfl
      clear hv3
      go_wp2
      go_ret
      exact ⟨rfl, rfl⟩

theorem plast (s : ByteArray) (w : World) (hs : s.size ≤ maxLen) : Calls Tryd.prog 60 #[.string s, .int .u8 47] w fun e w' => e = .returned (.int .i64 (lastZ (numsOf s))) ∧ w = w' := by
  go_enter Tryd.func60, Tryd.ntmps60
  go_wp2_with fail
  refine (lastS_any s w hs).mono ?_; rintro e w1 ⟨rfl, rfl⟩
  go_wp2_with fail
  go_ret
  exact ⟨rfl, rfl⟩
theorem cmp_lib : ∀ a b : List UInt8, Lib.compareBytes a b = cmpZ (a.map fun x => (x.toNat : Int)) (b.map fun x => (x.toNat : Int))
  | [], [] => rfl
  | [], _ :: _ => rfl
  | _ :: _, [] => rfl
  | a :: xs, b :: ys => by
    have e1 : (a < b) ↔ ((a.toNat : Int) < (b.toNat : Int)) := by rw [UInt8.lt_iff_toNat_lt]; omega
    have e2 : (b < a) ↔ ((b.toNat : Int) < (a.toNat : Int)) := by rw [UInt8.lt_iff_toNat_lt]; omega
    rw [List.map_cons, List.map_cons]
    unfold Lib.compareBytes cmpZ
    rw [cmp_lib xs ys]
    by_cases h1 : a < b
    · rw [if_pos h1, if_pos (e1.1 h1)]
    · rw [if_neg h1, if_neg (fun h => h1 (e1.2 h))]
      by_cases h2 : b < a
      · rw [if_pos h2, if_pos (e2.1 h2)]
      · rw [if_neg h2, if_neg (fun h => h2 (e2.2 h))]
set_option maxHeartbeats 1000000 in
theorem pparent (s : ByteArray) (w : World) (hs : s.size ≤ maxLen) : Calls Tryd.prog 33 #[.string s] w fun e w' => e = .returned (.string (strOfNums (parZ (numsOf s)))) ∧ Below w.heap.size w w' := by
  have hb := lastF_bd (numsOf s) (numsOf s).length
  rw [numsOf_length] at hb
  obtain ⟨L, hL⟩ := named (lastZ (numsOf s))
  have hb' : -1 ≤ L ∧ L < s.size := by rw [hL.out]; unfold lastZ; rw [numsOf_length]; exact hb
  obtain ⟨b1, b2⟩ := hb'
  have HS := Lib.hid hs
  unfold maxLen at hs
  clear hb
  by_cases h0 : L < 0
  · have e : parZ (numsOf s) = [] := by unfold parZ; rw [← hL.out, if_pos h0]
    rw [e]
    go_enter Tryd.func33, Tryd.ntmps33
    go_wp2_with fail
    refine (plast s w HS.out).mono ?_; rintro e w1 ⟨rfl, rfl⟩
    rw [← hL.out]
    go_wp2_with fail
    go_ret
    exact ⟨rfl, Below.refl _ _⟩
  · obtain ⟨k, rfl⟩ : ∃ k : Nat, L = k := ⟨L.toNat, by omega⟩
    have e : parZ (numsOf s) = (numsOf s).take k := by unfold parZ; rw [← hL.out, if_neg h0]; rfl
    rw [e]
    go_enter Tryd.func33, Tryd.ntmps33
    go_wp2_with fail
    refine (plast s w HS.out).mono ?_; rintro e w1 ⟨rfl, rfl⟩
    rw [← hL.out]
    go_wp2_with fail
    go_ret
    exact ⟨by show Ending.returned (.string (s.extract 0 k)) = _; rw [ext_str]; rfl, Below.refl _ _⟩

set_option maxHeartbeats 1000000 in
theorem pbase (s : ByteArray) (w : World) (hs : s.size ≤ maxLen) : Calls Tryd.prog 75 #[.string s] w fun e w' => e = .returned (.string (strOfNums (basZ (numsOf s)))) ∧ Below w.heap.size w w' := by
  have hb := lastF_bd (numsOf s) (numsOf s).length
  rw [numsOf_length] at hb
  obtain ⟨L, hL⟩ := named (lastZ (numsOf s))
  obtain ⟨k, hk⟩ : ∃ k : Nat, L + 1 = k := ⟨(L + 1).toNat, by rw [hL.out]; unfold lastZ; rw [numsOf_length]; omega⟩
  have hks : k ≤ s.size := by have := hL.out; unfold lastZ at this; rw [numsOf_length] at this; omega
  have HS := Lib.hid hs
  unfold maxLen at hs
  have hki : (k : Int) ≤ s.size := by omega
  have hw : IntKind.i64.wrap (L + 1) = k := by rw [hk]; exact wrapP (by omega) (by omega)
  have e : basZ (numsOf s) = (numsOf s).drop k := by unfold basZ; rw [← hL.out, hk]; rfl
  rw [e]
  clear hb hk e
  go_enter Tryd.func75, Tryd.ntmps75
  go_wp2_with fail
  refine (plast s w HS.out).mono ?_; rintro e w1 ⟨rfl, rfl⟩
  rw [← hL.out]
  go_wp2_with fail
  go_ret
  exact ⟨by show Ending.returned (.string (s.extract k s.size)) = _; rw [ext_str, List.take_of_length_le (by rw [List.length_drop, numsOf_length]; exact Nat.le_refl _)], Below.refl _ _⟩
end Go.Proofs.YthcbiohmghaobaaDoor.Pnm
/-
  Layer 19: the program's put. (gen_VfsPut.py writes it.)
-/
namespace Go.Proofs.YthcbiohmghaobaaDoor.Vfs
open Go.RowKit Go.MapKept Go.Proofs.YthcbiohmghaobaaDoor.Pnm Flt

section
variable {N : Nat} {F S : Int} {R : List Int} {W D : Nat → Prop} {w : World} {f : Nat} {s : St} {mp nm : Nat} {ra : Option Addr} {rc : Nat} {M : List InM}
set_option maxRecDepth 100000 in
set_option maxHeartbeats 4000000 in
theorem put_any (h : FsP N F S R W D w f s mp nm ra rc M) {p : ByteArray} {i j : Nat} {y : InM} (hy : M[i]? = some y) (hf : fnd s.ps p = none) (hj : fnd s.ps (parB p) = some j) (hN : s.ps.length < N) (hp : p.size ≤ 65536) (hl : (s.at i).l ≤ N) (hN2 : N ≤ 1000000) :
    Calls Tryd.prog 54 #[.pointer (some ⟨f, 0, none⟩), .string p, .pointer (some ⟨y.g, 0, none⟩)] w fun e w' => e = .returned (.tuple #[]) ∧ ∃ W' nm' M', FsP N F S R W' D w' f (putS s p i) mp nm' ra rc M' ∧ (∀ k, W' k → W k ∨ (w.heap.size ≤ k ∧ k < w'.heap.size)) ∧ Only W w w' := by
  have hi : i < s.is.length := by rw [← h.ml]; exact (List.getElem?_eq_some_iff.1 hy).1
  obtain ⟨q1, q2, q3⟩ := putS_wf h.wf hi hj hN hp hl
  have Q1 := Lib.hid q1; have Q3 := Lib.hid q3
  have hI := h.e i _ _ (at_some hi) hy
  have hjl := h.wf.lt hj
  have hnl := h.wf.ns _ (at_mem hjl)
  have ll := (h.wf.l _ (at_mem hi)).1
  have HF := Lib.hid h; have HY := Lib.hid hy; have HFN := Lib.hid hf; have HJ := Lib.hid hj; have HN := Lib.hid hN; have HP := Lib.hid hp
  obtain ⟨g, hg⟩ := named y.g
  obtain ⟨L, hL⟩ := named (s.at i).l
  have l0 : 0 ≤ L := by rw [hL.out]; exact ll
  have l1 : L ≤ 1000000 := by rw [hL.out]; omega
  have IO : Hid (ObjAt w g 80 (inoV (s.at i) y)) := by rw [hg.out]; exact hI.o
  have c3 : w.cell? ⟨g, 3, none⟩ = some (.int .i64 L) := by rw [hL.out]; exact IO.out.get 3 rfl
  have cf := h.o.get 0 rfl
  have FO := Lib.hid h.o
  have NG : Hid (f ≠ g) := by
    show f ≠ g
    rw [hg.out]
    intro e
    have h1 := h.o; have h2 := hI.o
    unfold ObjAt at h1 h2
    rw [e, h2] at h1
    injection h1 with h1; injection h1 with _ h1
    exact absurd h1 (by decide)
  have MG : Hid (mp ≠ g) := by
    show mp ≠ g
    rw [hg.out]
    intro e
    obtain ⟨xs, clk, h1, _⟩ := h.m
    have h2 := hI.o
    unfold ObjAt at h2
    rw [← e, h1] at h2; cases h2
  have FM : Hid (f ≠ mp) := by
    show f ≠ mp
    intro e
    obtain ⟨xs, clk, h1, _⟩ := h.m
    have h2 := h.o
    unfold ObjAt at h2
    rw [e, h1] at h2; cases h2
  have SI : Hid ((Tryd.prog.info? 3).map (·.size) = some 1) := by show _ = _; kernel_rfl
  have SS : Hid ((Tryd.prog.info? 44).map (·.size) = some 1) := by show _ = _; kernel_rfl
  have ES : Hid (ElemS Tryd.prog 9) := elemS (by kernel_rfl)
  obtain ⟨q, hq⟩ := named (parB p); obtain ⟨bq, hbq⟩ := named (basB p)
  have PC : Hid (∀ w, Calls Tryd.prog 33 #[.string p] w fun e w'' => e = .returned (.string q) ∧ Below w.heap.size w w'') := fun w => by rw [hq.out]; exact pparent p w (by unfold maxLen; omega)
  have BC : Hid (∀ w, Calls Tryd.prog 75 #[.string p] w fun e w'' => e = .returned (.string bq) ∧ Below w.heap.size w w'') := fun w => by rw [hbq.out]; exact pbase p w (by unfold maxLen; omega)
  have NW : Hid (s.ps.length + 1 ≤ 1000000) := by show _ ≤ _; omega
  have NSL : Hid ((s.at j).ns.length ≤ s.ps.length) := hnl
  have LW : Hid (IntKind.i64.wrap (L + 1) = L + 1) := by show _ = _; exact wrapP (by omega) (by omega)
  have lw := LW.out
  rw [← hg.out]
  clear h hy hf hj hN hp hl hI hnl ll q1 q2 q3 hi hjl hN2
  go_enter Tryd.func54, Tryd.ntmps54
  go_wp2_with (first | (refine wpList_store_cell rfl 3 _ _ rfl g 3 rfl (.int .i64 (L + 1)) rfl rfl SI.out 80 _ IO.out (by show 3 < 10; omega) ?_; intro w1 g1 t1; have G1 := Lib.hid g1; have T1 := Lib.hid t1; have FO1 := Lib.hid (FO.out.turnB t1 NG.out); have cf1 := FO1.out.get 0 rfl; have MP1 := Lib.hid (HF.out.m.block (t1.other MG.out)); clear g1 t1) | (refine wpList_update_map rfl 81 _ _ _ rfl 9 78 Tryd.underlying81 .string Tryd.underlying9 mp rfl (.string p) rfl trivial (.pointer (some ⟨g, 0, none⟩)) rfl nm _ MP1.out ?_; intro w2 m2 t2; have M2 := Lib.hid m2; have T2 := Lib.hid t2; have FO2 := Lib.hid (FO1.out.turnB t2 FM.out); clear m2 t2))
  have F1 : Hid (FsP N F S R W D w1 f (lnkI s i) mp nm ra rc M) := HF.out.cel HY.out (by rw [← hg.out]; exact T1.out) (by rw [← hg.out]; have := G1.out; rw [hL.out] at this; exact this) rfl rfl Q1.out
  obtain ⟨nm2, hnm2⟩ := named (if mpF s.ps M (.string p) = none then nm + 1 else nm)
  have F2 : Hid (FsP N F S R W D w2 f (addP (lnkI s i) p i) mp nm2 ra rc M) := F1.out.path HY.out HFN.out HN.out HP.out (by rw [hnm2.out, ← hg.out]; exact M2.out) T2.out
  have GT := F2.out.get (p := parB p) (i := j) (by show fnd (s.ps ++ [(p, i)]) _ = _; rw [fnd_snoc, HJ.out])
  obtain ⟨yj, hyj, sj, hIj⟩ := GT
  obtain ⟨xj, hxj⟩ := named ((addP (lnkI s i) p i).at j)
  obtain ⟨gj, hgj⟩ := named yj.g; obtain ⟨nv, hnv⟩ := named yj.nv; obtain ⟨ns, hns⟩ := named xj.ns; obtain ⟨n, hn⟩ := named ns.length
  have NB : Hid (n < 1000000) := by
    show n < _
    have e : xj.ns = (s.at j).ns := by
      rw [hxj.out]
      show ((lnkI s i).at j).ns = _
      unfold lnkI
      by_cases c : i = j
      · subst c
        rw [at_set (by rw [← HF.out.ml]; exact (List.getElem?_eq_some_iff.1 HY.out).1)]
      · rw [at_ne c]
    have := NSL.out; have := NW.out
    rw [hn.out, hns.out, e]; omega
  have OJ2 : Hid (ObjAt w2 gj 80 (inoV xj yj)) := by rw [hgj.out, hxj.out]; exact hIj.o
  have NJ2 : Hid (w2.ownsRow 0 9 1 nv n (ssC ns)) := by rw [hnv.out, hn.out, hns.out, hxj.out]; exact hIj.n
  have LK : Hid (∀ wS, Below w2.heap.size w2 wS → (Instr.lookup 81 (.map (some mp)) (.string q) false).run Tryd.prog wS = .ok (.pointer (some ⟨gj, 0, none⟩)) wS) := fun wS hb => by
    have ql := (run_lookF (P := Tryd.prog) (w := wS) 81 9 78 Tryd.underlying81 .string Tryd.underlying9 (.pointer none) (by kernel_rfl) mp nm2 (.string q) (show IsKey .string (.string q) from trivial) _ (F2.out.below hb).m).2
    rw [mpF_some (i := j) (y := yj) (by show fnd (s.ps ++ [(p, i)]) _ = _; rw [fnd_snoc, hq.out, HJ.out]) hyj] at ql
    rw [hgj.out]
    exact ql
  have KS : Hid (∀ wS, Below w2.heap.size w2 wS → (fun wS => Below w2.heap.size w2 wS ∧ wS.cell? ⟨f, 0, none⟩ = some (.map (some mp)) ∧ (Instr.lookup 81 (.map (some mp)) (.string q) false).run Tryd.prog wS = .ok (.pointer (some ⟨gj, 0, none⟩)) wS) wS) := fun wS hb => ⟨hb, (FO2.out.below hb FO2.out.lt).get 0 rfl, LK.out wS hb⟩
  have NV9 : Hid ((inoV xj yj)[9]? = some nv) := by show some yj.nv = _; rw [hnv.out]
  have OJL : Hid (xj = (addP (lnkI s i) p i).at j) := hxj.out
  have YJ := Lib.hid hyj
  clear hyj sj hIj c3 cf cf1 lw
  refine wp_region_held_drew (S := (fun wS => Below w2.heap.size w2 wS ∧ wS.cell? ⟨f, 0, none⟩ = some (.map (some mp)) ∧ (Instr.lookup 81 (.map (some mp)) (.string q) false).run Tryd.prog wS = .ok (.pointer (some ⟨gj, 0, none⟩)) wS)) (by kernel_rfl) (KS.out _ (Below.refl _ _).drew) (fun hHeld => ?_)
  refine tk 0 ?_; simp only [Act.put, sbA, scZ, scS]
  refine tk 1 ?_; simp only [Act.put, sbA, scZ, scS]
  refine tk 2 ?_; simp only [Act.put, sbA, scZ, scS]
  refine tk 3 ?_; simp only [Act.put, sbA, scZ, scS]
  refine tk 4 ?_; simp only [Act.put, sbA, scZ, scS]
  refine rd 5 (fun K hK => ?_)
  go_simp
  refine (PC.out w2.drew).mono ?_; rintro e w3 ⟨rfl, b3⟩
  have B3 : Hid (Below w2.heap.size w2 w3) := belT (Below.refl w2.heap.size w2).drew b3
  clear b3
  refine hK.out _ _ (KS.out _ B3.out) (fun hHeld => ?_)
  clear hK K
  (try simp only [Act.put, sbA, scZ, scS])
  refine tk 6 ?_; simp only [Act.put, sbA, scZ, scS]
  refine tk 7 ?_; simp only [Act.put, sbA, scZ, scS]
  refine wpAnyH_done (by kernel_rfl) ?_ _
  have OJ := Lib.hid (OJ2.out.below B3.out OJ2.out.lt)
  have NJ := Lib.hid (own_stay' NJ2.out B3.out (Nat.le_refl _))
  have FIN : Hid (∀ v6 w5 w6 w7, Below w3.heap.size w3 w5 → w6.ownsRow 0 9 1 v6 (n + 1) (ssC (ns ++ [bq])) → (∀ k, k < w5.heap.size → some k ≠ nv.ownBlock → w6.heap[k]? = w5.heap[k]?) → (v6.ownBlock = nv.ownBlock ∨ v6.ownBlock = some w5.heap.size) → Below 0 w5 w6 → ObjAt w7 gj 80 ((inoV xj yj).set 9 v6) → TurnB w6 w7 gj →
      ∃ W' nm' M', FsP N F S R W' D w7 f (putS s p i) mp nm' ra rc M' ∧ (∀ k, W' k → W k ∨ (w.heap.size ≤ k ∧ k < w7.heap.size)) ∧ Only W w w7) := fun v6 w5 w6 w7 b5 o6 k6 e6 b6 g7 t7 => by
    have b25 : Below w2.heap.size w2 w5 := belT B3.out b5
    have F5 := F2.out.below b25
    rw [hnv.out] at k6 e6
    rw [hgj.out] at g7 t7
    rw [hns.out, OJL.out, hbq.out] at o6
    rw [OJL.out] at g7
    have hW : namI (addP (lnkI s i) p i) j (basB p) = putS s p i := by unfold putS; rw [HJ.out]; rfl
    have FF := F5.nam YJ.out o6 k6 e6 b6.size g7 t7 (by rw [hW]; exact Q3.out)
    rw [hW] at FF
    have s12 : w1.heap.size = w.heap.size := T1.out.size
    have s23 : w2.heap.size = w1.heap.size := T2.out.size
    have s5 := b25.size
    refine ⟨_, _, _, FF, fun k hk => hk.imp id fun q => ⟨by omega, q.2⟩, ?_⟩
    have wg : W g := by rw [hg.out]; exact (HF.out.e i _ _ (at_some (by rw [← HF.out.ml]; exact (List.getElem?_eq_some_iff.1 HY.out).1)) HY.out).wg
    have hIj := F5.e j _ _ (at_some (by rw [← F5.ml]; exact (List.getElem?_eq_some_iff.1 YJ.out).1)) YJ.out
    have o1 : Only W w w1 := ⟨(T1.out.below (Nat.zero_le _)).os, (T1.out.below (Nat.zero_le _)).tape, (T1.out.below (Nat.zero_le _)).output, Nat.le_of_eq s12.symm, fun k _ hk => T1.out.other fun e => hk (by rw [e]; exact wg)⟩
    have o2 : Only W w1 w2 := ⟨(T2.out.below (Nat.zero_le _)).os, (T2.out.below (Nat.zero_le _)).tape, (T2.out.below (Nat.zero_le _)).output, Nat.le_of_eq s23.symm, fun k _ hk => T2.out.other fun e => hk (by rw [e]; exact HF.out.wm)⟩
    have o5 : Only W w2 w5 := Only.of_below b25 (Nat.le_refl _)
    have o6' : Only W w5 w6 := ⟨b6.os, b6.tape, b6.output, b6.size, fun k hk hw => k6 k hk fun e => hw (hIj.nw k e.symm)⟩
    have o7 : Only W w6 w7 := ⟨(t7.below (Nat.zero_le _)).os, (t7.below (Nat.zero_le _)).tape, (t7.below (Nat.zero_le _)).output, Nat.le_of_eq t7.size.symm, fun k _ hk => t7.other fun e => hk (by rw [e]; exact hIj.wg)⟩
    exact (((o1.trans o2).trans o5).trans o6').trans o7
  clear OJ2 NJ2 KS LK
  go_wp2_with fail
  refine wp_region_held_drew (S := fun _ => True) (by kernel_rfl) trivial (fun hHeld => ?_)
  refine tk 0 ?_; simp only [Act.put, sbA, scZ, scS]
  refine tk 1 ?_; simp only [Act.put, sbA, scZ, scS]
  refine tk 2 ?_; simp only [Act.put, sbA, scZ, scS]
  refine tk 3 ?_; simp only [Act.put, sbA, scZ, scS]
  refine tk 5 ?_; simp only [Act.put, sbA, scZ, scS]
  have OJD := Lib.hid (OJ.out.below (Below.refl w3.heap.size w3).drew OJ.out.lt)
  refine rdy (Go.Proofs.YthcbiohmghaobaaDoor.rc 4 (fun K hK => ?_) (Go.Proofs.YthcbiohmghaobaaDoor.rc 6 (fun K hK => ?_) .nil))
  · refine step_load_run rfl 44 _ rfl ⟨gj, 9, none⟩ rfl nv (load_sl Tryd.underlying44 SS.out (OJD.out.get 9 NV9.out)) ?_
    refine hK.out _ _ (trivial) (fun hHeld => ?_)
    clear hK K
    (try simp only [Act.put, sbA, scZ, scS])
    refine rd 6 (fun K hK => ?_)
    go_simp
    refine (BC.out w3.drew).mono ?_; rintro e w4 ⟨rfl, b4⟩
    have B4 : Hid (Below w3.heap.size w3 w4) := belT (Below.refl w3.heap.size w3).drew b4
    have OJ4 := Lib.hid (OJ.out.below B4.out OJ.out.lt)
    clear b4
    refine hK.out _ _ (trivial) (fun hHeld => ?_)
    clear hK K
    (try simp only [Act.put, sbA, scZ, scS])
    refine rd 7 (fun K hK => ?_)
    refine step_lit_run rfl 44 9 _ rfl (.string bq) rfl (ssC [bq]) (run_lit_ss1 _ _ Tryd.underlying44 ES.out bq) ?_
    intro w5 g5 b5
    have G5 : Hid (ObjAt w5 w4.heap.size 9 (ssC [bq])) := g5
    have B5 : Hid (Below w3.heap.size w3 w5) := B4.out.trans (b5.mono B4.out.size)
    have OJ5 := Lib.hid (OJ.out.below B5.out OJ.out.lt)
    clear g5 b5
    refine hK.out _ _ (trivial) (fun hHeld => ?_)
    clear hK K
    (try simp only [Act.put, sbA, scZ, scS])
    refine rd 8 (fun K hK => ?_)
    have NJ5 := Lib.hid (own_stay' NJ.out B5.out (Nat.le_refl _))
    refine step_append_ss rfl _ _ 44 rfl 9 0 Tryd.underlying44 ES.out nv n ns rfl NJ5.out (some ⟨w4.heap.size, 0, none⟩) 1 1 [bq] rfl (ObjAt.ss G5.out) rfl (by have := NB.out; omega) (Nat.zero_le _) ?_
    intro v6 w6 o6 b6 k6 e6
    have O6 := Lib.hid o6; have B6 := Lib.hid b6; have K6 := Lib.hid k6; have E6 := Lib.hid e6
    have OJ6 : Hid (ObjAt w6 gj 80 (inoV xj yj)) := (K6.out _ OJ5.out.lt fun e => not_obj NJ5.out OJ5.out (by decide) e.symm).trans OJ5.out
    clear o6 b6 k6 e6
    refine hK.out _ _ (trivial) (fun hHeld => ?_)
    clear hK K
    (try simp only [Act.put, sbA, scZ, scS])
    refine tk 9 ?_; simp only [Act.put, sbA, scZ, scS]
    refine tk 10 ?_; simp only [Act.put, sbA, scZ, scS]
    refine rd 11 (fun K hK => ?_)
    refine step_store_one rfl 44 _ _ rfl gj 9 rfl v6 rfl (own_cell1 O6.out) SS.out 80 _ OJ6.out (by show 9 < 10; omega) ?_
    intro w7 g7 t7
    have G7 := Lib.hid g7; have T7 := Lib.hid t7
    clear g7 t7
    refine hK.out _ _ (trivial) (fun hHeld => ?_)
    clear hK K
    (try simp only [Act.put])
    refine wpAnyH_done (by kernel_rfl) ?_ _
    go_wp2_with fail
    refine bodyPost_end (results_none Tryd.results54 _ _ _) rfl ?_
    exact ⟨rfl, FIN.out v6 w5 w6 w7 B5.out O6.out K6.out E6.out B6.out G7.out T7.out⟩
  · go_simp
    refine (BC.out w3.drew).mono ?_; rintro e w4 ⟨rfl, b4⟩
    have B4 : Hid (Below w3.heap.size w3 w4) := belT (Below.refl w3.heap.size w3).drew b4
    have OJ4 := Lib.hid (OJ.out.below B4.out OJ.out.lt)
    clear b4
    refine hK.out _ _ (trivial) (fun hHeld => ?_)
    clear hK K
    (try simp only [Act.put, sbA, scZ, scS])
    refine rdy (Go.Proofs.YthcbiohmghaobaaDoor.rc 4 (fun K hK => ?_) (Go.Proofs.YthcbiohmghaobaaDoor.rc 7 (fun K hK => ?_) .nil))
    · refine step_load_run rfl 44 _ rfl ⟨gj, 9, none⟩ rfl nv (load_sl Tryd.underlying44 SS.out (OJ4.out.get 9 NV9.out)) ?_
      refine hK.out _ _ (trivial) (fun hHeld => ?_)
      clear hK K
      (try simp only [Act.put, sbA, scZ, scS])
      refine rd 7 (fun K hK => ?_)
      refine step_lit_run rfl 44 9 _ rfl (.string bq) rfl (ssC [bq]) (run_lit_ss1 _ _ Tryd.underlying44 ES.out bq) ?_
      intro w5 g5 b5
      have G5 : Hid (ObjAt w5 w4.heap.size 9 (ssC [bq])) := g5
      have B5 : Hid (Below w3.heap.size w3 w5) := B4.out.trans (b5.mono B4.out.size)
      have OJ5 := Lib.hid (OJ.out.below B5.out OJ.out.lt)
      clear g5 b5
      refine hK.out _ _ (trivial) (fun hHeld => ?_)
      clear hK K
      (try simp only [Act.put, sbA, scZ, scS])
      refine rd 8 (fun K hK => ?_)
      have NJ5 := Lib.hid (own_stay' NJ.out B5.out (Nat.le_refl _))
      refine step_append_ss rfl _ _ 44 rfl 9 0 Tryd.underlying44 ES.out nv n ns rfl NJ5.out (some ⟨w4.heap.size, 0, none⟩) 1 1 [bq] rfl (ObjAt.ss G5.out) rfl (by have := NB.out; omega) (Nat.zero_le _) ?_
      intro v6 w6 o6 b6 k6 e6
      have O6 := Lib.hid o6; have B6 := Lib.hid b6; have K6 := Lib.hid k6; have E6 := Lib.hid e6
      have OJ6 : Hid (ObjAt w6 gj 80 (inoV xj yj)) := (K6.out _ OJ5.out.lt fun e => not_obj NJ5.out OJ5.out (by decide) e.symm).trans OJ5.out
      clear o6 b6 k6 e6
      refine hK.out _ _ (trivial) (fun hHeld => ?_)
      clear hK K
      (try simp only [Act.put, sbA, scZ, scS])
      refine tk 9 ?_; simp only [Act.put, sbA, scZ, scS]
      refine tk 10 ?_; simp only [Act.put, sbA, scZ, scS]
      refine rd 11 (fun K hK => ?_)
      refine step_store_one rfl 44 _ _ rfl gj 9 rfl v6 rfl (own_cell1 O6.out) SS.out 80 _ OJ6.out (by show 9 < 10; omega) ?_
      intro w7 g7 t7
      have G7 := Lib.hid g7; have T7 := Lib.hid t7
      clear g7 t7
      refine hK.out _ _ (trivial) (fun hHeld => ?_)
      clear hK K
      (try simp only [Act.put])
      refine wpAnyH_done (by kernel_rfl) ?_ _
      go_wp2_with fail
      refine bodyPost_end (results_none Tryd.results54 _ _ _) rfl ?_
      exact ⟨rfl, FIN.out v6 w5 w6 w7 B5.out O6.out K6.out E6.out B6.out G7.out T7.out⟩
    · refine step_lit_run rfl 44 9 _ rfl (.string bq) rfl (ssC [bq]) (run_lit_ss1 _ _ Tryd.underlying44 ES.out bq) ?_
      intro w5 g5 b5
      have G5 : Hid (ObjAt w5 w4.heap.size 9 (ssC [bq])) := g5
      have B5 : Hid (Below w3.heap.size w3 w5) := B4.out.trans (b5.mono B4.out.size)
      have OJ5 := Lib.hid (OJ.out.below B5.out OJ.out.lt)
      clear g5 b5
      refine hK.out _ _ (trivial) (fun hHeld => ?_)
      clear hK K
      (try simp only [Act.put, sbA, scZ, scS])
      refine rd 4 (fun K hK => ?_)
      refine step_load_run rfl 44 _ rfl ⟨gj, 9, none⟩ rfl nv (load_sl Tryd.underlying44 SS.out (OJ5.out.get 9 NV9.out)) ?_
      refine hK.out _ _ (trivial) (fun hHeld => ?_)
      clear hK K
      (try simp only [Act.put, sbA, scZ, scS])
      refine rd 8 (fun K hK => ?_)
      have NJ5 := Lib.hid (own_stay' NJ.out B5.out (Nat.le_refl _))
      refine step_append_ss rfl _ _ 44 rfl 9 0 Tryd.underlying44 ES.out nv n ns rfl NJ5.out (some ⟨w4.heap.size, 0, none⟩) 1 1 [bq] rfl (ObjAt.ss G5.out) rfl (by have := NB.out; omega) (Nat.zero_le _) ?_
      intro v6 w6 o6 b6 k6 e6
      have O6 := Lib.hid o6; have B6 := Lib.hid b6; have K6 := Lib.hid k6; have E6 := Lib.hid e6
      have OJ6 : Hid (ObjAt w6 gj 80 (inoV xj yj)) := (K6.out _ OJ5.out.lt fun e => not_obj NJ5.out OJ5.out (by decide) e.symm).trans OJ5.out
      clear o6 b6 k6 e6
      refine hK.out _ _ (trivial) (fun hHeld => ?_)
      clear hK K
      (try simp only [Act.put, sbA, scZ, scS])
      refine tk 9 ?_; simp only [Act.put, sbA, scZ, scS]
      refine tk 10 ?_; simp only [Act.put, sbA, scZ, scS]
      refine rd 11 (fun K hK => ?_)
      refine step_store_one rfl 44 _ _ rfl gj 9 rfl v6 rfl (own_cell1 O6.out) SS.out 80 _ OJ6.out (by show 9 < 10; omega) ?_
      intro w7 g7 t7
      have G7 := Lib.hid g7; have T7 := Lib.hid t7
      clear g7 t7
      refine hK.out _ _ (trivial) (fun hHeld => ?_)
      clear hK K
      (try simp only [Act.put])
      refine wpAnyH_done (by kernel_rfl) ?_ _
      go_wp2_with fail
      refine bodyPost_end (results_none Tryd.results54 _ _ _) rfl ?_
      exact ⟨rfl, FIN.out v6 w5 w6 w7 B5.out O6.out K6.out E6.out B6.out G7.out T7.out⟩
end
end Go.Proofs.YthcbiohmghaobaaDoor.Vfs
/-
  Layer 19: the program's find, findKind.
-/
namespace Go.Proofs.YthcbiohmghaobaaDoor.Vfs
open Go.RowKit Go.MapKept Go.Proofs.YthcbiohmghaobaaDoor.Pnm

section
variable {N : Nat} {F S : Int} {R : List Int} {W D : Nat → Prop} {w : World} {f : Nat} {s : St} {mp nm : Nat} {ra : Option Addr} {rc : Nat} {M : List InM}
theorem look_some (h : FsP N F S R W D w f s mp nm ra rc M) {p : ByteArray} {i : Nat} {y : InM} (hf : fnd s.ps p = some i) (hy : M[i]? = some y) : (Instr.lookup 81 (.map (some mp)) (.string p) true).run Tryd.prog w = .ok (.tuple #[.pointer (some ⟨y.g, 0, none⟩), .bool true]) w := by
  have ql := (run_lookF (P := Tryd.prog) (w := w) 81 9 78 Tryd.underlying81 .string Tryd.underlying9 (.pointer none) (by kernel_rfl) mp nm (.string p) (show IsKey .string (.string p) from trivial) _ h.m).1
  rw [mpF_some hf hy] at ql
  exact ql
theorem look_none (h : FsP N F S R W D w f s mp nm ra rc M) {p : ByteArray} (hf : fnd s.ps p = none) : (Instr.lookup 81 (.map (some mp)) (.string p) true).run Tryd.prog w = .ok (.tuple #[.pointer none, .bool false]) w := by
  have ql := (run_lookF (P := Tryd.prog) (w := w) 81 9 78 Tryd.underlying81 .string Tryd.underlying9 (.pointer none) (by kernel_rfl) mp nm (.string p) (show IsKey .string (.string p) from trivial) _ h.m).1
  rw [mpF_none hf] at ql
  exact ql
set_option maxRecDepth 100000 in
theorem find_nil (p : ByteArray) (w : World) : Calls Tryd.prog 50 #[.pointer none, .string p] w fun e w' => e = .returned (.tuple #[.pointer none, .int .i64 1]) ∧ w = w' := by
  go_enter Tryd.func50, Tryd.ntmps50
  go_wp2_with fail
  go_ret2
  exact ⟨rfl, rfl⟩
set_option maxRecDepth 100000 in
theorem find_some (h : FsP N F S R W D w f s mp nm ra rc M) {p : ByteArray} {i : Nat} {y : InM} (hf : fnd s.ps p = some i) (hy : M[i]? = some y) :
    Calls Tryd.prog 50 #[.pointer (some ⟨f, 0, none⟩), .string p] w fun e w' => e = .returned (.tuple #[.pointer (some ⟨y.g, 0, none⟩), .int .i64 0]) ∧ w = w' := by
  have c0 := h.o.get 0 rfl
  have ql := look_some h hf hy
  clear h hf hy
  go_enter Tryd.func50, Tryd.ntmps50
  go_wp2_with fail
  go_ret2
  exact ⟨rfl, rfl⟩
set_option maxRecDepth 100000 in
theorem find_none (h : FsP N F S R W D w f s mp nm ra rc M) {p : ByteArray} (hf : fnd s.ps p = none) :
    Calls Tryd.prog 50 #[.pointer (some ⟨f, 0, none⟩), .string p] w fun e w' => e = .returned (.tuple #[.pointer none, .int .i64 19]) ∧ w = w' := by
  have c0 := h.o.get 0 rfl
  have ql := look_none h hf
  clear h hf
  go_enter Tryd.func50, Tryd.ntmps50
  go_wp2_with fail
  go_ret2
  exact ⟨rfl, rfl⟩
set_option maxRecDepth 100000 in
theorem kind_nil (p : ByteArray) (k : Int) (w : World) : Calls Tryd.prog 44 #[.pointer none, .string p, .int .i64 k] w fun e w' => e = .returned (.tuple #[.pointer none, .int .i64 1]) ∧ w = w' := by
  go_enter Tryd.func44, Tryd.ntmps44
  go_wp2_with fail
  refine (find_nil p w).mono ?_; rintro e w1 ⟨rfl, rfl⟩
  go_wp2_with fail
  go_ret2
  exact ⟨rfl, rfl⟩
set_option maxRecDepth 100000 in
theorem kind_none (h : FsP N F S R W D w f s mp nm ra rc M) {p : ByteArray} (hf : fnd s.ps p = none) (k : Int) :
    Calls Tryd.prog 44 #[.pointer (some ⟨f, 0, none⟩), .string p, .int .i64 k] w fun e w' => e = .returned (.tuple #[.pointer none, .int .i64 19]) ∧ w = w' := by
  have FN := Lib.hid (find_none h hf)
  clear h hf
  go_enter Tryd.func44, Tryd.ntmps44
  go_wp2_with fail
  refine FN.out.mono ?_; rintro e w1 ⟨rfl, rfl⟩
  go_wp2_with fail
  go_ret2
  exact ⟨rfl, rfl⟩
set_option maxRecDepth 100000 in
theorem kind_some (h : FsP N F S R W D w f s mp nm ra rc M) {p : ByteArray} {i : Nat} {y : InM} (hf : fnd s.ps p = some i) (hy : M[i]? = some y) (k : Int) :
    Calls Tryd.prog 44 #[.pointer (some ⟨f, 0, none⟩), .string p, .int .i64 k] w fun e w' => e = .returned (if (s.at i).k = k then .tuple #[.pointer (some ⟨y.g, 0, none⟩), .int .i64 0] else .tuple #[.pointer none, .int .i64 8]) ∧ w = w' := by
  have FN := Lib.hid (find_some h hf hy)
  obtain ⟨y', hy', _, hI⟩ := h.get hf
  obtain rfl : y' = y := Option.some.inj (hy'.symm.trans hy)
  have c0 := hI.o.get 0 rfl
  obtain ⟨K, hK⟩ := named (s.at i).k
  rw [← hK.out] at c0 ⊢
  clear h hf hy hy' hI hK
  by_cases hk : K = k
  · have ne : (K != k) = false := by simp [hk]
    rw [if_pos hk]
    clear hk
    go_enter Tryd.func44, Tryd.ntmps44
    go_wp2_with fail
    refine FN.out.mono ?_; rintro e w1 ⟨rfl, rfl⟩
    go_wp2_with fail
    go_ret2
    exact ⟨rfl, rfl⟩
  · have ne : (K != k) = true := by simpa using hk
    rw [if_neg hk]
    clear hk
    go_enter Tryd.func44, Tryd.ntmps44
    go_wp2_with fail
    refine FN.out.mono ?_; rintro e w1 ⟨rfl, rfl⟩
    go_wp2_with fail
    go_ret2
    exact ⟨rfl, rfl⟩
end
end Go.Proofs.YthcbiohmghaobaaDoor.Vfs
/-
  Layer 8: the program's components: an iterator over the parts of a path.
-/
namespace Go.Proofs.YthcbiohmghaobaaDoor.Pnm
open Go.RowKit Go.Shelf
attribute [local go_sem] Oper.semAt_some

def compsB (s : ByteArray) : List ByteArray := (comps (numsOf s)).map strOfNums

set_option maxRecDepth 100000 in
set_option maxHeartbeats 2000000 in
theorem comp1_in (F : Fence) (n : Nat) (hf : F.fn 90) (hro : F.round = none) (hn : 1 ≤ n) (l Bp n₀ : Nat) (s : ByteArray) (hs : s.size ≤ maxLen) (hb : Bp < n₀) (J Jx : List ByteArray → World → Prop)
    (hY : ∀ pre x W, J pre W → pre.length < (compsB s).length → YieldAt F (n - 1) Tryd.prog l #[.string x] W fun e W' =>
      (e = .returned (.bool true) ∧ J (pre ++ [x]) W' ∧ Below n₀ W W') ∨ (e = .returned (.bool false) ∧ Jx (pre ++ [x]) W'))
    (W : World) (hBp : W.cell? ⟨Bp, 0, none⟩ = some (.string s)) (h0 : J [] W) :
    CallsIn F n Tryd.prog 90 #[.func (.yield l) #[] #[], .pointer (some ⟨Bp, 0, none⟩)] W fun e W' => (∃ v, e = .returned v) ∧
      ((∃ ys, ys = compsB s ∧ J ys W') ∨ (∃ pre, pre <+: compsB s ∧ Jx pre W')) := by
  unfold maxLen at hs
  have NL := Lib.hid (numsOf_length s)
  have HA : Hid (∀ j (h : j < s.size), (numsOf s).getD j 0 = (s[j].toNat : Int)) := num_at s
  refine callsIn_of_wp Tryd.func90 rfl hf ?_ hro
  simp only [Tryd.ntmps90, List.size_toArray, List.length_cons, List.length_nil, Nat.reduceAdd, Nat.reduceSub, Array.replicate_succ, Array.replicate_zero, List.push_toArray, List.append_toArray, List.nil_append, List.cons_append]
  gi_wp2
  gi_loopw [3, 7] (fun f i wr => ∃ (a j : Nat) (pre : List ByteArray), f = .int .i64 a ∧ i = .int .i64 j ∧ j ≤ s.size ∧ a ≤ j ∧ (∀ k, a ≤ k → k < j → (numsOf s).getD k 0 ≠ 47) ∧ pre ++ (comps ((numsOf s).drop a)).map strOfNums = compsB s ∧ J pre wr ∧ Below n₀ W wr)
    (fun _ i _ => s.size + 1 - (intOf i).toNat)
  case atStart => exact ⟨0, 0, [], rfl, rfl, Nat.zero_le _, Nat.le_refl _, fun k _ h => by omega, rfl, h0, Below.refl _ _⟩
  case round =>
    obtain ⟨a, j, pre, rfl, rfl, hj, ha, hns, hpre, hJs, hnx⟩ := hrel
    have HP := Lib.hid hpre; have HN := Lib.hid hns; have HJ := Lib.hid hJs; have HX := Lib.hid hnx
    have hcell : wr.cell? ⟨Bp, 0, none⟩ = some (.string s) := (hnx.cell (p := ⟨Bp, 0, none⟩) hb).trans hBp
    clear hpre hns hJs hnx
    have m1 : (a : Int) ≤ j := by omega
    have m0 : (j : Int) ≤ s.size := by omega
    have nsl := Lib.hid (no_slash (zs := numsOf s) HN.out)
    by_cases hlt : j < s.size
    · have m3 : (j : Int) < s.size := by omega
      have hx := HA.out j hlt
      obtain ⟨x, hxe⟩ : ∃ x : Int, ((s[j].toNat : Nat) : Int) = x := ⟨_, rfl⟩
      rw [hxe] at hx
      by_cases h47 : x = 47
      · have m4 : (x != 47) = false := by rw [h47]; rfl
        have cut := cut_at (zs := numsOf s) ha (by rw [NL.out]; exact hlt) (by rw [hx]; exact h47)
        have e1 : Hid ((pre ++ [s.extract a j]) ++ (comps ((numsOf s).drop (j + 1))).map strOfNums = compsB s) := by
          show _ = _
          rw [← HP.out, cut, comps_cut nsl.out, List.map_cons, ext_str, List.append_assoc]; rfl
        have hlen : pre.length < (compsB s).length := by rw [← e1.out]; simp
        obtain ⟨fn, tmps, assign, body, hy, hR⟩ := hY pre (s.extract a j) wr HJ.out hlen
        clear hx h47 cut hlen
        gi_wp2
        refine hR.mono ?_
        rintro e W3 (⟨rfl, hJ3, hk3⟩ | ⟨rfl, hJx3⟩)
        · gi_wp2
          go_roundw
          case rel => exact ⟨j + 1, j + 1, pre ++ [s.extract a j], by go_num, by go_num, by omega, Nat.le_refl _, fun k h1 h2 => by omega, e1.out, hJ3, HX.out.trans hk3⟩
          case measure => simp [intOf]; omega
        · gi_wp2
          refine bodyPost_ret (results_none rfl _ _ _) rfl ?_
          exact ⟨⟨_, rfl⟩, .inr ⟨_, ⟨_, e1.out⟩, hJx3⟩⟩
      · have m4 : (x != 47) = true := by simpa using h47
        have HX47 : Hid ((numsOf s).getD j 0 ≠ 47) := by show _ ≠ _; rw [hx]; exact h47
        clear hx h47
        gi_wp2
        go_roundw
        case rel => exact ⟨a, j + 1, pre, rfl, by go_num, by omega, by omega, fun k h1 h2 => by
          by_cases e : k = j
          · rw [e]; exact HX47.out
          · exact HN.out k h1 (by omega), HP.out, HJ.out, HX.out⟩
        case measure => simp [intOf]; omega
    · obtain rfl : j = s.size := by omega
      have e1 : Hid (pre ++ [s.extract a s.size] = compsB s) := by
        show _ = _
        have e := nsl.out
        rw [List.take_of_length_le (by rw [List.length_drop, NL.out]; exact Nat.le_refl _)] at e
        rw [← HP.out, comps_one e, ext_str, List.take_of_length_le (by rw [List.length_drop, NL.out]; exact Nat.le_refl _)]; rfl
      have hlen : pre.length < (compsB s).length := by rw [← e1.out]; simp
      obtain ⟨fn, tmps, assign, body, hy, hR⟩ := hY pre (s.extract a s.size) wr HJ.out hlen
      clear hlen
      gi_wp2
      refine hR.mono ?_
      rintro e W3 (⟨rfl, hJ3, hk3⟩ | ⟨rfl, hJx3⟩)
      · gi_wp2
        go_end0
        exact ⟨⟨_, rfl⟩, .inl ⟨_, e1.out, hJ3⟩⟩
      · gi_wp2
        go_end0
        exact ⟨⟨_, rfl⟩, .inr ⟨_, ⟨[], by rw [List.append_nil]; exact e1.out⟩, hJx3⟩⟩

set_option maxHeartbeats 1000000 in
theorem comp_in (F : Fence) (n : Nat) (hf : F.fn 62) (hro : F.round = none) (s : ByteArray) (w : World) :
    CallsIn F n Tryd.prog 62 #[.string s] w fun e w' => e = .returned (.func (.func 90) #[] #[.pointer (some ⟨w.heap.size, 0, none⟩)]) ∧ w' = w.alloc (.cells #[.string s] 9) := by
  refine callsIn_of_wp Tryd.func62 rfl hf ?_ hro
  simp only [Tryd.ntmps62, List.size_toArray, List.length_cons, List.length_nil, Nat.reduceAdd, Nat.reduceSub, Array.replicate_succ, Array.replicate_zero, List.push_toArray, List.append_toArray, List.nil_append, List.cons_append]
  gi_wp2
  go_ret
  exact ⟨rfl, rfl⟩

theorem comp_stops (F : Fence) (n : Nat) (hf : F.fn 90) (hro : F.round = none) (hn : 1 ≤ n) (Bp n₀ : Nat) (s : ByteArray) (hs : s.size ≤ maxLen) (hb : Bp < n₀) (w : World) (hB : Bp < w.heap.size)
    (hc : w.cell? ⟨Bp, 0, none⟩ = some (.string s)) :
    SeqStopsK F n Tryd.prog 90 #[.pointer (some ⟨Bp, 0, none⟩)] (fun x : ByteArray => #[Value.string x]) (Below n₀) (fun ys => ys = compsB s) (fun pre => pre <+: compsB s) (compsB s).length w := fun l J Jx W hW _ _ hY h0 =>
  comp1_in F n hf hro hn l Bp n₀ s hs hb J Jx hY W ((hW.cell (p := ⟨Bp, 0, none⟩) hB).trans hc) h0
end Go.Proofs.YthcbiohmghaobaaDoor.Pnm
/-
  Layer 8: the program's Check.
-/
namespace Go.Proofs.YthcbiohmghaobaaDoor.Pnm
open Go.RowKit Go.Shelf
attribute [local go_sem] Oper.semAt_some

theorem comps_mem {z : Int} (hz : z ≠ 47) : ∀ zs : List Int, z ∈ zs ↔ ∃ c ∈ comps zs, z ∈ c
  | [] => by simp [comps]
  | y :: zs => by
    have ih := comps_mem hz zs
    unfold comps
    by_cases h : y = 47
    · rw [if_pos h, List.mem_cons, ih]
      constructor
      · rintro (e | ⟨c, hc, h1⟩)
        · exact absurd (e.trans h) hz
        · exact ⟨c, List.mem_cons_of_mem _ hc, h1⟩
      · rintro ⟨c, hc, h1⟩
        rcases List.mem_cons.1 hc with rfl | hc
        · cases h1
        · exact .inr ⟨c, hc, h1⟩
    · rw [if_neg h]
      cases hc : comps zs with
      | nil => exact absurd hc (comps_ne zs)
      | cons c cs =>
        rw [hc] at ih
        simp only [List.mem_cons, exists_eq_or_imp] at ih ⊢
        rw [ih, or_assoc]
def badS (x : ByteArray) : Prop := x = { data := #[] } ∨ x = { data := #[46] } ∨ x = { data := #[46, 46] }
instance (x : ByteArray) : Decidable (badS x) := by unfold badS; infer_instance
theorem bad_part (x : ByteArray) : badS x ↔ (numsOf x = [] ∨ numsOf x = [46] ∨ numsOf x = [46, 46]) := by
  unfold badS
  constructor
  · rintro (rfl | rfl | rfl)
    · exact .inl rfl
    · exact .inr (.inl rfl)
    · exact .inr (.inr rfl)
  · rintro (h | h | h)
    · exact .inl (nums_inj (h.trans rfl))
    · exact .inr (.inl (nums_inj (h.trans rfl)))
    · exact .inr (.inr (nums_inj (h.trans rfl)))
theorem comps_sub {zs : List Int} {c : List Int} (hc : c ∈ comps zs) {z : Int} (hz : z ∈ c) : z ∈ zs :=
  (comps_mem (fun e => comps_noslash zs c hc (e ▸ hz)) zs).2 ⟨c, hc, hz⟩
theorem comp_nums {s : ByteArray} {c : List Int} (hc : c ∈ comps (numsOf s)) : numsOf (strOfNums c) = c :=
  numsOf_strOfNums fun z hz => by
    have := comps_sub hc hz
    rw [numsOf_eq, List.mem_map] at this
    obtain ⟨b, _, rfl⟩ := this
    have := b.toNat_lt
    omega
theorem path_parts (s : ByteArray) : pathOk (numsOf s) ↔ (0 : Int) ∉ numsOf s ∧ ∀ x ∈ compsB s, ¬ badS x := by
  constructor
  · intro h
    refine ⟨fun h0 => ?_, fun x hx => ?_⟩
    · obtain ⟨c, hc, hz⟩ := (comps_mem (by decide) _).1 h0
      exact (h c hc).2.2.2 hz
    · obtain ⟨c, hc, rfl⟩ := List.mem_map.1 hx
      rw [bad_part, comp_nums hc]
      obtain ⟨h1, h2, h3, _⟩ := h c hc
      rintro (e | e | e)
      · exact h1 e
      · exact h2 e
      · exact h3 e
  · rintro ⟨h0, h⟩ c hc
    have hb := h _ (List.mem_map.2 ⟨c, hc, rfl⟩)
    rw [bad_part, comp_nums hc] at hb
    exact ⟨fun e => hb (.inl e), fun e => hb (.inr (.inl e)), fun e => hb (.inr (.inr e)), fun hz => h0 (comps_sub hc hz)⟩
theorem idx_zero (s : ByteArray) (k : Int) (hk : Lib.indexByte s.data.toList 0 = k) : (0 ≤ k ↔ (0 : Int) ∈ numsOf s) := by
  rw [← hk]; exact idx_byte s 0

theorem res14 (tmps : Array Value) (W : World) (g : Nat) (z : Int) (hp : tmps.getD 2 undef = .pointer (some ⟨g, 0, none⟩)) (hc : W.cell? ⟨g, 0, none⟩ = some (.int .i64 z)) :
    (results Tryd.f34 tmps).run Tryd.prog W = .ok (.int .i64 z) W := by
  have hp' : tmps[2]?.getD undef = .pointer (some ⟨g, 0, none⟩) := by simpa using hp
  simp [results, Tryd.f34, hp', go_sem, hc]

set_option maxHeartbeats 2000000 in
theorem pcheck_long (s : ByteArray) (w : World) (h1 : (65536 : Int) < s.size) : Calls Tryd.prog 34 #[.string s] w fun e w' => e = .returned (.int .i64 7) ∧ Below w.heap.size w w' := by
  go_enter Tryd.func34, Tryd.ntmps34
  go_wp2
  exact bodyPost_ret (res14 _ _ w.heap.size 7 rfl (Boxed.new w 33 _).cell) rfl ⟨rfl, (Below.refl _ w).alloc (Nat.le_refl _) _⟩

set_option maxHeartbeats 2000000 in
theorem pcheck_zero (s : ByteArray) (w : World) (h1 : (s.size : Int) ≤ 65536) (hz : (0 : Int) ∈ numsOf s) : Calls Tryd.prog 34 #[.string s] w fun e w' => e = .returned (.int .i64 6) ∧ Below w.heap.size w w' := by
  obtain ⟨k, hk⟩ := named (Lib.indexByte s.data.toList 0)
  have hk0 := (idx_zero s k hk.out.symm).2 hz
  go_enter Tryd.func34, Tryd.ntmps34
  go_wp2_with fail
  refine (Tryd.strings_IndexByte s 0 _).mono ?_; rintro e w1 ⟨rfl, rfl⟩
  rw [show (0 : Int).toNat.toUInt8 = 0 from rfl, ← hk.out]
  go_wp2
  exact bodyPost_ret (res14 _ _ w.heap.size 6 rfl (Boxed.new w 33 _).cell) rfl ⟨rfl, (Below.refl _ w).alloc (Nat.le_refl _) _⟩

theorem eq_tests (x : ByteArray) : (badS x → x.toList.isEmpty = true ∨ (x.toList.isEmpty = false ∧ (x.toList == [46]) = true) ∨ (x.toList.isEmpty = false ∧ (x.toList == [46]) = false ∧ (x.toList == [46, 46]) = true)) ∧
    (¬ badS x → x.toList.isEmpty = false ∧ (x.toList == [46]) = false ∧ (x.toList == [46, 46]) = false) := by
  have e1 : ({ data := #[] } : ByteArray).toList = [] := by rw [ByteArray.toList_eq]
  have e2 : ({ data := #[46] } : ByteArray).toList = [46] := by rw [ByteArray.toList_eq]
  have e3 : ({ data := #[46, 46] } : ByteArray).toList = [46, 46] := by rw [ByteArray.toList_eq]
  constructor
  · rintro (rfl | rfl | rfl)
    · rw [e1]; decide
    · rw [e2]; decide
    · rw [e3]; decide
  · intro h
    refine ⟨empty_no fun e => h (.inl e), ?_, ?_⟩
    · rw [← e2]; exact bytes_neq fun e => h (.inr (.inl e))
    · rw [← e3]; exact bytes_neq fun e => h (.inr (.inr e))

set_option maxRecDepth 100000 in
set_option maxHeartbeats 4000000 in
theorem pcheck_in (s : ByteArray) (w : World) (h1 : (s.size : Int) ≤ 65536) (hz : ¬ (0 : Int) ∈ numsOf s) (R : Int) (hR0 : Hid ((∀ x ∈ compsB s, ¬ badS x) → R = 0)) (hR6 : Hid ((∃ x ∈ compsB s, badS x) → R = 6)) :
    CallsIn Fence.wide 4 Tryd.prog 34 #[.string s] w fun e w' => e = .returned (.int .i64 R) ∧ Below w.heap.size w w' := by
  obtain ⟨k, hk⟩ := named (Lib.indexByte s.data.toList 0)
  have hk0 : k < 0 := by
    rcases Int.lt_or_le k 0 with h | h
    · exact h
    · exact absurd ((idx_zero s k hk.out.symm).1 h) hz
  have hsz : s.size ≤ maxLen := by unfold maxLen; omega
  clear hz
  refine callsIn_of_wp_marks Tryd.func34 rfl trivial ?_ rfl
  simp only [Tryd.ntmps34, List.size_toArray, List.length_cons, List.length_nil, Nat.reduceAdd, Nat.reduceSub, Array.replicate_succ, Array.replicate_zero, List.push_toArray, List.append_toArray, List.nil_append, List.cons_append]
  gi_wp2_with (first | (refine ⟨trivial, ?_⟩; gi_at_call 61; refine (callsIn_wide.2 (Tryd.strings_IndexByte s 0 _)).mono ?_; rintro e w1 ⟨rfl, rfl⟩; rw [show (0 : Int).toNat.toUInt8 = 0 from rfl, ← hk.out]) | (refine ⟨trivial, ?_⟩; gi_at_call 62; refine (comp_in Fence.wide 3 trivial rfl s _).mono ?_; rintro e w1 ⟨rfl, rfl⟩))
  have bR := Boxed.new w 33 (.int .i64 0)
  have bN := Boxed.new (w.alloc (.cells #[.int .i64 0] 33)) 9 (.string s)
  rw [World.size_alloc] at bN
  have hB0 : Below w.heap.size w ((w.alloc (.cells #[.int .i64 0] 33)).alloc (.cells #[.string s] 9)) := ((Below.refl _ w).alloc (Nat.le_refl _) _).alloc (by simp) _
  refine wpIn_rangeFunc_ownG rfl (by decide) (gf := 90) (lb := #[.pointer (some ⟨w.heap.size + 1, 0, none⟩)]) rfl trivial (enters_of Tryd.func90 (by kernel_rfl) rfl)
    (comp_stops Fence.wide 3 trivial rfl (by decide) (w.heap.size + 1) (w.heap.size + 2) s hsz (by omega) _ (by simp) bN.cell) belowK_t (belowK_b (by simp)) (Below.refl _ _) (fun _ => rfl)
    (fun pre W => ((∀ x ∈ pre, ¬ badS x) ∧ W.cell? ⟨w.heap.size, 0, none⟩ = some (.int .i64 0) ∧ W.frozen? ⟨w.heap.size, 0, none⟩ = false) ∧ Below w.heap.size w W)
    (fun c pre W => (c = .ret ∧ (∃ x ∈ pre, badS x) ∧ W.cell? ⟨w.heap.size, 0, none⟩ = some (.int .i64 6)) ∧ Below w.heap.size w W)
    (OwnFrom.and (Own.from (fun s A B row hs hg hr => ⟨hs.1, cell_kept hs.2.1 hg hr, (frozen_kept hs.2.1 hg hr).trans hs.2.2⟩) _) (ownFrom_below (Nat.le_refl _) (by simp; omega)))
    (fun c => OwnFrom.and (Own.from (fun s A B row hs hg hr => ⟨hs.1, hs.2.1, cell_kept hs.2.2 hg hr⟩) _) (ownFrom_below (Nat.le_refl _) (by simp; omega)))
    ⟨⟨by simp, (bR.alloc _).cell, (bR.alloc _).frozen⟩, hB0⟩
    (fun x => { tmps := #[.string s, undef, .pointer (some ⟨w.heap.size, 0, none⟩), .string x, .bool (decide ((65536 : Int) < s.size)), .string s, .int .i64 s.size, .bool (decide ((65536 : Int) < s.size)), .bool (decide (0 ≤ k)), .string s, .int .i64 k, .bool (decide (0 ≤ k)), .string s, .func (.func 90) #[] #[.pointer (some ⟨w.heap.size + 1, 0, none⟩)], .string x, undef, undef, undef, undef, undef, undef, undef, undef, undef, undef], defers := [] }) ?assign ?body ?done ?stop
  case assign =>
    intro l x W K hK
    gi_wp2
    exact hK
  case body =>
    rintro l pre x W ⟨⟨hp, hc, hf⟩, hB⟩ _
    have HP := Lib.hid hp
    have HB := Lib.hid hB
    clear hp hB
    by_cases hb : badS x
    · have HX : Hid (∃ y ∈ pre ++ [x], badS y) := ⟨x, by simp, hb⟩
      rcases (eq_tests x).1 hb with m1 | ⟨m1, m2⟩ | ⟨m1, m2, m3⟩
      all_goals
        clear hb
        gi_wp2
        exact ⟨(KeepsOthers.setCell _ _ _).from _, ⟨rfl, HX.out, World.cell?_setCell_same' _ _ _ (by rw [hc]; rfl)⟩, HB.out.setCell (p := ⟨w.heap.size, 0, none⟩) (Nat.le_refl _) _⟩
    · obtain ⟨m1, m2, m3⟩ := (eq_tests x).2 hb
      have HX : Hid (∀ y ∈ pre ++ [x], ¬ badS y) := fun y hy => by
        rcases List.mem_append.1 hy with h | h
        · exact HP.out y h
        · rw [List.mem_singleton.1 h]; exact hb
      clear hb
      gi_wp2
      exact ⟨(KeepsOthers.refl _).from _, Below.refl _ _, ⟨HX.out, hc, hf⟩, HB.out⟩
  case done =>
    rintro D ys W hD rfl ⟨⟨hne, hc, hf⟩, hB⟩ hK
    have e := Lib.hid (hR0.out hne)
    clear hne
    gi_wp2
    have hK' := (KeepsOthers.setCell W ⟨w.heap.size, 0, none⟩ (.int .i64 0)).same D _ hK rfl
    refine ⟨by simp, .inl ⟨_, _, rfl, run_takeDeferred hK', ?_⟩⟩
    have hc5 := cell_kept (World.cell?_setCell_same' W ⟨w.heap.size, 0, none⟩ (.int .i64 0) (by rw [hc]; rfl)) (grownBy_putObj' _ D (.deferred none)) (fun r e => by cases e; exact ⟨_, hK', rfl⟩)
    exact ⟨_, res14 _ _ w.heap.size 0 rfl hc5, by rw [e.out], (hB.setCell (p := ⟨w.heap.size, 0, none⟩) (Nat.le_refl _) _).trans (belowK_b (w := w) (Nat.le_refl _) _ D _ _ (by simp at hD; omega) hK' rfl rfl)⟩
  case stop =>
    rintro D c pre W hD hpre ⟨⟨rfl, ⟨x, hx, hin⟩, hcr⟩, hB⟩ hK
    have e := Lib.hid (hR6.out ⟨x, hpre.subset hx, hin⟩)
    gi_wp2
    refine ⟨by simp, .inl ⟨_, _, rfl, run_takeDeferred hK, ?_⟩⟩
    have hc5 := cell_kept hcr (grownBy_putObj' _ D (.deferred none)) (fun r e => by cases e; exact ⟨_, hK, rfl⟩)
    exact ⟨_, res14 _ _ w.heap.size 6 rfl hc5, by rw [e.out], hB.trans (belowK_b (w := w) (Nat.le_refl _) W D _ _ (by simp at hD; omega) hK rfl rfl)⟩

theorem pcheck (s : ByteArray) (w : World) (_ : s.size ≤ maxLen) : Calls Tryd.prog 34 #[.string s] w fun e w' => e = .returned (.int .i64 (chE (numsOf s))) ∧ Below w.heap.size w w' := by
  unfold chE
  rw [numsOf_length]
  by_cases h1 : 65536 < s.size
  · rw [if_pos h1]; exact pcheck_long s w (by omega)
  · rw [if_neg h1]
    by_cases hz : (0 : Int) ∈ numsOf s
    · rw [if_neg (fun h => ((path_parts s).1 h).1 hz)]
      exact pcheck_zero s w (by omega) hz
    · refine callsIn_wide.1 (pcheck_in s w (by omega) hz _ ?_ ?_)
      · exact Lib.hid fun h => if_pos ((path_parts s).2 ⟨hz, h⟩)
      · exact Lib.hid fun ⟨x, hx, hb⟩ => if_neg fun h => ((path_parts s).1 h).2 x hx hb
end Go.Proofs.YthcbiohmghaobaaDoor.Pnm
/-
  Layer 19: the program's checkPlace, checkFile.
-/
namespace Go.Proofs.YthcbiohmghaobaaDoor.Vfs
open Go.RowKit Go.MapKept Go.Proofs.YthcbiohmghaobaaDoor.Pnm

section
variable {N : Nat} {F S : Int} {R : List Int} {W D : Nat → Prop} {w : World} {f : Nat} {s : St} {mp nm : Nat} {ra : Option Addr} {rc : Nat} {M : List InM}
set_option maxRecDepth 100000 in
theorem plc_any (h : FsP N F S R W D w f s mp nm ra rc M) (p : ByteArray) (hp : p.size ≤ maxLen) :
    Calls Tryd.prog 53 #[.pointer (some ⟨f, 0, none⟩), .string p] w fun e w' => e = .returned (.int .i64 (plcE s p)) ∧ Below w.heap.size w w' := by
  have PC : Hid (Calls Tryd.prog 33 #[.string p] w fun e w'' => e = .returned (.string (parB p)) ∧ Below w.heap.size w w'') := pparent p w hp
  obtain ⟨E, hE⟩ := named (plcE s p)
  obtain ⟨q, hq⟩ := named (parB p)
  rw [← hE.out]
  rw [← hq.out] at PC
  have HF := Lib.hid fun w' (hb : Below w.heap.size w w') => h.below hb
  cases hf : fnd s.ps q with
  | none =>
    have EE : Hid (E = 13) := by show _ = _; rw [hE.out]; unfold plcE; rw [← hq.out, hf]
    have KN := Lib.hid fun w' (hb : Below w.heap.size w w') => kind_none (HF.out w' hb) hf 0
    clear h hp hE hq hf HF
    go_enter Tryd.func53, Tryd.ntmps53
    go_wp2_with fail
    refine PC.out.mono ?_; rintro e w1 ⟨rfl, b1⟩
    have B1 := Lib.hid b1
    go_wp2_with fail
    refine (KN.out w1 b1).mono ?_; rintro e w2 ⟨rfl, rfl⟩
    clear b1
    go_wp2_with fail
    go_ret
    exact ⟨by rw [EE.out]; rfl, B1.out⟩
  | some i =>
    obtain ⟨y, hy, _, _⟩ := h.get hf
    have KS := Lib.hid fun w' (hb : Below w.heap.size w w') => kind_some (HF.out w' hb) hf hy 0
    by_cases hk : (s.at i).k = 0
    · have KS2 : Hid (∀ w', Below w.heap.size w w' → Calls Tryd.prog 44 #[.pointer (some ⟨f, 0, none⟩), .string q, .int .i64 0] w' fun e w'' => e = .returned (.tuple #[.pointer (some ⟨y.g, 0, none⟩), .int .i64 0]) ∧ w' = w'') := fun w' hb => by
        have := KS.out w' hb
        rwa [if_pos hk] at this
      cases hfp : fnd s.ps p with
      | none =>
        have EE : Hid (E = 0) := by show _ = _; rw [hE.out]; unfold plcE; rw [← hq.out, hf]; dsimp only; rw [if_neg (by simpa using hk), hfp]
        have FN := Lib.hid fun w' (hb : Below w.heap.size w w') => find_none (HF.out w' hb) hfp
        clear h hp hE hq hf HF KS hk hfp hy
        go_enter Tryd.func53, Tryd.ntmps53
        go_wp2_with fail
        refine PC.out.mono ?_; rintro e w1 ⟨rfl, b1⟩
        have B1 := Lib.hid b1
        go_wp2_with fail
        refine (KS2.out w1 B1.out).mono ?_; rintro e w2 ⟨rfl, rfl⟩
        clear b1
        go_wp2_with fail
        refine (FN.out w1 B1.out).mono ?_; rintro e w2 ⟨rfl, rfl⟩
        go_wp2_with fail
        go_ret
        exact ⟨by rw [EE.out]; rfl, B1.out⟩
      | some j =>
        have EE : Hid (E = 14) := by show _ = _; rw [hE.out]; unfold plcE; rw [← hq.out, hf]; dsimp only; rw [if_neg (by simpa using hk), hfp]
        obtain ⟨y', hy', _, _⟩ := h.get hfp
        have FN := Lib.hid fun w' (hb : Below w.heap.size w w') => find_some (HF.out w' hb) hfp hy'
        clear h hp hE hq hf HF KS hk hfp hy hy'
        go_enter Tryd.func53, Tryd.ntmps53
        go_wp2_with fail
        refine PC.out.mono ?_; rintro e w1 ⟨rfl, b1⟩
        have B1 := Lib.hid b1
        go_wp2_with fail
        refine (KS2.out w1 B1.out).mono ?_; rintro e w2 ⟨rfl, rfl⟩
        clear b1
        go_wp2_with fail
        refine (FN.out w1 B1.out).mono ?_; rintro e w2 ⟨rfl, rfl⟩
        go_wp2_with fail
        go_ret
        exact ⟨by rw [EE.out]; rfl, B1.out⟩
    · have EE : Hid (E = 13) := by show _ = _; rw [hE.out]; unfold plcE; rw [← hq.out, hf]; dsimp only; rw [if_pos hk]
      have KS2 : Hid (∀ w', Below w.heap.size w w' → Calls Tryd.prog 44 #[.pointer (some ⟨f, 0, none⟩), .string q, .int .i64 0] w' fun e w'' => e = .returned (.tuple #[.pointer none, .int .i64 8]) ∧ w' = w'') := fun w' hb => by
        have := KS.out w' hb
        rwa [if_neg hk] at this
      clear h hp hE hq hf HF KS hk hy
      go_enter Tryd.func53, Tryd.ntmps53
      go_wp2_with fail
      refine PC.out.mono ?_; rintro e w1 ⟨rfl, b1⟩
      have B1 := Lib.hid b1
      go_wp2_with fail
      refine (KS2.out w1 b1).mono ?_; rintro e w2 ⟨rfl, rfl⟩
      clear b1
      go_wp2_with fail
      go_ret
      exact ⟨by rw [EE.out]; rfl, B1.out⟩
end
end Go.Proofs.YthcbiohmghaobaaDoor.Vfs
