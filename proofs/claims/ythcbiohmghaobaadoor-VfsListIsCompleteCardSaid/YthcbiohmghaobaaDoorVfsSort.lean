/-
  Layer 19: slices.Sorted of slices.Values, slices.Reverse.
-/
import Derived.Test.YthcbiohmghaobaaDoorVfsIter
import Derived.Test.YthcbiohmghaobaaDoorShelfB
import Derived.Test.YthcbiohmghaobaaDoorHeapStr
import Derived.Shelf.Slices.In.SortNone
import Derived.Sort.OwnSorted
namespace Go.Proofs.YthcbiohmghaobaaDoor.Vfs
open Go.RowKit Go.Shelf Go.Proofs.YthcbiohmghaobaaDoor.Pnm Flt Hep Go.Sort

def unB (zs : List ByteArray) : List (List UInt8) := zs.map fun s => s.data.toList
def toB (ls : List (List UInt8)) : List ByteArray := ls.map fun l => ⟨l.toArray⟩
theorem toB_unB (zs : List ByteArray) : toB (unB zs) = zs := by unfold toB unB; rw [List.map_map]; exact (List.map_congr_left fun s _ => rfl).trans (List.map_id _)
theorem ssC_enc (zs : List ByteArray) : ssC zs = (unB zs).map encStr := by unfold ssC unB; rw [List.map_map]; rfl
theorem enc_ssC (ls : List (List UInt8)) : ls.map encStr = ssC (toB ls) := by unfold ssC toB; rw [List.map_map]; rfl
/-- names in ascending order -/
def srtB (zs : List ByteArray) : List ByteArray := toB ((unB zs).mergeSort fun x y => decide (x ≤ y))
theorem srtB_perm (zs : List ByteArray) : (srtB zs).Perm zs := by
  have := ((unB zs).mergeSort_perm fun x y => decide (x ≤ y)).map (fun l => (⟨l.toArray⟩ : ByteArray))
  have e : (unB zs).map (fun l => (⟨l.toArray⟩ : ByteArray)) = zs := toB_unB zs
  rw [e] at this
  exact this
theorem srtB_len (zs : List ByteArray) : (srtB zs).length = zs.length := (srtB_perm zs).length_eq
set_option maxHeartbeats 1000000 in
theorem coll_in (w : World) (Bs len cap : Nat) (a : Option Addr) (zs : List ByteArray) (hB : Bs < w.heap.size) (hc : w.cell? ⟨Bs, 0, none⟩ = some (.slice a len cap)) (hz : SsIn w a zs) (hzn : zs.length = len) (hzc : len ≤ cap) (hlen : len ≤ 8796093022208) (ha : ∀ x, a = some x → x.block < w.heap.size) :
    CallsIn Fence.wide 5 Tryd.prog 67 #[.func (.func 68) #[] #[.pointer (some ⟨Bs, 0, none⟩)]] w fun e w' => ∃ v, e = .returned v ∧ w'.ownsRow w.heap.size 9 1 v len (ssC zs) ∧ Below w.heap.size w w' := by
  refine callsIn_of_wp Tryd.func67 rfl trivial ?_ rfl
  simp only [Tryd.ntmps67, List.size_toArray, List.length_cons, List.length_nil, Nat.reduceAdd, Nat.reduceSub, Array.replicate_succ, Array.replicate_zero, List.push_toArray, List.append_toArray, List.nil_append, List.cons_append]
  gi_wp2_with (refine ⟨trivial, ?_⟩; gi_at_call 93; refine (app_in w Bs len cap a zs hB hc hz hzn hzc hlen ha).mono ?_; rintro e w1 ⟨v, rfl, h1, h2⟩)
  go_ret
  exact ⟨v, rfl, h1, h2⟩
/-- a row of the call's own, sorted in place -/
theorem sort_own {w : World} {base len cap : Nat} {a : Option Addr} {zs : List ByteArray} (h : w.ownsRow base 9 1 (.slice a len cap) len (ssC zs)) (hlen : len ≤ 8796093022208) :
    Calls Tryd.prog 29 #[.slice a len cap] w fun e w' => e = .returned (.tuple #[]) ∧ w'.ownsRow base 9 1 (.slice a len cap) len (ssC (srtB zs)) ∧ Only (fun k => base ≤ k ∧ (Value.slice a len cap).ownBlock = some k) w w' := by
  rcases h.2 with ⟨hv, h0⟩ | ⟨g, cap', cur, hv, hb, hg, h1, h2, h3, h4⟩
  · simp only [Value.slice.injEq] at hv
    obtain ⟨rfl, rfl, rfl⟩ := hv
    have hz : zs = [] := List.length_eq_zero_iff.1 (by have := h.1; simpa using this)
    subst hz
    exact (Any.slices_Sort_string_none Tryd.lays190 none 0 w).mono fun e w' ⟨q1, q2⟩ => by subst q2; exact ⟨q1, by simpa [srtB, unB, toB] using h, Only.refl _ _⟩
  · simp only [Value.slice.injEq, true_and] at hv
    obtain ⟨rfl, rfl⟩ := hv
    have hl : (unB zs).length = len := by unfold unB; rw [List.length_map]; have := h.1; simpa using this
    have hh : Holds encStr w g 0 (unB zs).toArray := holds_of_block hg (by rw [hl, ← ssC_enc]; have := h4; rwa [Nat.mul_one] at this)
    have := Tryd.slices_Sort_string g 0 cap (unB zs) w hh (Array.getElem?_eq_some_iff.1 hg).1 (by omega)
    rw [hl] at this
    refine this.mono ?_
    rintro e w' ⟨rfl, nn, os, rfl⟩
    have r := ownsRow_sorted (w := w) (n := nn) (os := os) (ss := unB zs) (ts := (unB zs).mergeSort fun x y => decide (x ≤ y)) (by simp) hb hg (by rw [hl]; exact h1) h2 h3
    rw [hl, enc_ssC] at r
    refine ⟨rfl, r, ?_⟩
    have q := grownBy_sorted (w := w) (g := g) (n := nn) (os := os) ((unB zs).mergeSort fun x y => decide (x ≤ y)).toArray
    exact ⟨q.os, q.tape, q.output, q.size, fun k hk hn => q.block k hk fun e => hn ⟨by injection e with e; omega, e.symm⟩⟩
set_option maxHeartbeats 1000000 in
theorem sorted_any (w : World) (Bs len cap : Nat) (a : Option Addr) (zs : List ByteArray) (hB : Bs < w.heap.size) (hc : w.cell? ⟨Bs, 0, none⟩ = some (.slice a len cap)) (hz : SsIn w a zs) (hzn : zs.length = len) (hzc : len ≤ cap) (hlen : len ≤ 8796093022208) (ha : ∀ x, a = some x → x.block < w.heap.size) :
    Calls Tryd.prog 45 #[.func (.func 68) #[] #[.pointer (some ⟨Bs, 0, none⟩)]] w fun e w' => ∃ a' c', e = .returned (.slice a' len c') ∧ w'.ownsRow w.heap.size 9 1 (.slice a' len c') len (ssC (srtB zs)) ∧ Below w.heap.size w w' := by
  have CL := Lib.hid (callsIn_wide.1 (coll_in w Bs len cap a zs hB hc hz hzn hzc hlen ha))
  clear hB hc hz hzc ha hzn
  go_enter Tryd.func45, Tryd.ntmps45
  go_wp2_with fail
  refine CL.out.mono ?_; rintro e w1 ⟨v, rfl, o1, b1⟩
  obtain ⟨a', c', rfl, _, _⟩ := own_slice o1
  have O1 := Lib.hid o1; have B1 := Lib.hid b1
  have SO := Lib.hid (sort_own o1 hlen)
  clear o1 b1
  go_wp2_with fail
  refine SO.out.mono ?_; rintro e w2 ⟨rfl, o2, u2⟩
  have O2 := Lib.hid o2; have B2 := Lib.hid (B1.out.trans (u2.below (fun k hk => hk.1) B1.out.size))
  clear o2 u2
  go_wp2_with fail
  go_ret
  exact ⟨_, _, rfl, O2.out, B2.out⟩
end Go.Proofs.YthcbiohmghaobaaDoor.Vfs
