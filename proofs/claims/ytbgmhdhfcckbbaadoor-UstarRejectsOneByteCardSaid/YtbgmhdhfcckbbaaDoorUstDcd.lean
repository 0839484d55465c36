/-
  Layer 7: the program's Decode.
-/
import Derived.Test.YtbgmhdhfcckbbaaDoorUstPrs
import Derived.Test.YtbgmhdhfcckbbaaDoorUstEnc
import Derived.Test.YtbgmhdhfcckbbaaDoorChkFns
namespace Go.Proofs.YtbgmhdhfcckbbaaDoor.Ust
open Go.RowKit
open Oct Cst Chk

theorem strs_ne {xs ys : List Int} (hx : Bytes xs) (hy : Bytes ys) (h : ¬ xs = ys) : ¬ strOfNums xs = strOfNums ys := fun e => h (by
  have h1 := numsOf_strOfNums hx
  rw [e, numsOf_strOfNums hy] at h1
  exact h1.symm)

theorem toList_ne {s t : ByteArray} (h : ¬ s = t) : (s.toList == t.toList) = false := by
  rw [beq_eq_false_iff_ne]
  exact fun e => h (by
    apply ByteArray.ext
    apply Array.ext'
    rw [ByteArray.toList_eq, ByteArray.toList_eq] at e
    exact e)

set_option maxHeartbeats 1000000 in
theorem eq_any (a : Option Addr) (n c : Nat) (xs : List Int) (b : Option Addr) (m d : Nat) (ys : List Int) (w : World) (h1 : BytesIn w a xs) (l1 : xs.length = n) (h2 : BytesIn w b ys) (l2 : ys.length = m) :
    Calls Tryd.prog 27 #[.slice a n c, .slice b m d] w fun e w' => e = .returned (.bool (decide (xs = ys))) ∧ w = w' := by
  have q1 : ((convert 26 9 (.slice a n c)).run Tryd.prog w) = .ok (.string (strOfNums xs)) w := run_str_in Tryd.underlying26 Tryd.underlying5 Tryd.underlying9 h1 n c l1
  have q2 : ((convert 26 9 (.slice b m d)).run Tryd.prog w) = .ok (.string (strOfNums ys)) w := run_str_in Tryd.underlying26 Tryd.underlying5 Tryd.underlying9 h2 m d l2
  by_cases h : xs = ys
  · subst h
    obtain ⟨s, hs⟩ := named (strOfNums xs)
    rw [← hs.out] at q1 q2
    rw [decide_eq_true rfl]
    clear h1 h2 l1 l2 hs
    go_enter Tryd.func27, Tryd.ntmps27
    go_wp2
    go_ret
    exact ⟨rfl, rfl⟩
  · have hne := strs_ne h1.bytes h2.bytes h
    rw [decide_eq_false h]
    obtain ⟨s, hs⟩ := named (strOfNums xs)
    obtain ⟨t, ht⟩ := named (strOfNums ys)
    rw [← hs.out] at q1 hne
    rw [← ht.out] at q2 hne
    have hn := toList_ne hne
    clear h1 h2 l1 l2 hs ht h
    go_enter Tryd.func27, Tryd.ntmps27
    go_wp2
    go_ret
    exact ⟨rfl, rfl⟩

/-- the header behind j rows -/
def hv (zs : List Int) (j : Nat) : List Value :=
  [.int .u8 (if 6 < j then dT zs else 0), .string (if 0 < j then dNm zs else { data := #[] }), .string (if 12 < j then dPf zs else { data := #[] }), .string (if 7 < j then dLk zs else { data := #[] }), .int .i64 (if 1 < j then dMd zs else 0), .int .i64 (if 4 < j then dSz zs else 0)]
theorem hv_start (zs : List Int) : hv zs 0 = hd0 := rfl
theorem hv_last (zs : List Int) : hv zs 13 = hdV (dT zs) (dNm zs) (dPf zs) (dLk zs) (dMd zs) (dSz zs) := rfl

/-- what row j reads -/
def pieceT (zs : List Int) (j : Nat) : List Int := (zs.drop (offT j)).take (wdT j)
theorem pieceT_length {zs : List Int} (hl : zs.length = 512) {j : Nat} (hj : j < 13) : (pieceT zs j).length = wdT j := by
  have := wdT_fit hj
  unfold pieceT; rw [List.length_take, List.length_drop]; omega
theorem one_getD (zs : List Int) (i : Nat) : ((zs.drop i).take 1).getD 0 0 = zs.getD i 0 := by
  rw [List.getD_eq_getElem?_getD, List.getD_eq_getElem?_getD, List.getElem?_take, if_pos (by decide), List.getElem?_drop, Nat.add_zero]

/-- the field readers, row by row -/
theorem prs_row {zs : List Int} (hl : zs.length = 512) {j : Nat} (hj : j < 13) (a : Option Addr) (cap : Nat) (hb : Nat) (w : World) (ho : ObjAt w hb 23 (hv zs j)) (hz : BytesIn w a (pieceT zs j)) (hc : wdT j ≤ cap) (hm : cap ≤ maxLen) :
    Calls Tryd.prog (prsT j) #[.pointer (some ⟨hb, 0, none⟩), .slice a (wdT j) cap] w (SetH hb (hv zs (j + 1)) w) := by
  have hl' := pieceT_length hl hj
  match j, hj with
  | 0, _ => exact pr_name a 100 cap (pieceT zs 0) w hb _ _ _ _ _ _ ho hz hl' hc hm
  | 1, _ => exact pr_mode a 8 cap (pieceT zs 1) w hb _ _ _ _ _ _ ho hz hl' hc hm
  | 2, _ => exact pr_skip w hb _ _ _ _ _ _ _ ho
  | 3, _ => exact pr_skip w hb _ _ _ _ _ _ _ ho
  | 4, _ => exact pr_size a 12 cap (pieceT zs 4) w hb _ _ _ _ _ _ ho hz hl' hc hm
  | 5, _ => exact pr_skip w hb _ _ _ _ _ _ _ ho
  | 6, _ =>
    have h := pr_type a cap (pieceT zs 6) w hb _ _ _ _ _ _ ho hz hl'
    have e : (pieceT zs 6).getD 0 0 = dT zs := one_getD zs 156
    rw [e] at h
    exact h
  | 7, _ => exact pr_link a 100 cap (pieceT zs 7) w hb _ _ _ _ _ _ ho hz hl' hc hm
  | 8, _ => exact pr_skip w hb _ _ _ _ _ _ _ ho
  | 9, _ => exact pr_skip w hb _ _ _ _ _ _ _ ho
  | 10, _ => exact pr_skip w hb _ _ _ _ _ _ _ ho
  | 11, _ => exact pr_skip w hb _ _ _ _ _ _ _ ho
  | 12, _ => exact pr_prefix a 155 cap (pieceT zs 12) w hb _ _ _ _ _ _ ho hz hl' hc hm

/-- a block is its header's encoding just where it can be read -/
theorem dOk_iff {zs : List Int} : dOk zs ↔ ckH (dT zs) (dNm zs) (dPf zs) (dLk zs) (dMd zs) (dSz zs) = 0 ∧ encH (dT zs) (dNm zs) (dPf zs) (dLk zs) (dMd zs) (dSz zs) = zs := by
  constructor
  · exact fun h => h.2
  · intro h
    have := (dec_enc h.1).1
    rw [h.2] at this
    exact (dec_ok this).2.2.2
end Go.Proofs.YtbgmhdhfcckbbaaDoor.Ust
