/-
  Layer 9: the reference's take, its ways together.
-/
import Derived.Test.YtjmnhnijmaceeaaDoorPxrRTake
namespace Go.Proofs.YtjmnhnijmaceeaaDoor.Pxr
open Go.RowKit

theorem bef_app_in {c : Int} {a : List Int} (h : c ∈ a) (b : List Int) : bef c (a ++ b) = bef c a := by
  conv => lhs; rw [bef_split h, List.append_assoc, List.cons_append]
  exact bef_app (bef_no c a) _

/-- the length that comes back: nothing where there is an error -/
def tkM (zs : List Int) : Nat := if tkE zs = 0 then tkN zs else 0

set_option maxHeartbeats 1000000 in
theorem rtake_any (s : ByteArray) (w : World) (hs : s.size ≤ 300000) : Calls Tryd.prog 33 #[.string s] w fun e w' =>
    e = .returned (.tuple #[.agg #[.string (tkX (numsOf s)).1, .string (tkX (numsOf s)).2], .int .i64 (tkM (numsOf s) : Nat), .int .i64 (tkE (numsOf s))]) ∧ Below w.heap.size w w' := by
  obtain ⟨zs, hzs⟩ : ∃ zs, zs = numsOf s := ⟨_, rfl⟩
  have hb : ∀ z ∈ zs, 0 ≤ z ∧ z ≤ 255 := by rw [hzs]; exact numsOf_bd s
  have hlen : zs.length = s.size := by rw [hzs, numsOf_length]
  have mx : ∀ k : Nat, k ≤ 300000 → k ≤ maxLen := fun k hk => by unfold maxLen; omega
  rw [← hzs]
  have C1 : Hid (∀ w', Calls Tryd.prog 45 #[.string s, .int .u8 32, .int .i64 0] w' fun e w'' => e = .returned (.int .i64 (ixZ 32 0 zs)) ∧ w' = w'') := fun w' => by
    rw [hzs]; exact rix_any s 32 0 w' (by omega) (Nat.zero_le _)
  have bad : tkE zs ≠ 0 → tkX zs = ({ data := #[] }, { data := #[] }) ∧ tkM zs = 0 := fun h => by
    unfold tkX tkM; rw [if_neg h, if_neg h]; exact ⟨rfl, rfl⟩
  by_cases a1 : (32 : Int) ∈ zs
  · obtain ⟨sp, hsp⟩ : ∃ sp, sp = (tkD zs).length := ⟨_, rfl⟩
    have hspl : sp < s.size := by rw [hsp, ← hlen]; exact bef_len a1
    have eI : ixZ 32 0 zs = (sp : Int) := by
      unfold ixZ; rw [List.drop_zero, if_pos a1, hsp]; show (0 : Int) + ((bef 32 zs).length : Nat) = _; unfold tkD; omega
    rw [eI] at C1
    have hD : numsOf (s.extract 0 sp) = tkD zs := by rw [nums_ext, ← hzs, List.drop_zero, Nat.sub_zero, hsp]; exact (bef_take 32 zs).symm
    have hDs : (s.extract 0 sp).size ≤ maxLen := mx _ (by rw [← numsOf_length, hD, ← hsp]; omega)
    have C2 : Hid (∀ w', Calls Tryd.prog 30 #[.string (s.extract 0 sp), .int .i64 999999] w' fun e w'' => e = .returned (.tuple #[.int .i64 (rnV 999999 (tkD zs)), .int .i64 (rnE 999999 (tkD zs))]) ∧ w' = w'') := fun w' => by
      have := rnum_any (s.extract 0 sp) 999999 w' hDs (by decide) (by decide)
      rwa [hD] at this
    have p1 : (sp : Int) < s.size := by omega
    have p2 : (s.size : Int) ≤ 300000 := by omega
    by_cases h1 : decOk (tkD zs) = false ∨ tkN zs = 0 ∨ 999999 < tkN zs
    · have eE : tkE zs = 6 := by unfold tkE; rw [if_pos (.inr h1)]
      obtain ⟨eX, eM⟩ := bad (by rw [eE]; decide)
      rw [eX, eM, eE]
      refine tk_nonum s w sp C1 p1 p2 _ _ C2 ?_
      by_cases a2 : decOk (tkD zs) = false
      · exact .inl (by unfold rnE; rw [if_pos a2]; rfl)
      · by_cases a3 : 999999 < tkN zs
        · refine .inl ?_
          unfold rnE
          rw [if_neg a2, if_pos (show (999999 : Int) < decV (tkD zs) by unfold tkN at a3; omega)]; rfl
        · have a4 : tkN zs = 0 := by
            rcases h1 with h | h | h
            · exact absurd h a2
            · exact h
            · exact absurd h a3
          have hm : ¬ (999999 : Int) < decV (tkD zs) := by unfold tkN at a3; omega
          refine .inr ⟨?_, ?_⟩
          · unfold rnE; rw [if_neg a2, if_neg hm]; rfl
          · unfold rnV; rw [if_neg a2, if_neg hm]; unfold tkN at a4; rw [a4]; rfl
    · have h1' : ¬ ((32 : Int) ∉ zs ∨ decOk (tkD zs) = false ∨ tkN zs = 0 ∨ 999999 < tkN zs) := fun h => h.elim (fun h => h a1) h1
      simp only [not_or, Bool.not_eq_false, Nat.not_lt] at h1
      obtain ⟨a2, a3, a4⟩ := h1
      obtain ⟨n, hn⟩ : ∃ n, n = tkN zs := ⟨_, rfl⟩
      have hm : ¬ (999999 : Int) < decV (tkD zs) := by unfold tkN at a4; omega
      have eV : rnV 999999 (tkD zs) = (n : Int) := by unfold rnV; rw [if_neg (by rw [a2]; decide), if_neg hm, hn]; rfl
      have eF : rnE 999999 (tkD zs) = 0 := by unfold rnE; rw [if_neg (by rw [a2]; decide), if_neg hm]
      rw [eV, eF] at C2
      have hn0 : ((n : Int) == 0) = false := by simp; omega
      by_cases h2 : zs.length < tkN zs
      · have eE : tkE zs = 5 := by unfold tkE; rw [if_neg h1', if_pos h2]
        obtain ⟨eX, eM⟩ := bad (by rw [eE]; decide)
        rw [eX, eM, eE]
        exact tk_trunc s w sp C1 p1 p2 n C2 hn0 (by omega)
      · rw [← hn] at h2
        have h3 : ¬ (s.size : Int) < n := by omega
        have six : (tkN zs < (tkD zs).length + 2 ∨ zs.getD (tkN zs - 1) 0 ≠ 10 ∨ (61 : Int) ∉ tkB zs ∨ szN ((tkK zs).length + (tkV zs).length + 3) ≠ tkN zs) → tkE zs = 6 := fun h => by
          unfold tkE; rw [if_neg h1', if_neg (by rw [← hn]; exact h2), if_pos h]
        by_cases h5 : n < sp + 2
        · have eE := six (.inl (by rw [← hn, ← hsp]; exact h5))
          obtain ⟨eX, eM⟩ := bad (by rw [eE]; decide)
          rw [eX, eM, eE]
          exact tk_short s w sp C1 p1 p2 n C2 hn0 h3 (by omega)
        · obtain ⟨m, hmn⟩ : ∃ m, n = m + 1 := ⟨n - 1, by omega⟩
          have hml : m < s.size := by omega
          have h5' : ¬ (n : Int) < (sp : Int) + 2 := by omega
          have hmi : (n : Int) - 1 = (m : Int) := by omega
          obtain ⟨x, hx⟩ : ∃ x : Int, ((s[m].toNat : Nat) : Int) = x := ⟨_, rfl⟩
          have hgx : zs.getD (n - 1) 0 = x := by rw [hmn, Nat.add_sub_cancel, hzs, num_at s m hml, hx]
          by_cases h6 : x = 10
          · have q6 : (x != 10) = false := by rw [h6]; rfl
            have hex : numsOf (s.extract 0 n) = zs.take n := by rw [nums_ext, ← hzs]; rfl
            have hexs : (s.extract 0 n).size = n := by rw [← numsOf_length, hex, List.length_take]; omega
            have hdrop : (zs.take n).drop (sp + 1) = tkB zs ++ [10] := by
              rw [take_snoc_getD (by omega) (by omega), hgx, h6, List.drop_append_of_le_length (by rw [List.length_take]; omega)]
              unfold tkB; rw [← hn, ← hsp]
            have C3 : Hid (∀ w', Calls Tryd.prog 45 #[.string (s.extract 0 n), .int .u8 61, .int .i64 ((sp : Int) + 1)] w' fun e w'' => e = .returned (.int .i64 (ixZ 61 (sp + 1) (zs.take n))) ∧ w' = w'') := fun w' => by
              have := rix_any (s.extract 0 n) 61 (sp + 1) w' (by omega) (by omega)
              rw [hex] at this
              exact this
            by_cases h7 : (61 : Int) ∈ tkB zs
            · obtain ⟨q, hq⟩ : ∃ q, q = sp + 1 + (tkK zs).length := ⟨_, rfl⟩
              have eJ : ixZ 61 (sp + 1) (zs.take n) = (q : Int) := by
                unfold ixZ
                rw [hdrop, if_pos (by simp [h7]), bef_app_in h7, hq]
                show ((sp + 1 : Nat) : Int) + ((tkK zs).length : Nat) = _
                omega
              rw [eJ] at C3
              have hBl : (tkB zs).length = n - 1 - (sp + 1) := by unfold tkB; rw [List.length_drop, List.length_take, ← hn, ← hsp]; omega
              have hKl : (tkK zs).length < (tkB zs).length := bef_len h7
              have hqm : q + 1 ≤ m := by omega
              have eK : (tkR zs).1 = s.extract (sp + 1) q := by
                rw [ext_str, ← hzs]
                show strOfNums (tkK zs) = _
                congr 1
                unfold tkK
                rw [bef_take, show (bef 61 (tkB zs)).length = q - (sp + 1) by rw [hq]; unfold tkK; omega]
                unfold tkB
                rw [← hn, ← hsp, List.drop_take, List.take_take, Nat.min_eq_left (by omega)]
              have eV2 : (tkR zs).2 = s.extract (q + 1) m := by
                rw [ext_str, ← hzs]
                show strOfNums (tkV zs) = _
                congr 1
                unfold tkV tkB
                rw [← hn, ← hsp, List.drop_drop, List.drop_take, hmn, Nat.add_sub_cancel]
                rw [show sp + 1 + ((tkK zs).length + 1) = q + 1 by omega]
              have ho := oth_tk hb
              have ho6 : oth ((tkR zs).1, (tkR zs).2) ≤ 1000000 := by
                show oth (tkR zs) ≤ _
                rw [ho]; have := kv_len zs; omega
              have C5 : Hid (∀ w', Calls Tryd.prog 16 #[.agg #[.string (tkR zs).1, .string (tkR zs).2]] w' fun e w'' => e = .returned (.int .i64 ((szR (tkR zs) : Nat) : Int)) ∧ Below w'.heap.size w' w'') := fun w' =>
                rsize_any (tkR zs).1 (tkR zs).2 w' ho6
              have hsz : szR (tkR zs) = szN ((tkK zs).length + (tkV zs).length + 3) := by unfold szR; rw [ho]
              by_cases h8 : szN ((tkK zs).length + (tkV zs).length + 3) = tkN zs
              · have T0 : TkOk zs := ⟨a1, a2, by omega, by omega, by omega, by omega, by rw [← hn, hgx]; exact h6, h7, h8⟩
                have eE : tkE zs = 0 := (tkE_ok zs).2 T0
                have eX : tkX zs = tkR zs := by unfold tkX; rw [if_pos eE]
                have eM : tkM zs = n := by unfold tkM; rw [if_pos eE, hn]
                rw [eX, eM, eE]
                exact tk_good s w sp C1 p1 p2 n C2 hn0 h3 h5' m hmi hml x hx q6 q C3 (by omega) (by omega) _ _ eK eV2 _ C5 (by rw [hsz, h8, hn]; simp)
              · have eE := six (.inr (.inr (.inr h8)))
                obtain ⟨eX, eM⟩ := bad (by rw [eE]; decide)
                rw [eX, eM, eE]
                exact tk_size s w sp C1 p1 p2 n C2 hn0 h3 h5' m hmi hml x hx q6 q C3 (by omega) (by omega) _ _ eK eV2 _ C5 (by rw [hsz, hn]; simp; omega)
            · have eJ : ixZ 61 (sp + 1) (zs.take n) = -1 := by
                unfold ixZ; rw [hdrop, if_neg (by simp [h7])]
              rw [eJ] at C3
              have eE := six (.inr (.inr (.inl h7)))
              obtain ⟨eX, eM⟩ := bad (by rw [eE]; decide)
              rw [eX, eM, eE]
              exact tk_noeq s w sp C1 p1 p2 n C2 hn0 h3 h5' m hmi hml x hx q6 _ C3 (by decide)
          · have eE := six (.inr (.inl (by rw [← hn, hgx]; exact h6)))
            obtain ⟨eX, eM⟩ := bad (by rw [eE]; decide)
            rw [eX, eM, eE]
            exact tk_nonl s w sp C1 p1 p2 n C2 hn0 h3 h5' m hmi hml x hx (by simpa using h6)
  · have eI : ixZ 32 0 zs = -1 := by unfold ixZ; rw [List.drop_zero, if_neg a1]
    rw [eI] at C1
    have eE : tkE zs = 6 := by unfold tkE; rw [if_pos (.inl a1)]
    obtain ⟨eX, eM⟩ := bad (by rw [eE]; decide)
    rw [eX, eM, eE]
    exact tk_none s w (-1) C1 (by decide)
end Go.Proofs.YtjmnhnijmaceeaaDoor.Pxr
