/-
  Layer 9: the reference's take, its ways together.
-/
import Derived.Test.YtbbaleambgaanaaGreatDoorPxrRTake
import Derived.Test.YtbbaleambgaanaaGreatDoorPk25
namespace Go.Proofs.YtbbaleambgaanaaGreatDoor.Pxr
open Go.RowKit

theorem bef_app_in {c : Int} {a : List Int} (h : c ∈ a) (b : List Int) : bef c (a ++ b) = bef c a := by
  conv => lhs; rw [bef_split h, List.append_assoc, List.cons_append]
  exact bef_app (bef_no c a) _

/-- the length that comes back: nothing where there is an error -/
def tkM (zs : List Int) : Nat := if tkE zs = 0 then tkN zs else 0

set_option maxHeartbeats 1000000 in
theorem rtake_any (s : ByteArray) (w : World) (hs : s.size ≤ 300000) : Calls Tryz.prog 136 #[.string s] w fun e w' =>
    e = .returned (.tuple #[.agg #[.string (tkX (numsOf s)).1, .string (tkX (numsOf s)).2], .int .i64 (tkM (numsOf s) : Nat), .int .i64 (tkE (numsOf s))]) ∧ Below w.heap.size w w' := by
  obtain ⟨zs, hzs⟩ : ∃ zs, zs = numsOf s := ⟨_, rfl⟩
  have hb : ∀ z ∈ zs, 0 ≤ z ∧ z ≤ 255 := by rw [hzs]; exact numsOf_bd s
  have hlen : zs.length = s.size := by rw [hzs, numsOf_length]
  have mx : ∀ k : Nat, k ≤ 300000 → k ≤ maxLen := fun k hk => by unfold maxLen; omega
  rw [← hzs]
  have C1 : Hid (∀ w', Calls Tryz.prog 162 #[.string s, .int .u8 32, .int .i64 0] w' fun e w'' => e = .returned (.int .i64 (ixZ 32 0 zs)) ∧ w' = w'') := fun w' => by
    rw [hzs]; exact rix_any s 32 0 w' (by omega) (Nat.zero_le _)
  have bad : tkE zs ≠ 0 → tkX zs = ({ data := #[] }, { data := #[] }) ∧ tkM zs = 0 := fun h => by
    unfold tkX tkM; rw [if_neg h, if_neg h]; exact ⟨rfl, rfl⟩
  by_cases a1 : (32 : Int) ∈ zs
  · obtain ⟨sp, hsp⟩ : ∃ sp, sp = (tkD zs).length := ⟨_, rfl⟩
    have hspl : sp < s.size := by rw [hsp, ← hlen]; exact bef_len a1
    have eI : ixZ 32 0 zs = (sp : Int) := by
      unfold ixZ; rw [List.drop_zero, if_pos a1, hsp]; show (0 : Int) + ((bef 32 zs).length : Nat) = _; unfold tkD; omega
    rw [eI] at C1
    have hD : numsOf (s.extract 0 sp) = tkD zs := by rw [nums_ext, ← hzs, List.drop_zero, Nat.sub_zero, hsp]; exact (bef_take 32 zs).symm
    have hDs : (s.extract 0 sp).size ≤ maxLen := mx _ (by rw [← numsOf_length, hD, ← hsp]; omega)
    have C2 : Hid (∀ w', Calls Tryz.prog 87 #[.string (s.extract 0 sp), .int .i64 999999] w' fun e w'' => e = .returned (.tuple #[.int .i64 (rnV 999999 (tkD zs)), .int .i64 (rnE 999999 (tkD zs))]) ∧ w' = w'') := fun w' => by
      have := rnum_any (s.extract 0 sp) 999999 w' hDs (by decide) (by decide)
      rwa [hD] at this
    have p1 : (sp : Int) < s.size := by omega
    have p2 : (s.size : Int) ≤ 300000 := by omega
    by_cases h1 : decOk (tkD zs) = false ∨ tkN zs = 0 ∨ 999999 < tkN zs
    · have eE : tkE zs = 6 := by unfold tkE; rw [if_pos (.inr h1)]
      obtain ⟨eX, eM⟩ := bad (by rw [eE]; decide)
      rw [eX, eM, eE]
      refine tk_nonum s w sp C1 p1 p2 _ _ C2 ?_
      by_cases a2 : decOk (tkD zs) = false
      · exact .inl (by unfold rnE; rw [if_pos a2]; rfl)
      · by_cases a3 : 999999 < tkN zs
        · refine .inl ?_
          unfold rnE
          rw [if_neg a2, if_pos (show (999999 : Int) < decV (tkD zs) by unfold tkN at a3; omega)]; rfl
        · have a4 : tkN zs = 0 := by
            rcases h1 with h | h | h
            · exact absurd h a2
            · exact h
            · exact absurd h a3
          have hm : ¬ (999999 : Int) < decV (tkD zs) := by unfold tkN at a3; omega
          refine .inr ⟨?_, ?_⟩
          · unfold rnE; rw [if_neg a2, if_neg hm]; rfl
          · unfold rnV; rw [if_neg a2, if_neg hm]; unfold tkN at a4; rw [a4]; rfl
    · have h1' : ¬ ((32 : Int) ∉ zs ∨ decOk (tkD zs) = false ∨ tkN zs = 0 ∨ 999999 < tkN zs) := fun h => h.elim (fun h => h a1) h1
      simp only [not_or, Bool.not_eq_false, Nat.not_lt] at h1
      obtain ⟨a2, a3, a4⟩ := h1
      obtain ⟨n, hn⟩ : ∃ n, n = tkN zs := ⟨_, rfl⟩
      have hm : ¬ (999999 : Int) < decV (tkD zs) := by unfold tkN at a4; omega
      have eV : rnV 999999 (tkD zs) = (n : Int) := by unfold rnV; rw [if_neg (by rw [a2]; decide), if_neg hm, hn]; rfl
      have eF : rnE 999999 (tkD zs) = 0 := by unfold rnE; rw [if_neg (by rw [a2]; decide), if_neg hm]
      rw [eV, eF] at C2
      have hn0 : ((n : Int) == 0) = false := by simp; omega
      by_cases h2 : zs.length < tkN zs
      · have eE : tkE zs = 5 := by unfold tkE; rw [if_neg h1', if_pos h2]
        obtain ⟨eX, eM⟩ := bad (by rw [eE]; decide)
        rw [eX, eM, eE]
        exact tk_trunc s w sp C1 p1 p2 n C2 hn0 (by omega)
      · rw [← hn] at h2
        have h3 : ¬ (s.size : Int) < n := by omega
        have six : (tkN zs < (tkD zs).length + 2 ∨ zs.getD (tkN zs - 1) 0 ≠ 10 ∨ (61 : Int) ∉ tkB zs ∨ szN ((tkK zs).length + (tkV zs).length + 3) ≠ tkN zs) → tkE zs = 6 := fun h => by
          unfold tkE; rw [if_neg h1', if_neg (by rw [← hn]; exact h2), if_pos h]
        by_cases h5 : n < sp + 2
        · have eE := six (.inl (by rw [← hn, ← hsp]; exact h5))
          obtain ⟨eX, eM⟩ := bad (by rw [eE]; decide)
          rw [eX, eM, eE]
          exact tk_short s w sp C1 p1 p2 n C2 hn0 h3 (by omega)
        · obtain ⟨m, hmn⟩ : ∃ m, n = m + 1 := ⟨n - 1, by omega⟩
          have hml : m < s.size := by omega
          have h5' : ¬ (n : Int) < (sp : Int) + 2 := by omega
          have hmi : (n : Int) - 1 = (m : Int) := by omega
          obtain ⟨x, hx⟩ : ∃ x : Int, ((s[m].toNat : Nat) : Int) = x := ⟨_, rfl⟩
          have hgx : zs.getD (n - 1) 0 = x := by rw [hmn, Nat.add_sub_cancel, hzs, num_at s m hml, hx]
          by_cases h6 : x = 10
          · have q6 : (x != 10) = false := by rw [h6]; rfl
            have hex : numsOf (s.extract 0 n) = zs.take n := by rw [nums_ext, ← hzs]; rfl
            have hexs : (s.extract 0 n).size = n := by rw [← numsOf_length, hex, List.length_take]; omega
            have hdrop : (zs.take n).drop (sp + 1) = tkB zs ++ [10] := by
              rw [take_snoc_getD (by omega) (by omega), hgx, h6, List.drop_append_of_le_length (by rw [List.length_take]; omega)]
              unfold tkB; rw [← hn, ← hsp]
            have C3 : Hid (∀ w', Calls Tryz.prog 162 #[.string (s.extract 0 n), .int .u8 61, .int .i64 ((sp : Int) + 1)] w' fun e w'' => e = .returned (.int .i64 (ixZ 61 (sp + 1) (zs.take n))) ∧ w' = w'') := fun w' => by
              have := rix_any (s.extract 0 n) 61 (sp + 1) w' (by omega) (by omega)
              rw [hex] at this
              exact this
            by_cases h7 : (61 : Int) ∈ tkB zs
            · obtain ⟨q, hq⟩ : ∃ q, q = sp + 1 + (tkK zs).length := ⟨_, rfl⟩
              have eJ : ixZ 61 (sp + 1) (zs.take n) = (q : Int) := by
                unfold ixZ
                rw [hdrop, if_pos (by simp [h7]), bef_app_in h7, hq]
                show ((sp + 1 : Nat) : Int) + ((tkK zs).length : Nat) = _
                omega
              rw [eJ] at C3
              have hBl : (tkB zs).length = n - 1 - (sp + 1) := by unfold tkB; rw [List.length_drop, List.length_take, ← hn, ← hsp]; omega
              have hKl : (tkK zs).length < (tkB zs).length := bef_len h7
              have hqm : q + 1 ≤ m := by omega
              have eK : (tkR zs).1 = s.extract (sp + 1) q := by
                rw [ext_str, ← hzs]
                show strOfNums (tkK zs) = _
                congr 1
                unfold tkK
                rw [bef_take, show (bef 61 (tkB zs)).length = q - (sp + 1) by rw [hq]; unfold tkK; omega]
                unfold tkB
                rw [← hn, ← hsp, List.drop_take, List.take_take, Nat.min_eq_left (by omega)]
              have eV2 : (tkR zs).2 = s.extract (q + 1) m := by
                rw [ext_str, ← hzs]
                show strOfNums (tkV zs) = _
                congr 1
                unfold tkV tkB
                rw [← hn, ← hsp, List.drop_drop, List.drop_take, hmn, Nat.add_sub_cancel]
                rw [show sp + 1 + ((tkK zs).length + 1) = q + 1 by omega]
              have ho := oth_tk hb
              have ho6 : oth ((tkR zs).1, (tkR zs).2) ≤ 1000000 := by
                show oth (tkR zs) ≤ _
                rw [ho]; have := kv_len zs; omega
              have C5 : Hid (∀ w', Calls Tryz.prog 123 #[.agg #[.string (tkR zs).1, .string (tkR zs).2]] w' fun e w'' => e = .returned (.int .i64 ((szR (tkR zs) : Nat) : Int)) ∧ Below w'.heap.size w' w'') := fun w' =>
                rsize_any (tkR zs).1 (tkR zs).2 w' ho6
              have hsz : szR (tkR zs) = szN ((tkK zs).length + (tkV zs).length + 3) := by unfold szR; rw [ho]
              by_cases h8 : szN ((tkK zs).length + (tkV zs).length + 3) = tkN zs
              · have T0 : TkOk zs := ⟨a1, a2, by omega, by omega, by omega, by omega, by rw [← hn, hgx]; exact h6, h7, h8⟩
                have eE : tkE zs = 0 := (tkE_ok zs).2 T0
                have eX : tkX zs = tkR zs := by unfold tkX; rw [if_pos eE]
                have eM : tkM zs = n := by unfold tkM; rw [if_pos eE, hn]
                rw [eX, eM, eE]
                exact tk_good s w sp C1 p1 p2 n C2 hn0 h3 h5' m hmi hml x hx q6 q C3 (by omega) (by omega) _ _ eK eV2 _ C5 (by rw [hsz, h8, hn]; simp)
              · have eE := six (.inr (.inr (.inr h8)))
                obtain ⟨eX, eM⟩ := bad (by rw [eE]; decide)
                rw [eX, eM, eE]
                exact tk_size s w sp C1 p1 p2 n C2 hn0 h3 h5' m hmi hml x hx q6 q C3 (by omega) (by omega) _ _ eK eV2 _ C5 (by rw [hsz, hn]; simp; omega)
            · have eJ : ixZ 61 (sp + 1) (zs.take n) = -1 := by
                unfold ixZ; rw [hdrop, if_neg (by simp [h7])]
              rw [eJ] at C3
              have eE := six (.inr (.inr (.inl h7)))
              obtain ⟨eX, eM⟩ := bad (by rw [eE]; decide)
              rw [eX, eM, eE]
              exact tk_noeq s w sp C1 p1 p2 n C2 hn0 h3 h5' m hmi hml x hx q6 _ C3 (by decide)
          · have eE := six (.inr (.inl (by rw [← hn, hgx]; exact h6)))
            obtain ⟨eX, eM⟩ := bad (by rw [eE]; decide)
            rw [eX, eM, eE]
            exact tk_nonl s w sp C1 p1 p2 n C2 hn0 h3 h5' m hmi hml x hx (by simpa using h6)
  · have eI : ixZ 32 0 zs = -1 := by unfold ixZ; rw [List.drop_zero, if_neg a1]
    rw [eI] at C1
    have eE : tkE zs = 6 := by unfold tkE; rw [if_pos (.inl a1)]
    obtain ⟨eX, eM⟩ := bad (by rw [eE]; decide)
    rw [eX, eM, eE]
    exact tk_none s w (-1) C1 (by decide)
end Go.Proofs.YtbbaleambgaanaaGreatDoor.Pxr
/-
  Layer 9: the reference's Parse.
-/
namespace Go.Proofs.YtbbaleambgaanaaGreatDoor.Pxr
open Go.RowKit

set_option maxHeartbeats 1000000 in
set_option maxRecDepth 100000 in
theorem rparse_nil (a : Option Addr) (cap : Nat) (w : World) : Calls Tryz.prog 85 #[.slice a 0 cap] w (RetRecsF [] 0 0 w) := by
  go_enter Tryz.func85, Tryz.ntmps85
  go_wp2
  go_loop [5, 6] (fun v i => v = .slice none 0 0 ∧ i = .int .i64 (0 : Int)) (fun _ i => 0 - (intOf i).toNat)
  case atStart => exact ⟨rfl, rfl⟩
  case round =>
    obtain ⟨rfl, rfl⟩ := hrel
    go_wp2
    go_ret3
    exact .nil (Below.refl _ _)

set_option maxHeartbeats 8000000 in
set_option maxRecDepth 100000 in
theorem rparse_some (bb off n cap : Nat) (zs : List Int) (w : World) (hn : zs.length = n) (hc : n ≤ cap) (hz : ∀ z ∈ zs, 0 ≤ z ∧ z ≤ 255) (hlt : bb < w.heap.size) (hr : RowAt w bb off zs) (hN : n ≤ 300000) :
    Calls Tryz.prog 85 #[.slice (some ⟨bb, off, none⟩) n cap] w (RetRecsF (parZ zs).1 (parZ zs).2.1 (parZ zs).2.2 w) := by
  obtain ⟨PR, hPR⟩ := named (parZ zs).1
  obtain ⟨PN, hPN⟩ := named (parZ zs).2.1
  obtain ⟨PE, hPE⟩ := named (parZ zs).2.2
  have hP : Hid (parZ zs = (PR, PN, PE)) := by show _ = _; rw [hPR.out, hPN.out, hPE.out]
  rw [← hPR.out, ← hPN.out, ← hPE.out]
  by_cases hb : 262144 < n
  · have e : (PR, PN, PE) = (([] : List Rec), 0, (7 : Int)) := by rw [← hP.out]; unfold parZ; rw [if_pos (by omega)]
    simp only [Prod.mk.injEq] at e
    obtain ⟨rfl, rfl, rfl⟩ := e
    have m1 : (262144 : Int) < n := by omega
    clear hP hPR hPN hPE hr hz hlt
    go_enter Tryz.func85, Tryz.ntmps85
    go_wp2
    go_ret3
    exact .nil (Below.refl _ _)
  · have m1 : ¬ (262144 : Int) < n := by omega
    obtain ⟨i0, hI⟩ := recI
    have HP0 : Hid (pgo (n + 1) [] 0 zs = (PR, PN, PE)) := by show _ = _; rw [← hP.out]; unfold parZ; rw [hn, if_neg hb]
    have HZB := Lib.hid hz; have HNL := Lib.hid hn; have HROW := Lib.hid hr; have HLT := Lib.hid hlt
    have hJ := Lib.hid recJ; have HZ := Lib.hid recZ; have HO := Lib.hid recO
    have HB := Lib.hid hb; have HCAP := Lib.hid hc
    have HUnd := Lib.hid Tryz.underlying57
    clear hP hPR hPN hPE hz hr hn hb hN hlt
    go_enter Tryz.func85, Tryz.ntmps85
    go_wp2_with fail
    go_loopw [5, 6] (fun l o wr => ∃ (out : List Rec) (at_ f : Nat), o = .int .i64 at_ ∧ at_ ≤ n ∧ out.length ≤ at_ ∧ n < at_ + f ∧ pgo f out at_ zs = (PR, PN, PE) ∧ wr.ownsRow w.heap.size 107 2 l out.length (recCells out) ∧ Below w.heap.size w wr)
      (fun _ o _ => n + 1 - (intOf o).toNat)
    case atStart => exact ⟨[], 0, n + 1, rfl, Nat.zero_le _, Nat.le_refl _, by omega, HP0.out, ⟨rfl, .inl ⟨rfl, rfl⟩⟩, Below.refl _ _⟩
    case round =>
      obtain ⟨out, at_, f, rfl, hat, hol, hf, hgo, hown, hbel⟩ := hrel
      obtain ⟨g, rfl⟩ : ∃ g, f = g + 1 := ⟨f - 1, by omega⟩
      have HG := Lib.hid hgo; have HW := Lib.hid hown; have HL := Lib.hid hbel; have HF := Lib.hid hf; have HOL := Lib.hid hol
      obtain ⟨va, vc, hv, hvn, hvc, hvm, hvi, hvb⟩ := RecsIn.of_own hown
      subst hv
      have HVI := Lib.hid hvi; have HVC := Lib.hid hvc; have HVM := Lib.hid hvm; have HVB := Lib.hid hvb
      clear hgo hown hbel hf hol hvi hvn hvc hvm hvb
      by_cases hlt : at_ < n
      · have q1 : (at_ : Int) < n := by omega
        have q2 : (at_ : Int) ≤ n := by omega
        have q3 : ¬ cap = at_ := by have := HCAP.out; omega
        have hzn : ¬ zs.length ≤ at_ := by rw [HNL.out]; omega
        have hdz : ∀ z ∈ zs.drop at_, 0 ≤ z ∧ z ≤ 255 := fun z hz0 => HZB.out z (List.mem_of_mem_drop hz0)
        have hdl : (zs.drop at_).length = n - at_ := by rw [List.length_drop, HNL.out]
        have hrow : RowAt wr bb (off + at_) (zs.drop at_) := by
          have h := HROW.out.below HL.out HLT.out
          refine ⟨fun i hi => ?_, hdz⟩
          rw [hdl] at hi
          rw [Nat.add_assoc, h.1 (at_ + i) (by rw [HNL.out]; omega), getD_drop]
        have hcv := run_str_of (P := Tryz.prog) Tryz.underlying24 Tryz.underlying5 Tryz.underlying9 hrow (n - at_) (cap - at_) hdl
        obtain ⟨sub, hsub⟩ := named (strOfNums (zs.drop at_))
        rw [← hsub.out] at hcv
        have hsubn : numsOf sub = zs.drop at_ := by rw [hsub.out]; exact numsOf_strOfNums hdz
        have hsubs : sub.size ≤ 300000 := by rw [← numsOf_length, hsubn, hdl]; have := HB.out; omega
        have PF := rtake_any sub wr hsubs
        rw [hsubn] at PF
        have XS := tkX_sz hdz (by rw [hdl]; have := HB.out; omega)
        obtain ⟨E, hE⟩ := named (tkE (zs.drop at_))
        obtain ⟨K, hK⟩ := named (tkX (zs.drop at_)).1
        obtain ⟨D, hD⟩ := named (tkX (zs.drop at_)).2
        obtain ⟨tn, htn⟩ := named (tkM (zs.drop at_))
        rw [← hE.out, ← hK.out, ← hD.out, ← htn.out] at PF
        rw [← hK.out, ← hD.out] at XS
        have HPF := Lib.hid PF
        have HXS := Lib.hid XS
        have HZN := Lib.hid hzn
        clear PF XS hsubn hsubs hzn hrow
        by_cases hE0 : E = 0
        · have T0 : TkOk (zs.drop at_) := (tkE_ok _).1 (by rw [← hE.out]; exact hE0)
          have hX : tkX (zs.drop at_) = tkR (zs.drop at_) := by unfold tkX; rw [if_pos (by rw [← hE.out]; exact hE0)]
          have hM : Hid (tn = tkN (zs.drop at_)) := by show _ = _; rw [htn.out]; unfold tkM; rw [if_pos (by rw [← hE.out]; exact hE0)]
          have hKD : Hid ((K, D) = tkR (zs.drop at_)) := by show _ = _; rw [hK.out, hD.out, hX]
          have hte : Hid (tkE (zs.drop at_) = 0) := by show _ = _; rw [← hE.out]; exact hE0
          have hTN : 1 ≤ tn ∧ tn ≤ n - at_ := by rw [hM.out]; exact ⟨T0.pos, by have := T0.len; rw [hdl] at this; exact this⟩
          have HTN := Lib.hid hTN
          have ho6 : Hid (out.length ≤ 1000000) := by show _ ≤ _; have := HOL.out; have := HB.out; omega
          have p1 : (at_ : Int) + tn ≤ 1000000 := by have := HTN.out; have := HB.out; omega
          subst hE0
          obtain ⟨C, hC⟩ := named (chk (K, D))
          have HCK := Lib.hid fun (w' : World) => rcheck_any K D w' (by have := HXS.out; unfold maxLen; omega)
          rw [← hC.out] at HCK
          have HWR : Hid (chkN out (K, D) ≠ 0 → ([] : List Rec) = PR ∧ at_ = PN ∧ chkN out (K, D) = PE) := fun h => by
            have := HG.out
            rw [pgo_wrong HZN.out hte.out (by rw [← hKD.out]; exact h), ← hKD.out] at this
            simpa using this
          have HGO : Hid (chkN out (K, D) = 0 → pgo g (out ++ [(K, D)]) (at_ + tn) zs = (PR, PN, PE)) := fun h => by
            have := HG.out
            rw [pgo_go HZN.out hte.out (by rw [← hKD.out]; exact h), ← hKD.out, ← hM.out] at this
            exact this
          clear T0 hX hTN hdz hdl
          by_cases hC0 : C = 0
          · have ch0 : chk (K, D) = 0 := by rw [← hC.out]; exact hC0
            by_cases hlen : out = []
            · have cN : chkN out (K, D) = 0 := by unfold chkN; rw [if_neg (by rw [ch0]; simp), hlen, prev_none]; rfl
              have HG2 := Lib.hid (HGO.out cN)
              have hd : decide ((0 : Int) < (out.length : Int)) = false := by rw [hlen]; decide
              have hd2 : decide (0 < out.length) = false := by rw [hlen]; decide
              subst hC0
              clear ch0 cN hlen
              go_wp2_with fail
              refine HPF.out.mono ?_; rintro e w1 ⟨rfl, b1⟩
              have A1 := Lib.hid b1
              have I1 := Lib.hid (HVI.out.below b1)
              have W1 := Lib.hid (own_stay HW.out b1 (Nat.le_refl _))
              have B1 := Lib.hid (belT HL.out b1)
              clear b1 hcv
              go_wp2_with (first | (refine wpList_alloc_obj rfl 107 rfl rz HZ.out ?_; intro w2 g2 b2; have R2 := Lib.hid g2; have A2 := Lib.hid b2; have B2 := Lib.hid (belT B1.out b2); clear g2 b2) | (refine wpList_store_obj rfl 107 _ _ rfl w1.heap.size rfl [.string K, .string D] rz rfl 107 R2.out HO.out.2 rfl (rec_one _ _) ?_; intro w3 g3 t3; have R3 := Lib.hid g3; have A3 := Lib.hid (A2.out.trans (t3.below (Nat.le_refl w1.heap.size))); have I3 := Lib.hid (I1.out.below A3.out); have W3 := Lib.hid (own_stay W1.out A3.out (Nat.le_refl _)); have B3 := Lib.hid (belT B1.out A3.out); have c0 := g3.get 0 rfl; have c1 := g3.get 1 rfl; clear g3 t3))
              refine (HCK.out _).mono ?_; rintro e w4 ⟨rfl, b4⟩
              have R4 := Lib.hid (R3.out.below b4 R3.out.lt)
              have I4 := Lib.hid (I3.out.below b4)
              have W4 := Lib.hid (own_stay W3.out b4 (Nat.le_refl _))
              have B4 := Lib.hid (belT B3.out b4)
              have Q4 := Lib.hid b4
              clear b4 c0 c1
              have c0 := R4.out.get 0 rfl
              have c1 := R4.out.get 1 rfl
              go_wp2_with fail
              go_quiet (fail)
              have R5 := Lib.hid (R4.out.below (drewN_below w4.heap.size w4 nq) R4.out.lt)
              have W5 := Lib.hid (own_stay W4.out (drewN_below w4.heap.size w4 nq) (Nat.le_refl _))
              have B5 := Lib.hid (belT B4.out (drewN_below w4.heap.size w4 nq))
              have LR := Lib.hid R5.out.lt
              clear c0 c1
              generalize hw5 : w4.drewN nq = w5 at R5 W5 B5 LR ⊢
              clear hw5
              have c0 := R5.out.get 0 rfl
              have c1 := R5.out.get 1 rfl
              go_wp2_with (first | (refine wpList_lit_rec rfl _ 107 _ rfl HUnd.out _ hJ.out K D rfl ?_; intro w6 g6 b6; have G6 := Lib.hid g6; have W6 := Lib.hid (own_stay W5.out b6 (Nat.le_refl _)); have B6 := Lib.hid (belT B5.out b6); clear g6 b6) | (at_builtin; refine wpList_append_rec rfl _ _ _ rfl w.heap.size _ i0 _ HUnd.out hI _ out.length out rfl W6.out w5.heap.size (K, D) rfl G6.out ho6.out B6.out.size ?_; intro v7 w7 o7 b7 k7; have W7 := Lib.hid o7; have B7 := Lib.hid (B6.out.trans b7); clear o7 b7 k7))
              go_roundw
              case rel => exact ⟨out ++ [(K, D)], at_ + tn, g, by go_num, by have := HTN.out; omega, by rw [List.length_append, List.length_singleton]; have := HTN.out; have := HOL.out; omega, by have := HTN.out; have := HF.out; omega, HG2.out, by rw [List.length_append, List.length_singleton]; exact W7.out, B7.out⟩
              case measure => simp [intOf]; have := HTN.out; omega
            · obtain ⟨m, hmm⟩ : ∃ m, out.length = m + 1 := ⟨out.length - 1, by
                have : out.length ≠ 0 := fun h => hlen (List.length_eq_zero_iff.1 h)
                omega⟩
              obtain ⟨r, hr⟩ : ∃ r, out[m]? = some r := ⟨out[m], List.getElem?_eq_getElem (by omega)⟩
              obtain ⟨gb, go, hva, hgl, k0, _⟩ := HVI.out.get m r hr
              subst hva
              have K0 : Hid (∀ w', Below wr.heap.size wr w' → w'.cell? ⟨gb, go + m * 2, none⟩ = some (.string r.1)) := fun w' hb => (hb.cell (p := ⟨gb, go + m * 2, none⟩) hgl).trans k0
              have hd : decide ((0 : Int) < (out.length : Int)) = true := decide_eq_true (by omega)
              have hd2 : decide (0 < out.length) = true := decide_eq_true (by omega)
              have n0 : out.length ≤ 1000000 := ho6.out
              have n1 : IntKind.i64.wrap ((out.length : Int) - 1) = (m : Int) := by rw [show (out.length : Int) - 1 = m by omega]; exact wrapP (by omega) (by omega)
              have n2 : (m : Int) < out.length := by omega
              have hle := prev_at hmm hr K
              cases hKL : keyLe K r.1 with
              | true =>
                have cN : chkN out (K, D) = 12 := by unfold chkN; rw [if_neg (by rw [ch0]; simp), hle, hKL]; rfl
                have r0 := HWR.out (by rw [cN]; decide)
                rw [cN] at r0
                have R0 := Lib.hid r0
                clear r0
                have hK' : (Op.bytesLess K.toList r.1.toList || K.toList == r.1.toList) = true := hKL
                subst hC0
                clear ch0 cN hlen hr k0 hle hKL hmm n0
                go_wp2_with fail
                refine HPF.out.mono ?_; rintro e w1 ⟨rfl, b1⟩
                have A1 := Lib.hid b1
                have I1 := Lib.hid (HVI.out.below b1)
                have W1 := Lib.hid (own_stay HW.out b1 (Nat.le_refl _))
                have B1 := Lib.hid (belT HL.out b1)
                clear b1 hcv
                go_wp2_with (first | (refine wpList_alloc_obj rfl 107 rfl rz HZ.out ?_; intro w2 g2 b2; have R2 := Lib.hid g2; have A2 := Lib.hid b2; have B2 := Lib.hid (belT B1.out b2); clear g2 b2) | (refine wpList_store_obj rfl 107 _ _ rfl w1.heap.size rfl [.string K, .string D] rz rfl 107 R2.out HO.out.2 rfl (rec_one _ _) ?_; intro w3 g3 t3; have R3 := Lib.hid g3; have A3 := Lib.hid (A2.out.trans (t3.below (Nat.le_refl w1.heap.size))); have I3 := Lib.hid (I1.out.below A3.out); have W3 := Lib.hid (own_stay W1.out A3.out (Nat.le_refl _)); have B3 := Lib.hid (belT B1.out A3.out); have c0 := g3.get 0 rfl; have c1 := g3.get 1 rfl; clear g3 t3))
                refine (HCK.out _).mono ?_; rintro e w4 ⟨rfl, b4⟩
                have R4 := Lib.hid (R3.out.below b4 R3.out.lt)
                have I4 := Lib.hid (I3.out.below b4)
                have W4 := Lib.hid (own_stay W3.out b4 (Nat.le_refl _))
                have B4 := Lib.hid (belT B3.out b4)
                have Q4 := Lib.hid b4
                clear b4 c0 c1
                have c0 := R4.out.get 0 rfl
                have c1 := R4.out.get 1 rfl
                have c2 := K0.out _ (belT (A1.out.trans ((A3.out.mono A1.out.size))) Q4.out)
                go_wp2_with fail
                go_quiet (fail)
                go_wp2
                go_ret3
                obtain ⟨r1, r2, r3⟩ := R0.out
                rw [← r1, ← r2, ← r3]
                exact .nil (B4.out.trans (drewN_below _ _ _))
              | false =>
                have cN : chkN out (K, D) = 0 := by unfold chkN; rw [if_neg (by rw [ch0]; simp), hle, hKL]; rfl
                have HG2 := Lib.hid (HGO.out cN)
                have hK' : (Op.bytesLess K.toList r.1.toList || K.toList == r.1.toList) = false := hKL
                subst hC0
                clear ch0 cN hlen hr k0 hle hKL hmm n0
                go_wp2_with fail
                refine HPF.out.mono ?_; rintro e w1 ⟨rfl, b1⟩
                have A1 := Lib.hid b1
                have I1 := Lib.hid (HVI.out.below b1)
                have W1 := Lib.hid (own_stay HW.out b1 (Nat.le_refl _))
                have B1 := Lib.hid (belT HL.out b1)
                clear b1 hcv
                go_wp2_with (first | (refine wpList_alloc_obj rfl 107 rfl rz HZ.out ?_; intro w2 g2 b2; have R2 := Lib.hid g2; have A2 := Lib.hid b2; have B2 := Lib.hid (belT B1.out b2); clear g2 b2) | (refine wpList_store_obj rfl 107 _ _ rfl w1.heap.size rfl [.string K, .string D] rz rfl 107 R2.out HO.out.2 rfl (rec_one _ _) ?_; intro w3 g3 t3; have R3 := Lib.hid g3; have A3 := Lib.hid (A2.out.trans (t3.below (Nat.le_refl w1.heap.size))); have I3 := Lib.hid (I1.out.below A3.out); have W3 := Lib.hid (own_stay W1.out A3.out (Nat.le_refl _)); have B3 := Lib.hid (belT B1.out A3.out); have c0 := g3.get 0 rfl; have c1 := g3.get 1 rfl; clear g3 t3))
                refine (HCK.out _).mono ?_; rintro e w4 ⟨rfl, b4⟩
                have R4 := Lib.hid (R3.out.below b4 R3.out.lt)
                have I4 := Lib.hid (I3.out.below b4)
                have W4 := Lib.hid (own_stay W3.out b4 (Nat.le_refl _))
                have B4 := Lib.hid (belT B3.out b4)
                have Q4 := Lib.hid b4
                clear b4 c0 c1
                have c0 := R4.out.get 0 rfl
                have c1 := R4.out.get 1 rfl
                have c2 := K0.out _ (belT (A1.out.trans ((A3.out.mono A1.out.size))) Q4.out)
                go_wp2_with fail
                go_quiet (fail)
                clear c2
                have R5 := Lib.hid (R4.out.below (drewN_below w4.heap.size w4 nq) R4.out.lt)
                have W5 := Lib.hid (own_stay W4.out (drewN_below w4.heap.size w4 nq) (Nat.le_refl _))
                have B5 := Lib.hid (belT B4.out (drewN_below w4.heap.size w4 nq))
                have LR := Lib.hid R5.out.lt
                clear c0 c1
                generalize hw5 : w4.drewN nq = w5 at R5 W5 B5 LR ⊢
                clear hw5
                have c0 := R5.out.get 0 rfl
                have c1 := R5.out.get 1 rfl
                go_wp2_with (first | (refine wpList_lit_rec rfl _ 107 _ rfl HUnd.out _ hJ.out K D rfl ?_; intro w6 g6 b6; have G6 := Lib.hid g6; have W6 := Lib.hid (own_stay W5.out b6 (Nat.le_refl _)); have B6 := Lib.hid (belT B5.out b6); clear g6 b6) | (at_builtin; refine wpList_append_rec rfl _ _ _ rfl w.heap.size _ i0 _ HUnd.out hI _ out.length out rfl W6.out w5.heap.size (K, D) rfl G6.out ho6.out B6.out.size ?_; intro v7 w7 o7 b7 k7; have W7 := Lib.hid o7; have B7 := Lib.hid (B6.out.trans b7); clear o7 b7 k7))
                go_roundw
                case rel => exact ⟨out ++ [(K, D)], at_ + tn, g, by go_num, by have := HTN.out; omega, by rw [List.length_append, List.length_singleton]; have := HTN.out; have := HOL.out; omega, by have := HTN.out; have := HF.out; omega, HG2.out, by rw [List.length_append, List.length_singleton]; exact W7.out, B7.out⟩
                case measure => simp [intOf]; have := HTN.out; omega
          · have cN : chkN out (K, D) = C := by unfold chkN; rw [if_pos (by rw [← hC.out]; exact hC0), hC.out]
            have r0 := HWR.out (by rw [cN]; exact hC0)
            rw [cN] at r0
            have R0 := Lib.hid r0
            clear r0
            have z3 : (C == 0) = false := by simpa using hC0
            have z4 : (C != 0) = true := by simpa using hC0
            clear hC0 cN
            go_wp2_with fail
            refine HPF.out.mono ?_; rintro e w1 ⟨rfl, b1⟩
            have A1 := Lib.hid b1
            have I1 := Lib.hid (HVI.out.below b1)
            have W1 := Lib.hid (own_stay HW.out b1 (Nat.le_refl _))
            have B1 := Lib.hid (belT HL.out b1)
            clear b1 hcv
            go_wp2_with (first | (refine wpList_alloc_obj rfl 107 rfl rz HZ.out ?_; intro w2 g2 b2; have R2 := Lib.hid g2; have A2 := Lib.hid b2; have B2 := Lib.hid (belT B1.out b2); clear g2 b2) | (refine wpList_store_obj rfl 107 _ _ rfl w1.heap.size rfl [.string K, .string D] rz rfl 107 R2.out HO.out.2 rfl (rec_one _ _) ?_; intro w3 g3 t3; have R3 := Lib.hid g3; have A3 := Lib.hid (A2.out.trans (t3.below (Nat.le_refl w1.heap.size))); have I3 := Lib.hid (I1.out.below A3.out); have W3 := Lib.hid (own_stay W1.out A3.out (Nat.le_refl _)); have B3 := Lib.hid (belT B1.out A3.out); have c0 := g3.get 0 rfl; have c1 := g3.get 1 rfl; clear g3 t3))
            refine (HCK.out _).mono ?_; rintro e w4 ⟨rfl, b4⟩
            have R4 := Lib.hid (R3.out.below b4 R3.out.lt)
            have I4 := Lib.hid (I3.out.below b4)
            have W4 := Lib.hid (own_stay W3.out b4 (Nat.le_refl _))
            have B4 := Lib.hid (belT B3.out b4)
            have Q4 := Lib.hid b4
            clear b4 c0 c1
            have c0 := R4.out.get 0 rfl
            have c1 := R4.out.get 1 rfl
            go_wp2_with fail
            go_quiet (fail)
            go_wp2
            go_ret3
            obtain ⟨r1, r2, r3⟩ := R0.out
            rw [← r1, ← r2, ← r3]
            exact .nil (B4.out.trans (drewN_below _ _ _))
        · have z3 : (E == 0) = false := by simpa using hE0
          have z4 : (E != 0) = true := by simpa using hE0
          have R0 : Hid (([] : List Rec) = PR ∧ at_ = PN ∧ E = PE) := by
            show _ ∧ _ ∧ _
            have := HG.out
            rw [pgo_bad HZN.out (by rw [← hE.out]; exact hE0), ← hE.out] at this
            simpa using this
          clear hE0 hdl hdz
          go_wp2_with fail
          refine HPF.out.mono ?_; rintro e w1 ⟨rfl, b1⟩
          have A1 := Lib.hid b1
          have I1 := Lib.hid (HVI.out.below b1)
          have W1 := Lib.hid (own_stay HW.out b1 (Nat.le_refl _))
          have B1 := Lib.hid (belT HL.out b1)
          clear b1 hcv
          go_wp2_with (first | (refine wpList_alloc_obj rfl 107 rfl rz HZ.out ?_; intro w2 g2 b2; have R2 := Lib.hid g2; have A2 := Lib.hid b2; have B2 := Lib.hid (belT B1.out b2); clear g2 b2) | (refine wpList_store_obj rfl 107 _ _ rfl w1.heap.size rfl [.string K, .string D] rz rfl 107 R2.out HO.out.2 rfl (rec_one _ _) ?_; intro w3 g3 t3; have R3 := Lib.hid g3; have A3 := Lib.hid (A2.out.trans (t3.below (Nat.le_refl w1.heap.size))); have I3 := Lib.hid (I1.out.below A3.out); have W3 := Lib.hid (own_stay W1.out A3.out (Nat.le_refl _)); have B3 := Lib.hid (belT B1.out A3.out); have c0 := g3.get 0 rfl; have c1 := g3.get 1 rfl; clear g3 t3))
          clear c1
          go_quiet (fail)
          go_wp2
          go_ret3
          obtain ⟨r1, r2, r3⟩ := R0.out
          rw [← r1, ← r2, ← r3]
          exact .nil (B3.out.trans (drewN_below _ _ _))
      · obtain rfl : at_ = n := by omega
        have q1 : ¬ (at_ : Int) < at_ := by omega
        have R0 : Hid (out = PR ∧ at_ = PN ∧ (0 : Int) = PE) := by
          show _ ∧ _ ∧ _
          have := HG.out
          rw [pgo_stop (by rw [HNL.out]; exact Nat.le_refl _), HNL.out] at this
          simpa using this
        clear hlt
        go_wp2
        go_ret3
        obtain ⟨r1, r2, r3⟩ := R0.out
        rw [← r1, ← r2, ← r3]
        exact ⟨va, out.length, vc, rfl, rfl, HVC.out, HVM.out, HVI.out, HL.out, fun x hx => (HVB.out x hx).1⟩

theorem rparse_new (a : Option Addr) (n cap : Nat) (zs : List Int) (w : World) (hn : zs.length = n) (hc : n ≤ cap) (hz : ∀ z ∈ zs, 0 ≤ z ∧ z ≤ 255) (hi : BytesIn w a zs) (hN : n ≤ 300000) :
    Calls Tryz.prog 85 #[.slice a n cap] w (RetRecsF (parZ zs).1 (parZ zs).2.1 (parZ zs).2.2 w) := by
  rcases hi with rfl | ⟨bb, off, rfl, hlt, hr⟩
  · obtain rfl : n = 0 := hn.symm
    exact rparse_nil a cap w
  · exact rparse_some bb off n cap zs w hn hc hz hlt hr hN
theorem rparse_any (a : Option Addr) (n cap : Nat) (zs : List Int) (w : World) (hn : zs.length = n) (hc : n ≤ cap) (hz : ∀ z ∈ zs, 0 ≤ z ∧ z ≤ 255) (hi : BytesIn w a zs) (hN : n ≤ 300000) :
    Calls Tryz.prog 85 #[.slice a n cap] w (RetRecs (parZ zs).1 (parZ zs).2.1 (parZ zs).2.2 w) :=
  (rparse_new a n cap zs w hn hc hz hi hN).mono fun _ _ h => h.ret
end Go.Proofs.YtbbaleambgaanaaGreatDoor.Pxr
