/- PxrRTake2 PxrParse -/
import Derived.Test.YtbbaleambgaanaaGreatDoorQ27
import Derived.Test.YtbbaleambgaanaaGreatDoorQ8
import Derived.Test.YtbbaleambgaanaaGreatDoorQ26
namespace Go.Proofs.YtbbaleambgaanaaGreatDoor.Pxr
open Go.RowKit
theorem bef_app_in {c : Int} {a : List Int} (h : c ∈ a) (b : List Int) : bef c (a ++ b) = bef c a := by
  conv => lhs; rw [bef_split h, List.append_assoc, List.cons_append]
  exact bef_app (bef_no c a) _
def tkM (zs : List Int) : Nat := if tkE zs = 0 then tkN zs else 0
set_option maxHeartbeats 1000000 in
theorem rtake_any (s : ByteArray) (w : World) (hs : s.size ≤ 300000) : Calls Tryz.prog 136 #[.string s] w fun e w' =>
    e = .returned (.tuple #[.agg #[.string (tkX (numsOf s)).1, .string (tkX (numsOf s)).2], .int .i64 (tkM (numsOf s) : Nat), .int .i64 (tkE (numsOf s))]) ∧ Below w.heap.size w w' := by
  obtain ⟨zs, hzs⟩ : ∃ zs, zs = numsOf s := ⟨_, rfl⟩
  have hb : ∀ z ∈ zs, 0 ≤ z ∧ z ≤ 255 := by rw [hzs]; exact numsOf_bd s
  have hlen : zs.length = s.size := by rw [hzs, numsOf_length]
  have mx : ∀ k : Nat, k ≤ 300000 → k ≤ maxLen := fun k hk => by unfold maxLen; omega
  rw [← hzs]
  have C1 : Hid (∀ w', Calls Tryz.prog 162 #[.string s, .int .u8 32, .int .i64 0] w' fun e w'' => e = .returned (.int .i64 (ixZ 32 0 zs)) ∧ w' = w'') := fun w' => by
    rw [hzs]; exact rix_any s 32 0 w' (by omega) (Nat.zero_le _)
  have bad : tkE zs ≠ 0 → tkX zs = ({ data := #[] }, { data := #[] }) ∧ tkM zs = 0 := fun h => by
    unfold tkX tkM; rw [if_neg h, if_neg h]; exact ⟨rfl, rfl⟩
  by_cases a1 : (32 : Int) ∈ zs
  · obtain ⟨sp, hsp⟩ : ∃ sp, sp = (tkD zs).length := ⟨_, rfl⟩
    have hspl : sp < s.size := by rw [hsp, ← hlen]; exact bef_len a1
    have eI : ixZ 32 0 zs = (sp : Int) := by
      unfold ixZ; rw [List.drop_zero, if_pos a1, hsp]; show (0 : Int) + ((bef 32 zs).length : Nat) = _; unfold tkD; omega
    rw [eI] at C1
    have hD : numsOf (s.extract 0 sp) = tkD zs := by rw [nums_ext, ← hzs, List.drop_zero, Nat.sub_zero, hsp]; exact (bef_take 32 zs).symm
    have hDs : (s.extract 0 sp).size ≤ maxLen := mx _ (by rw [← numsOf_length, hD, ← hsp]; omega)
    have C2 : Hid (∀ w', Calls Tryz.prog 87 #[.string (s.extract 0 sp), .int .i64 999999] w' fun e w'' => e = .returned (.tuple #[.int .i64 (rnV 999999 (tkD zs)), .int .i64 (rnE 999999 (tkD zs))]) ∧ w' = w'') := fun w' => by
      have := rnum_any (s.extract 0 sp) 999999 w' hDs (by decide) (by decide)
      rwa [hD] at this
    have p1 : (sp : Int) < s.size := by omega
    have p2 : (s.size : Int) ≤ 300000 := by omega
    by_cases h1 : decOk (tkD zs) = false ∨ tkN zs = 0 ∨ 999999 < tkN zs
    · have eE : tkE zs = 6 := by unfold tkE; rw [if_pos (.inr h1)]
      obtain ⟨eX, eM⟩ := bad (by rw [eE]; decide)
      rw [eX, eM, eE]
      refine tk_nonum s w sp C1 p1 p2 _ _ C2 ?_
      by_cases a2 : decOk (tkD zs) = false
      · exact .inl (by unfold rnE; rw [if_pos a2]; rfl)
      · by_cases a3 : 999999 < tkN zs
        · refine .inl ?_
          unfold rnE
          rw [if_neg a2, if_pos (show (999999 : Int) < decV (tkD zs) by unfold tkN at a3; omega)]; rfl
        · have a4 : tkN zs = 0 := by
            rcases h1 with h | h | h
            · exact absurd h a2
            · exact h
            · exact absurd h a3
          have hm : ¬ (999999 : Int) < decV (tkD zs) := by unfold tkN at a3; omega
          refine .inr ⟨?_, ?_⟩
          · unfold rnE; rw [if_neg a2, if_neg hm]; rfl
          · unfold rnV; rw [if_neg a2, if_neg hm]; unfold tkN at a4; rw [a4]; rfl
    · have h1' : ¬ ((32 : Int) ∉ zs ∨ decOk (tkD zs) = false ∨ tkN zs = 0 ∨ 999999 < tkN zs) := fun h => h.elim (fun h => h a1) h1
      simp only [not_or, Bool.not_eq_false, Nat.not_lt] at h1
      obtain ⟨a2, a3, a4⟩ := h1
      obtain ⟨n, hn⟩ : ∃ n, n = tkN zs := ⟨_, rfl⟩
      have hm : ¬ (999999 : Int) < decV (tkD zs) := by unfold tkN at a4; omega
      have eV : rnV 999999 (tkD zs) = (n : Int) := by unfold rnV; rw [if_neg (by rw [a2]; decide), if_neg hm, hn]; rfl
      have eF : rnE 999999 (tkD zs) = 0 := by unfold rnE; rw [if_neg (by rw [a2]; decide), if_neg hm]
      rw [eV, eF] at C2
      have hn0 : ((n : Int) == 0) = false := by simp; omega
      by_cases h2 : zs.length < tkN zs
      · have eE : tkE zs = 5 := by unfold tkE; rw [if_neg h1', if_pos h2]
        obtain ⟨eX, eM⟩ := bad (by rw [eE]; decide)
        rw [eX, eM, eE]
        exact tk_trunc s w sp C1 p1 p2 n C2 hn0 (by omega)
      · rw [← hn] at h2
        have h3 : ¬ (s.size : Int) < n := by omega
        have six : (tkN zs < (tkD zs).length + 2 ∨ zs.getD (tkN zs - 1) 0 ≠ 10 ∨ (61 : Int) ∉ tkB zs ∨ szN ((tkK zs).length + (tkV zs).length + 3) ≠ tkN zs) → tkE zs = 6 := fun h => by
          unfold tkE; rw [if_neg h1', if_neg (by rw [← hn]; exact h2), if_pos h]
        by_cases h5 : n < sp + 2
        · have eE := six (.inl (by rw [← hn, ← hsp]; exact h5))
          obtain ⟨eX, eM⟩ := bad (by rw [eE]; decide)
          rw [eX, eM, eE]
          exact tk_short s w sp C1 p1 p2 n C2 hn0 h3 (by omega)
        · obtain ⟨m, hmn⟩ : ∃ m, n = m + 1 := ⟨n - 1, by omega⟩
          have hml : m < s.size := by omega
          have h5' : ¬ (n : Int) < (sp : Int) + 2 := by omega
          have hmi : (n : Int) - 1 = (m : Int) := by omega
          obtain ⟨x, hx⟩ : ∃ x : Int, ((s[m].toNat : Nat) : Int) = x := ⟨_, rfl⟩
          have hgx : zs.getD (n - 1) 0 = x := by rw [hmn, Nat.add_sub_cancel, hzs, num_at s m hml, hx]
          by_cases h6 : x = 10
          · have q6 : (x != 10) = false := by rw [h6]; rfl
            have hex : numsOf (s.extract 0 n) = zs.take n := by rw [nums_ext, ← hzs]; rfl
            have hexs : (s.extract 0 n).size = n := by rw [← numsOf_length, hex, List.length_take]; omega
            have hdrop : (zs.take n).drop (sp + 1) = tkB zs ++ [10] := by
              rw [take_snoc_getD (by omega) (by omega), hgx, h6, List.drop_append_of_le_length (by rw [List.length_take]; omega)]
              unfold tkB; rw [← hn, ← hsp]
            have C3 : Hid (∀ w', Calls Tryz.prog 162 #[.string (s.extract 0 n), .int .u8 61, .int .i64 ((sp : Int) + 1)] w' fun e w'' => e = .returned (.int .i64 (ixZ 61 (sp + 1) (zs.take n))) ∧ w' = w'') := fun w' => by
              have := rix_any (s.extract 0 n) 61 (sp + 1) w' (by omega) (by omega)
              rw [hex] at this
              exact this
            by_cases h7 : (61 : Int) ∈ tkB zs
            · obtain ⟨q, hq⟩ : ∃ q, q = sp + 1 + (tkK zs).length := ⟨_, rfl⟩
              have eJ : ixZ 61 (sp + 1) (zs.take n) = (q : Int) := by
                unfold ixZ
                rw [hdrop, if_pos (by simp [h7]), bef_app_in h7, hq]
                show ((sp + 1 : Nat) : Int) + ((tkK zs).length : Nat) = _
                omega
              rw [eJ] at C3
              have hBl : (tkB zs).length = n - 1 - (sp + 1) := by unfold tkB; rw [List.length_drop, List.length_take, ← hn, ← hsp]; omega
              have hKl : (tkK zs).length < (tkB zs).length := bef_len h7
              have hqm : q + 1 ≤ m := by omega
              have eK : (tkR zs).1 = s.extract (sp + 1) q := by
                rw [ext_str, ← hzs]
                show strOfNums (tkK zs) = _
                congr 1
                unfold tkK
                rw [bef_take, show (bef 61 (tkB zs)).length = q - (sp + 1) by rw [hq]; unfold tkK; omega]
                unfold tkB
                rw [← hn, ← hsp, List.drop_take, List.take_take, Nat.min_eq_left (by omega)]
              have eV2 : (tkR zs).2 = s.extract (q + 1) m := by
                rw [ext_str, ← hzs]
                show strOfNums (tkV zs) = _
                congr 1
                unfold tkV tkB
                rw [← hn, ← hsp, List.drop_drop, List.drop_take, hmn, Nat.add_sub_cancel]
                rw [show sp + 1 + ((tkK zs).length + 1) = q + 1 by omega]
              have ho := oth_tk hb
              have ho6 : oth ((tkR zs).1, (tkR zs).2) ≤ 1000000 := by
                show oth (tkR zs) ≤ _
                rw [ho]; have := kv_len zs; omega
              have C5 : Hid (∀ w', Calls Tryz.prog 123 #[.agg #[.string (tkR zs).1, .string (tkR zs).2]] w' fun e w'' => e = .returned (.int .i64 ((szR (tkR zs) : Nat) : Int)) ∧ Below w'.heap.size w' w'') := fun w' =>
                rsize_any (tkR zs).1 (tkR zs).2 w' ho6
              have hsz : szR (tkR zs) = szN ((tkK zs).length + (tkV zs).length + 3) := by unfold szR; rw [ho]
              by_cases h8 : szN ((tkK zs).length + (tkV zs).length + 3) = tkN zs
              · have T0 : TkOk zs := ⟨a1, a2, by omega, by omega, by omega, by omega, by rw [← hn, hgx]; exact h6, h7, h8⟩
                have eE : tkE zs = 0 := (tkE_ok zs).2 T0
                have eX : tkX zs = tkR zs := by unfold tkX; rw [if_pos eE]
                have eM : tkM zs = n := by unfold tkM; rw [if_pos eE, hn]
                rw [eX, eM, eE]
                exact tk_good s w sp C1 p1 p2 n C2 hn0 h3 h5' m hmi hml x hx q6 q C3 (by omega) (by omega) _ _ eK eV2 _ C5 (by rw [hsz, h8, hn]; simp)
              · have eE := six (.inr (.inr (.inr h8)))
                obtain ⟨eX, eM⟩ := bad (by rw [eE]; decide)
                rw [eX, eM, eE]
                exact tk_size s w sp C1 p1 p2 n C2 hn0 h3 h5' m hmi hml x hx q6 q C3 (by omega) (by omega) _ _ eK eV2 _ C5 (by rw [hsz, hn]; simp; omega)
            · have eJ : ixZ 61 (sp + 1) (zs.take n) = -1 := by
                unfold ixZ; rw [hdrop, if_neg (by simp [h7])]
              rw [eJ] at C3
              have eE := six (.inr (.inr (.inl h7)))
              obtain ⟨eX, eM⟩ := bad (by rw [eE]; decide)
              rw [eX, eM, eE]
              exact tk_noeq s w sp C1 p1 p2 n C2 hn0 h3 h5' m hmi hml x hx q6 _ C3 (by decide)
          · have eE := six (.inr (.inl (by rw [← hn, hgx]; exact h6)))
            obtain ⟨eX, eM⟩ := bad (by rw [eE]; decide)
            rw [eX, eM, eE]
            exact tk_nonl s w sp C1 p1 p2 n C2 hn0 h3 h5' m hmi hml x hx (by simpa using h6)
  · have eI : ixZ 32 0 zs = -1 := by unfold ixZ; rw [List.drop_zero, if_neg a1]
    rw [eI] at C1
    have eE : tkE zs = 6 := by unfold tkE; rw [if_pos (.inl a1)]
    obtain ⟨eX, eM⟩ := bad (by rw [eE]; decide)
    rw [eX, eM, eE]
    exact tk_none s w (-1) C1 (by decide)
end Go.Proofs.YtbbaleambgaanaaGreatDoor.Pxr
namespace Go.Proofs.YtbbaleambgaanaaGreatDoor.Pxr
open Go.RowKit
def RetRecs (rs : List Rec) (N : Nat) (E : Int) (w : World) (e : Ending) (w' : World) : Prop :=
  ∃ a l c, e = .returned (.tuple #[.slice a l c, .int .i64 (N : Int), .int .i64 E]) ∧ l = rs.length ∧ l ≤ c ∧ c ≤ maxLen ∧ RecsIn w' a rs ∧ Below w.heap.size w w'
def RetRecsF (rs : List Rec) (N : Nat) (E : Int) (w : World) (e : Ending) (w' : World) : Prop :=
  ∃ a l c, e = .returned (.tuple #[.slice a l c, .int .i64 (N : Int), .int .i64 E]) ∧ l = rs.length ∧ l ≤ c ∧ c ≤ maxLen ∧ RecsIn w' a rs ∧ Below w.heap.size w w' ∧ ∀ x, a = some x → w.heap.size ≤ x.block
theorem RetRecsF.nil {N : Nat} {E : Int} {w w' : World} (h : Below w.heap.size w w') : RetRecsF [] N E w (.returned (.tuple #[.slice none 0 0, .int .i64 (N : Int), .int .i64 E])) w' :=
  ⟨none, 0, 0, rfl, rfl, Nat.le_refl _, Nat.zero_le _, .inl rfl, h, fun x hx => by cases hx⟩
theorem RetRecsF.ret {rs : List Rec} {N : Nat} {E : Int} {w w' : World} {e : Ending} (h : RetRecsF rs N E w e w') : RetRecs rs N E w e w' := by
  obtain ⟨a, l, c, h1, h2, h3, h4, h5, h6, _⟩ := h
  exact ⟨a, l, c, h1, h2, h3, h4, h5, h6⟩
theorem tkX_sz {zs : List Int} (hz : ∀ z ∈ zs, 0 ≤ z ∧ z ≤ 255) (hl : zs.length ≤ 300000) : (tkX zs).1.size ≤ 300000 ∧ (tkX zs).2.size ≤ 300000 := by
  unfold tkX
  split
  · have := kv_len zs
    obtain ⟨h1, h2⟩ := bd_of_take hz
    exact ⟨str_bd (by omega) h1, str_bd (by omega) h2⟩
  · exact ⟨Nat.zero_le _, Nat.zero_le _⟩
set_option maxHeartbeats 8000000 in
set_option maxRecDepth 100000 in
theorem parse_new (a : Option Addr) (n cap : Nat) (zs : List Int) (w : World) (V : Vars w) (hn : zs.length = n) (hz : ∀ z ∈ zs, 0 ≤ z ∧ z ≤ 255) (hi : BytesIn w a zs) (hN : n ≤ 300000) :
    Calls Tryz.prog 129 #[.slice a n cap] w (RetRecsF (parZ zs).1 (parZ zs).2.1 (parZ zs).2.2 w) := by
  obtain ⟨PR, hPR⟩ := named (parZ zs).1
  obtain ⟨PN, hPN⟩ := named (parZ zs).2.1
  obtain ⟨PE, hPE⟩ := named (parZ zs).2.2
  have hP : Hid (parZ zs = (PR, PN, PE)) := by show _ = _; rw [hPR.out, hPN.out, hPE.out]
  rw [← hPR.out, ← hPN.out, ← hPE.out]
  by_cases hb : 262144 < n
  · have e : (PR, PN, PE) = (([] : List Rec), 0, (7 : Int)) := by rw [← hP.out]; unfold parZ; rw [if_pos (by omega)]
    simp only [Prod.mk.injEq] at e
    obtain ⟨rfl, rfl, rfl⟩ := e
    have m1 : (262144 : Int) < n := by omega
    clear hP hPR hPN hPE
    go_enter Tryz.func129, Tryz.ntmps129
    go_wp2
    go_ret3
    exact .nil (Below.refl _ _)
  · have m1 : ¬ (262144 : Int) < n := by omega
    obtain ⟨i0, hI⟩ := recI
    obtain ⟨S, hS⟩ := named (strOfNums zs)
    have hSn : numsOf S = zs := by rw [hS.out]; exact numsOf_strOfNums hz
    have hSs : S.size = n := by rw [← numsOf_length, hSn, hn]
    have hcv := run_str_in (P := Tryz.prog) Tryz.underlying24 Tryz.underlying5 Tryz.underlying9 hi n cap hn
    rw [← hS.out] at hcv
    have HP0 : Hid (pgo (n + 1) [] 0 zs = (PR, PN, PE)) := by show _ = _; rw [← hP.out]; unfold parZ; rw [hn, if_neg hb]
    have HV := Lib.hid V
    have NS := Lib.hid hSn; have SS := Lib.hid hSs; have HZB := Lib.hid hz; have HNL := Lib.hid hn
    have hJ := Lib.hid recJ; have HZ := Lib.hid recZ; have HO := Lib.hid recO
    have HB := Lib.hid hb
    have HUnd := Lib.hid Tryz.underlying57
    obtain ⟨B, hBd⟩ := named w.heap.size
    clear hP hPR hPN hPE hSn hSs hz hi V hn hb hN
    go_enter Tryz.func129, Tryz.ntmps129
    go_wp2_with fail
    clear hcv
    go_loopw [6, 7] (fun l o wr => ∃ (out : List Rec) (at_ f : Nat), o = .int .i64 at_ ∧ at_ ≤ n ∧ out.length ≤ at_ ∧ n < at_ + f ∧ pgo f out at_ zs = (PR, PN, PE) ∧ wr.ownsRow w.heap.size 107 2 l out.length (recCells out) ∧ Below w.heap.size w wr)
      (fun _ o _ => n + 1 - (intOf o).toNat)
    case atStart => exact ⟨[], 0, n + 1, rfl, Nat.zero_le _, Nat.le_refl _, by omega, HP0.out, ⟨rfl, .inl ⟨rfl, rfl⟩⟩, Below.refl _ _⟩
    case round =>
      obtain ⟨out, at_, f, rfl, hat, hol, hf, hgo, hown, hbel⟩ := hrel
      obtain ⟨g, rfl⟩ : ∃ g, f = g + 1 := ⟨f - 1, by omega⟩
      have HG := Lib.hid hgo; have HW := Lib.hid hown; have HL := Lib.hid hbel; have HF := Lib.hid hf; have HOL := Lib.hid hol
      obtain ⟨va, vc, hv, hvn, hvc, hvm, hvi, hvb⟩ := RecsIn.of_own hown
      subst hv
      have HVB := Lib.hid hvb; have HVI := Lib.hid hvi; have HVC := Lib.hid hvc; have HVM := Lib.hid hvm
      clear hgo hown hbel hf hol hvi hvn hvc hvm hvb
      by_cases hlt : at_ < n
      · have q1 : (at_ : Int) < S.size := by rw [SS.out]; omega
        have q2 : (at_ : Int) ≤ S.size := by omega
        have hzn : ¬ zs.length ≤ at_ := by rw [HNL.out]; omega
        obtain ⟨sub, hsub⟩ := named (S.extract at_ S.size)
        have hsubn : numsOf sub = zs.drop at_ := by
          rw [hsub.out, nums_ext, NS.out, List.take_of_length_le (by rw [List.length_drop, SS.out, HNL.out]; omega)]
        have hsubs : sub.size ≤ 300000 := by rw [← numsOf_length, hsubn, List.length_drop, HNL.out]; have := HB.out; omega
        have PF := pfirst_any sub wr (HV.out.go HL.out) hsubs
        rw [hsubn] at PF
        have hdz : ∀ z ∈ zs.drop at_, 0 ≤ z ∧ z ≤ 255 := fun z hz0 => HZB.out z (List.mem_of_mem_drop hz0)
        have XS := tkX_sz hdz (by rw [List.length_drop, HNL.out]; have := HB.out; omega)
        obtain ⟨E, hE⟩ := named (tkE (zs.drop at_))
        obtain ⟨K, hK⟩ := named (tkX (zs.drop at_)).1
        obtain ⟨D, hD⟩ := named (tkX (zs.drop at_)).2
        rw [← hE.out, ← hK.out, ← hD.out] at PF
        rw [← hK.out, ← hD.out] at XS
        have HPF := Lib.hid PF
        have HXS := Lib.hid XS
        have HZN := Lib.hid hzn
        clear PF XS hsubn hsubs hdz hzn hlt
        by_cases hE0 : E = 0
        · have T0 : TkOk (zs.drop at_) := (tkE_ok _).1 (by rw [← hE.out]; exact hE0)
          have hX : tkX (zs.drop at_) = tkR (zs.drop at_) := by unfold tkX; rw [if_pos (by rw [← hE.out]; exact hE0)]
          have hKD : Hid ((K, D) = tkR (zs.drop at_)) := by show _ = _; rw [hK.out, hD.out, hX]
          have hte : Hid (tkE (zs.drop at_) = 0) := by show _ = _; rw [← hE.out]; exact hE0
          have hdz : ∀ z ∈ zs.drop at_, 0 ≤ z ∧ z ≤ 255 := fun z hz0 => HZB.out z (List.mem_of_mem_drop hz0)
          have hSZ : Hid (szR (K, D) = tkN (zs.drop at_)) := by show _ = _; rw [hKD.out]; exact (tk_en hdz T0).2
          have hoth : Hid (oth (K, D) ≤ 1000000) := by
            show _ ≤ _
            rw [hKD.out, oth_tk hdz]
            have := kv_len (zs.drop at_)
            rw [List.length_drop, HNL.out] at this
            have := HB.out
            omega
          have hTN : 1 ≤ tkN (zs.drop at_) ∧ tkN (zs.drop at_) ≤ n - at_ := ⟨T0.pos, by have := T0.len; rw [List.length_drop, HNL.out] at this; exact this⟩
          have HTN := Lib.hid hTN
          subst hE0
          obtain ⟨C, hC⟩ := named (chkN out (K, D))
          have HCN := Lib.hid fun (w' : World) (hb : Below w.heap.size w w') (hr : RecsIn w' va out) =>
            (show Calls Tryz.prog 118 #[.slice va out.length vc, .agg #[.string K, .string D]] w' fun e w'' => e = .returned (.int .i64 C) ∧ Below w'.heap.size w' w'' by
              rw [hC.out]; exact next_any va out.length vc out K D w' (HV.out.go hb) (by have := HXS.out; unfold maxLen; omega) rfl HVC.out HVM.out hr)
          clear T0 hX hTN hdz
          go_wp2_with fail
          rw [← hsub.out]
          refine HPF.out.mono ?_; rintro e w1 ⟨rfl, b1⟩
          have HNE : Hid (some w1.heap.size ≠ (Value.slice va out.length vc).ownBlock) := fun e => by
            cases hq : va with
            | none => rw [hq] at e; cases e
            | some x =>
              rw [hq] at e
              have h1 := (HVB.out x hq).2
              have h2 := b1.size
              have h3 : w1.heap.size = x.block := Option.some.inj e
              omega
          have I1 := Lib.hid (HVI.out.below b1)
          have W1 := Lib.hid (own_stay HW.out b1 (Nat.le_refl _))
          have B1 := Lib.hid (belT HL.out b1)
          clear b1
          go_wp2_with (first | (refine wpList_alloc_obj rfl 107 rfl rz HZ.out ?_; intro w2 g2 b2; have R2 := Lib.hid g2; have A2 := Lib.hid b2; have B2 := Lib.hid (belT B1.out b2); clear g2 b2) | (refine wpList_store_obj rfl 107 _ _ rfl w1.heap.size rfl [.string K, .string D] rz rfl 107 R2.out HO.out.2 rfl (rec_one _ _) ?_; intro w3 g3 t3; have R3 := Lib.hid g3; have A3 := Lib.hid (A2.out.trans (t3.below (Nat.le_refl w1.heap.size))); have I3 := Lib.hid (I1.out.below A3.out); have W3 := Lib.hid (own_stay W1.out A3.out (Nat.le_refl _)); have B3 := Lib.hid (belT B1.out A3.out); have c0 := g3.get 0 rfl; have c1 := g3.get 1 rfl; clear g3 t3))
          refine (HCN.out _ B3.out I3.out).mono ?_; rintro e w4 ⟨rfl, b4⟩
          have R4 := Lib.hid (R3.out.below b4 R3.out.lt)
          have W4 := Lib.hid (own_stay W3.out b4 (Nat.le_refl _))
          have B4 := Lib.hid (belT B3.out b4)
          clear b4 c0 c1
          by_cases hC0 : C = 0
          · have HG2 : Hid (pgo g (out ++ [(K, D)]) (at_ + tkN (zs.drop at_)) zs = (PR, PN, PE)) := by
              show _ = _
              have := HG.out
              rw [pgo_go HZN.out hte.out (by rw [← hKD.out, ← hC.out]; exact hC0), ← hKD.out] at this
              exact this
            have SA := Lib.hid (fun (w' : World) (hb : Below w.heap.size w w') => size_any K D w' (HV.out.go hb) hoth.out)
            rw [hSZ.out] at SA
            obtain ⟨tn, htn⟩ := named (tkN (zs.drop at_))
            rw [← htn.out] at SA HTN HG2
            have c0 := R4.out.get 0 rfl
            have c1 := R4.out.get 1 rfl
            have LR := Lib.hid R4.out.lt
            have hva := RecsIn.of_own W4.out
            have ho6 : Hid (out.length ≤ 1000000) := by show _ ≤ _; have := HOL.out; have := HB.out; omega
            have p1 : (at_ : Int) + tn ≤ 1000000 := by have := HTN.out; have := HB.out; omega
            have HC0 := Lib.hid hC0
            subst hC0
            clear hva
            go_wp2_with (first | (refine wpList_lit_rec rfl _ 107 _ rfl HUnd.out _ hJ.out K D rfl ?_; intro w5 g5 b5; have G5 := Lib.hid g5; have R5 := Lib.hid (R4.out.below b5 LR.out); have W5 := Lib.hid (own_stay W4.out b5 (Nat.le_refl _)); have B5 := Lib.hid (belT B4.out b5); clear g5 b5) | (at_builtin; refine wpList_append_rec rfl _ _ _ rfl w.heap.size _ i0 _ HUnd.out hI _ out.length out rfl W5.out w4.heap.size (K, D) rfl G5.out ho6.out B5.out.size ?_; intro v6 w6 o6 b6 k6; have W6 := Lib.hid o6; have B6 := Lib.hid (B5.out.trans b6); have r6 := (k6 w1.heap.size R5.out.lt HNE.out).trans R5.out; have R6 : Hid (ObjAt w6 w1.heap.size 107 [.string K, .string D]) := r6; have d0 := R6.out.get 0 rfl; have d1 := R6.out.get 1 rfl; clear o6 b6 k6 r6))
            refine (SA.out _ B6.out).mono ?_; rintro e w7 ⟨rfl, b7⟩
            have W7 := Lib.hid (own_stay W6.out b7 (Nat.le_refl _))
            have B7 := Lib.hid (belT B6.out b7)
            clear b7 d0 d1 c0 c1
            go_wp2
            go_roundw
            case rel => exact ⟨out ++ [(K, D)], at_ + tn, g, by go_num, by have := HTN.out; omega, by rw [List.length_append, List.length_singleton]; have := HTN.out; have := HOL.out; omega, by have := HTN.out; have := HF.out; omega, HG2.out, by rw [List.length_append, List.length_singleton]; exact W7.out, B7.out⟩
            case measure => simp [intOf]; have := HTN.out; omega
          · have q3 : (C == 0) = false := by simpa using hC0
            have q4 : (C != 0) = true := by simpa using hC0
            have R0 : Hid (([] : List Rec) = PR ∧ at_ = PN ∧ C = PE) := by
              show _ ∧ _ ∧ _
              have := HG.out
              rw [pgo_wrong HZN.out hte.out (by rw [← hKD.out, ← hC.out]; exact hC0), ← hKD.out, ← hC.out] at this
              simpa using this
            clear hC0
            go_wp2
            go_ret3
            obtain ⟨r1, r2, r3⟩ := R0.out
            rw [← r1, ← r2, ← r3]
            exact .nil B4.out
        · have q3 : (E == 0) = false := by simpa using hE0
          have q4 : (E != 0) = true := by simpa using hE0
          have R0 : Hid (([] : List Rec) = PR ∧ at_ = PN ∧ E = PE) := by
            show _ ∧ _ ∧ _
            have := HG.out
            rw [pgo_bad HZN.out (by rw [← hE.out]; exact hE0), ← hE.out] at this
            simpa using this
          clear hE0
          go_wp2_with fail
          rw [← hsub.out]
          refine HPF.out.mono ?_; rintro e w1 ⟨rfl, b1⟩
          have B1 := Lib.hid (belT HL.out b1)
          clear b1
          go_wp2_with (first | (refine wpList_alloc_obj rfl 107 rfl rz HZ.out ?_; intro w2 g2 b2; have R2 := Lib.hid g2; have B2 := Lib.hid (belT B1.out b2); clear g2 b2) | (refine wpList_store_obj rfl 107 _ _ rfl w1.heap.size rfl [.string K, .string D] rz rfl 107 R2.out HO.out.2 rfl (rec_one _ _) ?_; intro w3 g3 t3; have R3 := Lib.hid g3; have B3 := Lib.hid (B2.out.trans (t3.below B1.out.size)); clear g3 t3))
          go_ret3
          obtain ⟨r1, r2, r3⟩ := R0.out
          rw [← r1, ← r2, ← r3]
          exact .nil B3.out
      · obtain rfl : at_ = n := by omega
        have q1 : ¬ (at_ : Int) < S.size := by rw [SS.out]; omega
        have R0 : Hid (out = PR ∧ at_ = PN ∧ (0 : Int) = PE) := by
          show _ ∧ _ ∧ _
          have := HG.out
          rw [pgo_stop (by rw [HNL.out]; exact Nat.le_refl _), HNL.out] at this
          simpa using this
        clear hlt
        go_wp2
        go_ret3
        obtain ⟨r1, r2, r3⟩ := R0.out
        rw [← r1, ← r2, ← r3]
        exact ⟨va, out.length, vc, rfl, rfl, HVC.out, HVM.out, HVI.out, HL.out, fun x hx => (HVB.out x hx).1⟩
theorem parse_any (a : Option Addr) (n cap : Nat) (zs : List Int) (w : World) (V : Vars w) (hn : zs.length = n) (hz : ∀ z ∈ zs, 0 ≤ z ∧ z ≤ 255) (hi : BytesIn w a zs) (hN : n ≤ 300000) :
    Calls Tryz.prog 129 #[.slice a n cap] w (RetRecs (parZ zs).1 (parZ zs).2.1 (parZ zs).2.2 w) :=
  (parse_new a n cap zs w V hn hz hi hN).mono fun _ _ h => h.ret
end Go.Proofs.YtbbaleambgaanaaGreatDoor.Pxr
