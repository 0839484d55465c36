/-
  Layer 7: the reference's known, Check, octal, text.
-/
import Derived.Test.YtbgmhdhfcckbbaaDoorUstMath
import Derived.Test.YtbgmhdhfcckbbaaDoorSObj
import Derived.Test.YtbgmhdhfcckbbaaDoorCstRefF
import Derived.Test.YtbgmhdhfcckbbaaDoorOctRefF
namespace Go.Proofs.YtbgmhdhfcckbbaaDoor.Ust
open Go.RowKit
open Oct Cst Chk

theorem known_not {T : Int} (h : ¬ known T) : (T == 48) = false ∧ (T == 49) = false ∧ (T == 50) = false ∧ (T == 53) = false ∧ (T == 120) = false := by
  unfold known at h
  simp only [not_or] at h
  obtain ⟨h1, h2, h3, h4, h5⟩ := h
  simp [h1, h2, h3, h4, h5]

set_option maxHeartbeats 1000000 in
theorem rknown_any (T : Int) (w : World) : Calls Tryd.prog 29 #[.int .u8 T] w fun e w' => e = .returned (.bool (decide (known T))) ∧ w = w' := by
  by_cases h : known T
  · rw [decide_eq_true h]
    rcases h with rfl | rfl | rfl | rfl | rfl
    all_goals
      go_enter Tryd.func29, Tryd.ntmps29
      go_wp2
      go_ret
      exact ⟨rfl, rfl⟩
  · rw [decide_eq_false h]
    obtain ⟨h1, h2, h3, h4, h5⟩ := known_not h
    clear h
    go_enter Tryd.func29, Tryd.ntmps29
    go_wp2
    go_ret
    exact ⟨rfl, rfl⟩

/-- the reference's string field, whatever comes of it -/
theorem rcfmt_any (s : ByteArray) (k : Nat) (w : World) (h1 : 1 ≤ k) (h2 : k ≤ 256) (hs : s.size ≤ maxLen) :
    Calls Tryd.prog 58 #[.string s, .int .i64 k] w fun e w' => ∃ b n c, e = .returned (.tuple #[.slice b n c, .int .i64 (ceF (numsOf s) k)]) ∧ Below w.heap.size w w' := by
  have hl := numsOf_length s
  by_cases hz : (0 : Int) ∈ numsOf s
  · have e : ceF (numsOf s) k = 6 := by unfold ceF; rw [if_neg (by omega), if_pos hz]
    rw [e]
    exact (Cst.rfmt_nul s k w (by omega) (by omega) hs hz).mono fun e w' ⟨h1, h2⟩ => ⟨_, _, _, h1, h2 ▸ Below.refl _ _⟩
  · by_cases hk : (k : Int) < s.size
    · have e : ceF (numsOf s) k = 7 := by unfold ceF; rw [if_neg (by omega), if_neg hz, if_pos (by rw [hl]; exact hk)]
      rw [e]
      exact (Cst.rfmt_long s k w (by omega) (by omega) hs hz hk).mono fun e w' ⟨h1, h2⟩ => ⟨_, _, _, h1, h2 ▸ Below.refl _ _⟩
    · have e : ceF (numsOf s) k = 0 := by unfold ceF; rw [if_neg (by omega), if_neg hz, if_neg (by rw [hl]; omega)]
      rw [e]
      exact (Cst.rfmt_ok s k w (by omega) (by omega) hz (by omega)).mono fun e w' ⟨b, c, h1, _, _, h2⟩ => ⟨_, _, _, h1, h2⟩

set_option maxHeartbeats 1000000 in
theorem rtext_any (s : ByteArray) (k : Nat) (w : World) (h : ceF (numsOf s) k = 0) :
    Calls Tryd.prog 23 #[.string s, .int .i64 k] w fun e w' => e = .returned (.string (strOfNums (fldS (numsOf s) k))) ∧ Below w.heap.size w w' := by
  obtain ⟨h1, h2, h3, h4⟩ := ceF_zero.1 h
  have hl := numsOf_length s
  have hlen := fldS_length (numsOf s) k (by omega)
  obtain ⟨S, hS⟩ := named (strOfNums (fldS (numsOf s) k))
  rw [← hS.out]
  go_enter Tryd.func23, Tryd.ntmps23
  go_wp2_with fail
  refine (Cst.rfmt_ok s k w h1 h2 h3 (by omega)).mono ?_; rintro e w1 ⟨b, c, rfl, hr, hlt, hb⟩
  have hc := run_str_of (P := Tryd.prog) (w := w1) Tryd.underlying26 Tryd.underlying5 Tryd.underlying9 hr k c hlen
  rw [← hS.out] at hc
  have B := Lib.hid hb
  clear hr hlt hb
  go_wp2
  go_ret
  exact ⟨rfl, B.out⟩
set_option maxHeartbeats 1000000 in
theorem roct_any (n wd : Int) (k : Nat) (w : World) (h1 : 1 ≤ k) (h2 : k ≤ 21) (hn : wd = (k : Int) + 1) (h0 : 0 ≤ n) (hm : n ≤ mx k) :
    Calls Tryd.prog 24 #[.int .i64 n, .int .i64 wd] w fun e w' => e = .returned (.string (strOfNums (fld k n))) ∧ Below w.heap.size w w' := by
  have hlen := fld_length k n
  obtain ⟨m, hm'⟩ := named (k + 1)
  have RF := Oct.rfmt_ok n wd k w h1 h2 hn h0 hm
  rw [← hm'.out] at RF hlen
  obtain ⟨S, hS⟩ := named (strOfNums (fld k n))
  rw [← hS.out]
  have HL := Lib.hid hlen
  have RF' := Lib.hid RF
  clear h1 h2 hn h0 hm RF hlen hm'
  go_enter Tryd.func24, Tryd.ntmps24
  go_wp2_with fail
  refine RF'.out.mono ?_; rintro e w1 ⟨b, c, rfl, hr, hlt, hb⟩
  have hc := run_str_of (P := Tryd.prog) (w := w1) Tryd.underlying26 Tryd.underlying5 Tryd.underlying9 hr m c HL.out
  rw [← hS.out] at hc
  have B := Lib.hid hb
  clear hr hlt hb
  go_wp2
  go_ret
  exact ⟨rfl, B.out⟩

set_option maxHeartbeats 4000000 in
theorem rcheck_any (T : Int) (nm pf lk : ByteArray) (md sz : Int) (w : World) (hn : nm.size ≤ maxLen) (hp : pf.size ≤ maxLen) (hk : lk.size ≤ maxLen) :
    Calls Tryd.prog 22 #[.agg (hdV T nm pf lk md sz).toArray] w fun e w' => e = .returned (.int .i64 (ckH T nm pf lk md sz)) ∧ Below w.heap.size w w' := by
  obtain ⟨kb, hkb⟩ := named (decide (known T))
  obtain ⟨e1, he1⟩ := named (ceF (numsOf nm) (100 : Nat))
  obtain ⟨e2, he2⟩ := named (ceF (numsOf lk) (100 : Nat))
  obtain ⟨e3, he3⟩ := named (ceF (numsOf pf) (155 : Nat))
  have hck : ckH T nm pf lk md sz = if kb = false then 8 else if e1 ≠ 0 then e1 else if e2 ≠ 0 then e2 else if e3 ≠ 0 then e3 else if md < 0 ∨ 4095 < md then 16 else if sz < 0 ∨ 8589934591 < sz then 3 else 0 := by
    rw [hkb.out, he1.out, he2.out, he3.out]; unfold ckH; simp only [decide_eq_false_iff_not]; rfl
  obtain ⟨R, hR⟩ := named (ckH T nm pf lk md sz)
  have HR : Hid (R = if kb = false then 8 else if e1 ≠ 0 then e1 else if e2 ≠ 0 then e2 else if e3 ≠ 0 then e3 else if md < 0 ∨ 4095 < md then 16 else if sz < 0 ∨ 8589934591 < sz then 3 else 0) := by show _ = _; rw [hR.out]; exact hck
  rw [← hR.out]
  clear hck hR
  have HN := Lib.hid hn; have HP := Lib.hid hp; have HK := Lib.hid hk
  clear hn hp hk
  go_enter Tryd.func22, Tryd.ntmps22
  go_wp2_with (first | (refine wpList_box_obj rfl 32 _ rfl (hdV T nm pf lk md sz) rfl ?_; intro w1 h1 b1; have H1 := Lib.hid h1; have B1 := Lib.hid b1; have c0 := h1.get 0 rfl; clear h1 b1))
  refine (rknown_any T w1).mono ?_; rintro e w2 ⟨rfl, rfl⟩
  rw [← hkb.out]
  cases kb with
  | false =>
    go_wp2_with fail
    go_ret
    exact ⟨by have hr := HR.out; simp at hr; subst hr; rfl, B1.out⟩
  | true =>
    have c1 := H1.out.get 1 rfl
    clear c0
    go_wp2_with fail
    refine (rcfmt_any nm 100 w1 (by decide) (by decide) HN.out).mono ?_; rintro e w2 ⟨_, _, _, rfl, b2⟩
    rw [← he1.out]
    have H2 := Lib.hid (H1.out.below b2 H1.out.lt); have B2 := Lib.hid (B1.out.trans (b2.mono B1.out.size))
    clear b2 c1
    by_cases z1 : e1 = 0
    · subst z1
      have c3 := H2.out.get 3 rfl
      go_wp2_with fail
      refine (rcfmt_any lk 100 w2 (by decide) (by decide) HK.out).mono ?_; rintro e w3 ⟨_, _, _, rfl, b3⟩
      rw [← he2.out]
      have H3 := Lib.hid (H2.out.below b3 H2.out.lt); have B3 := Lib.hid (B2.out.trans (b3.mono B2.out.size))
      clear b3 c3
      by_cases z2 : e2 = 0
      · subst z2
        have c2 := H3.out.get 2 rfl
        go_wp2_with fail
        refine (rcfmt_any pf 155 w3 (by decide) (by decide) HP.out).mono ?_; rintro e w4 ⟨_, _, _, rfl, b4⟩
        rw [← he3.out]
        have H4 := Lib.hid (H3.out.below b4 H3.out.lt); have B4 := Lib.hid (B3.out.trans (b4.mono B3.out.size))
        clear b4 c2
        by_cases z3 : e3 = 0
        · subst z3
          have c4 := H4.out.get 4 rfl
          have c5 := H4.out.get 5 rfl
          by_cases m0 : md < 0
          · go_wp2_with fail
            go_ret
            exact ⟨by have hr := HR.out; simp [m0] at hr; subst hr; rfl, B4.out⟩
          · by_cases m1 : 4095 < md
            · go_wp2_with fail
              go_ret
              exact ⟨by have hr := HR.out; simp [m1] at hr; subst hr; rfl, B4.out⟩
            · by_cases s0 : sz < 0
              · go_wp2_with fail
                go_ret
                exact ⟨by have hr := HR.out; simp at hr; rw [if_neg (by omega), if_pos (.inl s0)] at hr; subst hr; rfl, B4.out⟩
              · by_cases s1 : 8589934591 < sz
                · go_wp2_with fail
                  go_ret
                  exact ⟨by have hr := HR.out; simp at hr; rw [if_neg (by omega), if_pos (.inr s1)] at hr; subst hr; rfl, B4.out⟩
                · go_wp2_with fail
                  go_ret
                  exact ⟨by have hr := HR.out; simp at hr; rw [if_neg (by omega), if_neg (by omega)] at hr; subst hr; rfl, B4.out⟩
        · have n3 : (e3 != 0) = true := by simp [z3]
          go_wp2_with fail
          go_ret
          exact ⟨by have hr := HR.out; simp [z3] at hr; subst hr; rfl, B4.out⟩
      · have n2 : (e2 != 0) = true := by simp [z2]
        go_wp2_with fail
        go_ret
        exact ⟨by have hr := HR.out; simp [z2] at hr; subst hr; rfl, B3.out⟩
    · have n1 : (e1 != 0) = true := by simp [z1]
      go_wp2_with fail
      go_ret
      exact ⟨by have hr := HR.out; simp [z1] at hr; subst hr; rfl, B2.out⟩
end Go.Proofs.YtbgmhdhfcckbbaaDoor.Ust
