/-
  Layer 7: the program's Check.
-/
import Derived.Test.YtokjmehecfjhmaaDoorUstKn
import Derived.Test.YtokjmehecfjhmaaDoorCstFormat
namespace Go.Proofs.YtokjmehecfjhmaaDoor.Ust
open Go.RowKit
open Oct Cst Chk

set_option maxHeartbeats 1000000 in
theorem known_any (T : Int) (w : World) : Calls Tryd.prog 36 #[.int .u8 T] w fun e w' => e = .returned (.bool (decide (known T))) ∧ w = w' := by
  by_cases h : known T
  · rw [decide_eq_true h]
    rcases h with rfl | rfl | rfl | rfl | rfl
    all_goals
      go_enter Tryd.func36, Tryd.ntmps36
      go_wp2
      go_ret
      exact ⟨rfl, rfl⟩
  · rw [decide_eq_false h]
    obtain ⟨h1, h2, h3, h4, h5⟩ := known_not h
    clear h
    go_enter Tryd.func36, Tryd.ntmps36
    go_wp2
    go_ret
    exact ⟨rfl, rfl⟩

set_option maxHeartbeats 1000000 in
theorem ctext_any (s : ByteArray) (wd : Int) (k : Nat) (w : World) (hk : wd = (k : Int)) :
    Calls Tryd.prog 37 #[.string s, .int .i64 wd] w fun e w' => e = .returned (.int .i64 (ceF (numsOf s) wd)) ∧ Below w.heap.size w w' := by
  by_cases h : ceF (numsOf s) wd = 0
  · have HF := Lib.hid (Cst.fmt_cap s k w (hk ▸ h))
    rw [← hk] at HF
    rw [h]; clear h hk
    go_enter Tryd.func37, Tryd.ntmps37
    go_wp2_with fail
    refine HF.out.mono ?_; rintro e w1 ⟨b, c, rfl, _, _, hb, _, _⟩
    have B := Lib.hid hb; clear hb
    go_wp2
    go_ret
    exact ⟨rfl, B.out⟩
  · have HF := Lib.hid (Cst.fmt_bad s wd w (by simp [h]))
    obtain ⟨E, HE⟩ := named (ceF (numsOf s) wd)
    rw [← HE.out] at HF ⊢
    clear h hk
    go_enter Tryd.func37, Tryd.ntmps37
    go_wp2_with fail
    refine HF.out.mono ?_; rintro e w1 ⟨rfl, rfl⟩
    go_wp2
    go_ret
    exact ⟨rfl, Below.refl _ _⟩

set_option maxHeartbeats 4000000 in
theorem check_any (T : Int) (nm pf lk : ByteArray) (md sz : Int) (w : World) (hn : nm.size ≤ maxLen) (hp : pf.size ≤ maxLen) (hk : lk.size ≤ maxLen) (_hT : 0 ≤ T ∧ T ≤ 255) :
    Calls Tryd.prog 20 #[.agg (hdV T nm pf lk md sz).toArray] w fun e w' => e = .returned (.int .i64 (ckH T nm pf lk md sz)) ∧ Below w.heap.size w w' := by
  clear _hT
  obtain ⟨kb, hkb⟩ := named (decide (known T))
  obtain ⟨e1, he1⟩ := named (ceF (numsOf nm) 100)
  obtain ⟨e2, he2⟩ := named (ceF (numsOf lk) 100)
  obtain ⟨e3, he3⟩ := named (ceF (numsOf pf) 155)
  have hck : ckH T nm pf lk md sz = if kb = false then 8 else if e1 ≠ 0 then e1 else if e2 ≠ 0 then e2 else if e3 ≠ 0 then e3 else if md < 0 ∨ 4095 < md then 16 else if sz < 0 ∨ 8589934591 < sz then 3 else 0 := by
    rw [hkb.out, he1.out, he2.out, he3.out]; unfold ckH; simp only [decide_eq_false_iff_not]
  obtain ⟨R, hR⟩ := named (ckH T nm pf lk md sz)
  have HR : Hid (R = if kb = false then 8 else if e1 ≠ 0 then e1 else if e2 ≠ 0 then e2 else if e3 ≠ 0 then e3 else if md < 0 ∨ 4095 < md then 16 else if sz < 0 ∨ 8589934591 < sz then 3 else 0) := by show _ = _; rw [hR.out]; exact hck
  rw [← hR.out]
  clear hck hR
  have HN := Lib.hid hn; have HP := Lib.hid hp; have HK := Lib.hid hk
  clear hn hp hk
  go_enter Tryd.func20, Tryd.ntmps20
  go_wp2_with (first | (refine wpList_box_obj rfl 27 _ rfl (hdV T nm pf lk md sz) rfl ?_; intro w1 h1 b1; have H1 := Lib.hid h1; have B1 := Lib.hid b1; have c0 := h1.get 0 rfl; clear h1 b1))
  refine (known_any T w1).mono ?_; rintro e w2 ⟨rfl, rfl⟩
  rw [← hkb.out]
  cases kb with
  | false =>
    go_wp2_with fail
    go_ret
    exact ⟨by have hr := HR.out; simp at hr; subst hr; rfl, B1.out⟩
  | true =>
    have c1 := H1.out.get 1 rfl
    clear c0
    go_wp2_with fail
    refine (ctext_any nm 100 100 w1 rfl).mono ?_; rintro e w2 ⟨rfl, b2⟩
    rw [← he1.out]
    have H2 := Lib.hid (H1.out.below b2 H1.out.lt); have B2 := Lib.hid (B1.out.trans (b2.mono B1.out.size))
    clear b2 c1
    by_cases z1 : e1 = 0
    · subst z1
      have c3 := H2.out.get 3 rfl
      go_wp2_with fail
      refine (ctext_any lk 100 100 w2 rfl).mono ?_; rintro e w3 ⟨rfl, b3⟩
      rw [← he2.out]
      have H3 := Lib.hid (H2.out.below b3 H2.out.lt); have B3 := Lib.hid (B2.out.trans (b3.mono B2.out.size))
      clear b3 c3
      by_cases z2 : e2 = 0
      · subst z2
        have c2 := H3.out.get 2 rfl
        go_wp2_with fail
        refine (ctext_any pf 155 155 w3 rfl).mono ?_; rintro e w4 ⟨rfl, b4⟩
        rw [← he3.out]
        have H4 := Lib.hid (H3.out.below b4 H3.out.lt); have B4 := Lib.hid (B3.out.trans (b4.mono B3.out.size))
        clear b4 c2
        by_cases z3 : e3 = 0
        · subst z3
          have c4 := H4.out.get 4 rfl
          have c5 := H4.out.get 5 rfl
          by_cases m0 : md < 0
          · go_wp2_with fail
            go_ret
            exact ⟨by have hr := HR.out; simp [m0] at hr; subst hr; rfl, B4.out⟩
          · by_cases m1 : 4095 < md
            · go_wp2_with fail
              go_ret
              exact ⟨by have hr := HR.out; simp [m1] at hr; subst hr; rfl, B4.out⟩
            · by_cases s0 : sz < 0
              · go_wp2_with fail
                go_ret
                exact ⟨by have hr := HR.out; simp at hr; rw [if_neg (by omega), if_pos (.inl s0)] at hr; subst hr; rfl, B4.out⟩
              · by_cases s1 : 8589934591 < sz
                · go_wp2_with fail
                  go_ret
                  exact ⟨by have hr := HR.out; simp at hr; rw [if_neg (by omega), if_pos (.inr s1)] at hr; subst hr; rfl, B4.out⟩
                · go_wp2_with fail
                  go_ret
                  exact ⟨by have hr := HR.out; simp at hr; rw [if_neg (by omega), if_neg (by omega)] at hr; subst hr; rfl, B4.out⟩
        · have n3 : (e3 != 0) = true := by simp [z3]
          go_wp2_with fail
          go_ret
          exact ⟨by have hr := HR.out; simp [z3] at hr; subst hr; rfl, B4.out⟩
      · have n2 : (e2 != 0) = true := by simp [z2]
        go_wp2_with fail
        go_ret
        exact ⟨by have hr := HR.out; simp [z2] at hr; subst hr; rfl, B3.out⟩
    · have n1 : (e1 != 0) = true := by simp [z1]
      go_wp2_with fail
      go_ret
      exact ⟨by have hr := HR.out; simp [z1] at hr; subst hr; rfl, B2.out⟩
end Go.Proofs.YtokjmehecfjhmaaDoor.Ust
