/-
  Layer 7: the reference's known, Check, octal, text.
-/
import Derived.Test.YtmbimnnacjbdfaaGreatDoorPz09
import Derived.Test.YtmbimnnacjbdfaaGreatDoorPz06
import Derived.Test.YtmbimnnacjbdfaaGreatDoorPz10
import Derived.Test.YtmbimnnacjbdfaaGreatDoorPz04
namespace Go.Proofs.YtmbimnnacjbdfaaGreatDoor.Ust
open Go.RowKit
open Oct Cst Chk

set_option maxHeartbeats 1000000 in
theorem rknown_any (T : Int) (w : World) : Calls Tryz.prog 96 #[.int .u8 T] w fun e w' => e = .returned (.bool (decide (known T))) ∧ w = w' := by
  by_cases h : known T
  · rw [decide_eq_true h]
    rcases h with rfl | rfl | rfl | rfl | rfl
    all_goals
      go_enter Tryz.func96, Tryz.ntmps96
      go_wp2
      go_ret
      exact ⟨rfl, rfl⟩
  · rw [decide_eq_false h]
    obtain ⟨h1, h2, h3, h4, h5⟩ := known_not h
    clear h
    go_enter Tryz.func96, Tryz.ntmps96
    go_wp2
    go_ret
    exact ⟨rfl, rfl⟩

/-- the reference's string field, whatever comes of it -/
theorem rcfmt_any (s : ByteArray) (k : Nat) (w : World) (h1 : 1 ≤ k) (h2 : k ≤ 256) (hs : s.size ≤ maxLen) :
    Calls Tryz.prog 97 #[.string s, .int .i64 k] w fun e w' => ∃ b n c, e = .returned (.tuple #[.slice b n c, .int .i64 (ceF (numsOf s) k)]) ∧ Below w.heap.size w w' := by
  have hl := numsOf_length s
  by_cases hz : (0 : Int) ∈ numsOf s
  · have e : ceF (numsOf s) k = 6 := by unfold ceF; rw [if_neg (by omega), if_pos hz]
    rw [e]
    exact (Cst.rfmt_nul s k w (by omega) (by omega) hs hz).mono fun e w' ⟨h1, h2⟩ => ⟨_, _, _, h1, h2 ▸ Below.refl _ _⟩
  · by_cases hk : (k : Int) < s.size
    · have e : ceF (numsOf s) k = 7 := by unfold ceF; rw [if_neg (by omega), if_neg hz, if_pos (by rw [hl]; exact hk)]
      rw [e]
      exact (Cst.rfmt_long s k w (by omega) (by omega) hs hz hk).mono fun e w' ⟨h1, h2⟩ => ⟨_, _, _, h1, h2 ▸ Below.refl _ _⟩
    · have e : ceF (numsOf s) k = 0 := by unfold ceF; rw [if_neg (by omega), if_neg hz, if_neg (by rw [hl]; omega)]
      rw [e]
      exact (Cst.rfmt_ok s k w (by omega) (by omega) hz (by omega)).mono fun e w' ⟨b, c, h1, _, _, h2⟩ => ⟨_, _, _, h1, h2⟩

set_option maxHeartbeats 1000000 in
theorem rtext_any (s : ByteArray) (k : Nat) (w : World) (h : ceF (numsOf s) k = 0) :
    Calls Tryz.prog 54 #[.string s, .int .i64 k] w fun e w' => e = .returned (.string (strOfNums (fldS (numsOf s) k))) ∧ Below w.heap.size w w' := by
  obtain ⟨h1, h2, h3, h4⟩ := ceF_zero.1 h
  have hl := numsOf_length s
  have hlen := fldS_length (numsOf s) k (by omega)
  obtain ⟨S, hS⟩ := named (strOfNums (fldS (numsOf s) k))
  rw [← hS.out]
  go_enter Tryz.func54, Tryz.ntmps54
  go_wp2_with fail
  refine (Cst.rfmt_ok s k w h1 h2 h3 (by omega)).mono ?_; rintro e w1 ⟨b, c, rfl, hr, hlt, hb⟩
  have hc := run_str_of (P := Tryz.prog) (w := w1) Tryz.underlying25 Tryz.underlying5 Tryz.underlying9 hr k c hlen
  rw [← hS.out] at hc
  have B := Lib.hid hb
  clear hr hlt hb
  go_wp2
  go_ret
  exact ⟨rfl, B.out⟩
set_option maxHeartbeats 1000000 in
theorem roct_any (n wd : Int) (k : Nat) (w : World) (h1 : 1 ≤ k) (h2 : k ≤ 21) (hn : wd = (k : Int) + 1) (h0 : 0 ≤ n) (hm : n ≤ mx k) :
    Calls Tryz.prog 55 #[.int .i64 n, .int .i64 wd] w fun e w' => e = .returned (.string (strOfNums (fld k n))) ∧ Below w.heap.size w w' := by
  have hlen := fld_length k n
  obtain ⟨m, hm'⟩ := named (k + 1)
  have RF := Oct.rfmt_ok n wd k w h1 h2 hn h0 hm
  rw [← hm'.out] at RF hlen
  obtain ⟨S, hS⟩ := named (strOfNums (fld k n))
  rw [← hS.out]
  have HL := Lib.hid hlen
  have RF' := Lib.hid RF
  clear h1 h2 hn h0 hm RF hlen hm'
  go_enter Tryz.func55, Tryz.ntmps55
  go_wp2_with fail
  refine RF'.out.mono ?_; rintro e w1 ⟨b, c, rfl, hr, hlt, hb⟩
  have hc := run_str_of (P := Tryz.prog) (w := w1) Tryz.underlying25 Tryz.underlying5 Tryz.underlying9 hr m c HL.out
  rw [← hS.out] at hc
  have B := Lib.hid hb
  clear hr hlt hb
  go_wp2
  go_ret
  exact ⟨rfl, B.out⟩

set_option maxHeartbeats 4000000 in
theorem rcheck_any (T : Int) (nm pf lk : ByteArray) (md sz : Int) (w : World) (hn : nm.size ≤ maxLen) (hp : pf.size ≤ maxLen) (hk : lk.size ≤ maxLen) :
    Calls Tryz.prog 53 #[.agg (hdV T nm pf lk md sz).toArray] w fun e w' => e = .returned (.int .i64 (ckH T nm pf lk md sz)) ∧ Below w.heap.size w w' := by
  obtain ⟨kb, hkb⟩ := named (decide (known T))
  obtain ⟨e1, he1⟩ := named (ceF (numsOf nm) (100 : Nat))
  obtain ⟨e2, he2⟩ := named (ceF (numsOf lk) (100 : Nat))
  obtain ⟨e3, he3⟩ := named (ceF (numsOf pf) (155 : Nat))
  have hck : ckH T nm pf lk md sz = if kb = false then 8 else if e1 ≠ 0 then e1 else if e2 ≠ 0 then e2 else if e3 ≠ 0 then e3 else if md < 0 ∨ 4095 < md then 16 else if sz < 0 ∨ 8589934591 < sz then 3 else 0 := by
    rw [hkb.out, he1.out, he2.out, he3.out]; unfold ckH; simp only [decide_eq_false_iff_not]; rfl
  obtain ⟨R, hR⟩ := named (ckH T nm pf lk md sz)
  have HR : Hid (R = if kb = false then 8 else if e1 ≠ 0 then e1 else if e2 ≠ 0 then e2 else if e3 ≠ 0 then e3 else if md < 0 ∨ 4095 < md then 16 else if sz < 0 ∨ 8589934591 < sz then 3 else 0) := by show _ = _; rw [hR.out]; exact hck
  rw [← hR.out]
  clear hck hR
  have HN := Lib.hid hn; have HP := Lib.hid hp; have HK := Lib.hid hk
  clear hn hp hk
  go_enter Tryz.func53, Tryz.ntmps53
  go_wp2_with (first | (refine wpList_box_obj rfl 69 _ rfl (hdV T nm pf lk md sz) rfl ?_; intro w1 h1 b1; have H1 := Lib.hid h1; have B1 := Lib.hid b1; have c0 := h1.get 0 rfl; clear h1 b1))
  refine (rknown_any T w1).mono ?_; rintro e w2 ⟨rfl, rfl⟩
  rw [← hkb.out]
  cases kb with
  | false =>
    go_wp2_with fail
    go_ret
    exact ⟨by have hr := HR.out; simp at hr; subst hr; rfl, B1.out⟩
  | true =>
    have c1 := H1.out.get 1 rfl
    clear c0
    go_wp2_with fail
    refine (rcfmt_any nm 100 w1 (by decide) (by decide) HN.out).mono ?_; rintro e w2 ⟨_, _, _, rfl, b2⟩
    rw [← he1.out]
    have H2 := Lib.hid (H1.out.below b2 H1.out.lt); have B2 := Lib.hid (B1.out.trans (b2.mono B1.out.size))
    clear b2 c1
    by_cases z1 : e1 = 0
    · subst z1
      have c3 := H2.out.get 3 rfl
      go_wp2_with fail
      refine (rcfmt_any lk 100 w2 (by decide) (by decide) HK.out).mono ?_; rintro e w3 ⟨_, _, _, rfl, b3⟩
      rw [← he2.out]
      have H3 := Lib.hid (H2.out.below b3 H2.out.lt); have B3 := Lib.hid (B2.out.trans (b3.mono B2.out.size))
      clear b3 c3
      by_cases z2 : e2 = 0
      · subst z2
        have c2 := H3.out.get 2 rfl
        go_wp2_with fail
        refine (rcfmt_any pf 155 w3 (by decide) (by decide) HP.out).mono ?_; rintro e w4 ⟨_, _, _, rfl, b4⟩
        rw [← he3.out]
        have H4 := Lib.hid (H3.out.below b4 H3.out.lt); have B4 := Lib.hid (B3.out.trans (b4.mono B3.out.size))
        clear b4 c2
        by_cases z3 : e3 = 0
        · subst z3
          have c4 := H4.out.get 4 rfl
          have c5 := H4.out.get 5 rfl
          by_cases m0 : md < 0
          · go_wp2_with fail
            go_ret
            exact ⟨by have hr := HR.out; simp [m0] at hr; subst hr; rfl, B4.out⟩
          · by_cases m1 : 4095 < md
            · go_wp2_with fail
              go_ret
              exact ⟨by have hr := HR.out; simp [m1] at hr; subst hr; rfl, B4.out⟩
            · by_cases s0 : sz < 0
              · go_wp2_with fail
                go_ret
                exact ⟨by have hr := HR.out; simp at hr; rw [if_neg (by omega), if_pos (.inl s0)] at hr; subst hr; rfl, B4.out⟩
              · by_cases s1 : 8589934591 < sz
                · go_wp2_with fail
                  go_ret
                  exact ⟨by have hr := HR.out; simp at hr; rw [if_neg (by omega), if_pos (.inr s1)] at hr; subst hr; rfl, B4.out⟩
                · go_wp2_with fail
                  go_ret
                  exact ⟨by have hr := HR.out; simp at hr; rw [if_neg (by omega), if_neg (by omega)] at hr; subst hr; rfl, B4.out⟩
        · have n3 : (e3 != 0) = true := by simp [z3]
          go_wp2_with fail
          go_ret
          exact ⟨by have hr := HR.out; simp [z3] at hr; subst hr; rfl, B4.out⟩
      · have n2 : (e2 != 0) = true := by simp [z2]
        go_wp2_with fail
        go_ret
        exact ⟨by have hr := HR.out; simp [z2] at hr; subst hr; rfl, B3.out⟩
    · have n1 : (e1 != 0) = true := by simp [z1]
      go_wp2_with fail
      go_ret
      exact ⟨by have hr := HR.out; simp [z1] at hr; subst hr; rfl, B2.out⟩
end Go.Proofs.YtmbimnnacjbdfaaGreatDoor.Ust
/-
  Layer 7: the program's small functions: knownType, checkText, formatText, formatNumber, Check.
-/
namespace Go.Proofs.YtmbimnnacjbdfaaGreatDoor.Ust
open Go.RowKit
open Oct Cst Chk

/-- a new slice of bytes as the only result -/
def OneB (zs : List Int) (n : Nat) (w : World) (e : Ending) (w' : World) : Prop :=
  ∃ b c, e = .returned (.slice (some ⟨b, 0, none⟩) n c) ∧ RowAt w' b 0 zs ∧ b < w'.heap.size ∧ n ≤ c ∧ c ≤ maxLen ∧ Below w.heap.size w w'

set_option maxHeartbeats 1000000 in
theorem ftext_ok (s : ByteArray) (wd : Int) (k : Nat) (w : World) (hk : wd = (k : Int)) (h : ceF (numsOf s) k = 0) :
    Calls Tryz.prog 111 #[.string s, .int .i64 wd] w (OneB (fldS (numsOf s) k) k w) := by
  have HF := Lib.hid (Cst.fmt_cap s k w h)
  rw [← hk] at HF
  obtain ⟨zs, HZ⟩ := named (fldS (numsOf s) k)
  rw [← HZ.out] at HF ⊢
  clear h hk
  go_enter Tryz.func111, Tryz.ntmps111
  go_wp2_with fail
  refine HF.out.mono ?_; rintro e w1 ⟨b, c, rfl, hr, hl, hb, h1, h2⟩
  have B := Lib.hid hb; have R := Lib.hid hr; have L := Lib.hid hl; have C1 := Lib.hid h1; have C2 := Lib.hid h2; clear hb hr hl h1 h2
  go_wp2
  go_ret
  exact ⟨b, c, rfl, R.out, L.out, C1.out, C2.out, B.out⟩

set_option maxHeartbeats 1000000 in
theorem fnum_ok (n wd : Int) (k : Nat) (w : World) (h1 : 1 ≤ k) (h2 : k ≤ 21) (hn : wd = (k : Int) + 1) (h0 : 0 ≤ n) (hm : n ≤ mx k) :
    Calls Tryz.prog 113 #[.int .i64 n, .int .i64 wd] w (OneB (fld k n) (k + 1) w) := by
  have hF : Calls Tryz.prog 115 #[.int .i64 n, .int .i64 wd] w (RetB (fld k n) (k + 1) 0 w) :=
    (Oct.fmt_ok n wd k w h1 h2 hn h0 hm).mono fun e w' ⟨h, ho, hb⟩ => ⟨_, _, h, .of_own ho (fld_bd k n), (own_lt ho).2, hb, Nat.le_refl _, by unfold maxLen; omega⟩
  have HF := Lib.hid hF; clear hF
  obtain ⟨zs, HZ⟩ := named (fld k n)
  obtain ⟨m, HM⟩ := named (k + 1)
  rw [← HZ.out, ← HM.out] at HF ⊢
  clear h1 h2 hn h0 hm HM
  go_enter Tryz.func113, Tryz.ntmps113
  go_wp2_with fail
  refine HF.out.mono ?_; rintro e w1 ⟨b, c, rfl, hr, hl, hb, h1, h2⟩
  have B := Lib.hid hb; have R := Lib.hid hr; have L := Lib.hid hl; have C1 := Lib.hid h1; have C2 := Lib.hid h2; clear hb hr hl h1 h2
  go_wp2
  go_ret
  exact ⟨b, c, rfl, R.out, L.out, C1.out, C2.out, B.out⟩
end Go.Proofs.YtmbimnnacjbdfaaGreatDoor.Ust
/-
  Layer 7: the program's methods that write the fields of a header.
-/
namespace Go.Proofs.YtmbimnnacjbdfaaGreatDoor.Ust
open Go.RowKit
open Oct Cst Chk

theorem OneB.pre {zs : List Int} {n : Nat} {w w1 w' : World} {e : Ending} (h : OneB zs n w1 e w') (hb : Below w.heap.size w w1) : OneB zs n w e w' := by
  obtain ⟨b, c, h1, h2, h3, h4, h5, h6⟩ := h
  exact ⟨b, c, h1, h2, h3, h4, h5, belT hb h6⟩

section
variable (T : Int) (nm pf lk : ByteArray) (md sz : Int) (w : World)

set_option maxHeartbeats 1000000 in
theorem fm_name (wd : Int) (k : Nat) (hk : wd = (k : Int)) (h : ceF (numsOf nm) k = 0) :
    Calls Tryz.prog 71 #[.agg (hdV T nm pf lk md sz).toArray, .int .i64 wd] w (OneB (fldS (numsOf nm) k) k w) := by
  have HF : Hid (∀ w, Calls Tryz.prog 111 #[.string nm, .int .i64 wd] w (OneB (fldS (numsOf nm) k) k w)) := fun w => ftext_ok nm wd k w hk h
  obtain ⟨zs, HZ⟩ := named (fldS (numsOf nm) k)
  rw [← HZ.out] at HF ⊢
  clear hk h
  go_enter Tryz.func71, Tryz.ntmps71
  go_wp2_with (first | (refine wpList_box_obj rfl 63 _ rfl (hdV T nm pf lk md sz) rfl ?_; intro w1 h1 b1; have H1 := Lib.hid h1; have B1 := Lib.hid b1; have c0 := h1.get 1 rfl; clear h1 b1))
  refine (HF.out _).mono ?_; rintro e w2 ⟨b, c, rfl, h1, h2, h3, h4, h5⟩
  have F := Lib.hid (And.intro h1 (And.intro h2 (And.intro h3 (And.intro h4 (belT B1.out h5))))); clear h1 h2 h3 h4 h5
  go_wp2
  go_ret
  exact ⟨b, c, rfl, F.out⟩

set_option maxHeartbeats 1000000 in
theorem fm_link (wd : Int) (k : Nat) (hk : wd = (k : Int)) (h : ceF (numsOf lk) k = 0) :
    Calls Tryz.prog 81 #[.agg (hdV T nm pf lk md sz).toArray, .int .i64 wd] w (OneB (fldS (numsOf lk) k) k w) := by
  have HF : Hid (∀ w, Calls Tryz.prog 111 #[.string lk, .int .i64 wd] w (OneB (fldS (numsOf lk) k) k w)) := fun w => ftext_ok lk wd k w hk h
  obtain ⟨zs, HZ⟩ := named (fldS (numsOf lk) k)
  rw [← HZ.out] at HF ⊢
  clear hk h
  go_enter Tryz.func81, Tryz.ntmps81
  go_wp2_with (first | (refine wpList_box_obj rfl 63 _ rfl (hdV T nm pf lk md sz) rfl ?_; intro w1 h1 b1; have H1 := Lib.hid h1; have B1 := Lib.hid b1; have c0 := h1.get 3 rfl; clear h1 b1))
  refine (HF.out _).mono ?_; rintro e w2 ⟨b, c, rfl, h1, h2, h3, h4, h5⟩
  have F := Lib.hid (And.intro h1 (And.intro h2 (And.intro h3 (And.intro h4 (belT B1.out h5))))); clear h1 h2 h3 h4 h5
  go_wp2
  go_ret
  exact ⟨b, c, rfl, F.out⟩

set_option maxHeartbeats 1000000 in
theorem fm_prefix (wd : Int) (k : Nat) (hk : wd = (k : Int)) (h : ceF (numsOf pf) k = 0) :
    Calls Tryz.prog 85 #[.agg (hdV T nm pf lk md sz).toArray, .int .i64 wd] w (OneB (fldS (numsOf pf) k) k w) := by
  have HF : Hid (∀ w, Calls Tryz.prog 111 #[.string pf, .int .i64 wd] w (OneB (fldS (numsOf pf) k) k w)) := fun w => ftext_ok pf wd k w hk h
  obtain ⟨zs, HZ⟩ := named (fldS (numsOf pf) k)
  rw [← HZ.out] at HF ⊢
  clear hk h
  go_enter Tryz.func85, Tryz.ntmps85
  go_wp2_with (first | (refine wpList_box_obj rfl 63 _ rfl (hdV T nm pf lk md sz) rfl ?_; intro w1 h1 b1; have H1 := Lib.hid h1; have B1 := Lib.hid b1; have c0 := h1.get 2 rfl; clear h1 b1))
  refine (HF.out _).mono ?_; rintro e w2 ⟨b, c, rfl, h1, h2, h3, h4, h5⟩
  have F := Lib.hid (And.intro h1 (And.intro h2 (And.intro h3 (And.intro h4 (belT B1.out h5))))); clear h1 h2 h3 h4 h5
  go_wp2
  go_ret
  exact ⟨b, c, rfl, F.out⟩

set_option maxHeartbeats 1000000 in
theorem fm_magic :
    Calls Tryz.prog 83 #[.agg (hdV T nm pf lk md sz).toArray, .int .i64 6] w (OneB [117, 115, 116, 97, 114, 0] 6 w) := by
  have HF : Hid (∀ w, Calls Tryz.prog 111 #[.string { data := #[117, 115, 116, 97, 114] }, .int .i64 6] w (OneB [117, 115, 116, 97, 114, 0] 6 w)) := fun w => ftext_ok { data := #[117, 115, 116, 97, 114] } 6 6 w rfl (by decide)
  obtain ⟨zs, HZ⟩ := named ([117, 115, 116, 97, 114, 0] : List Int)
  rw [← HZ.out] at HF ⊢
  go_enter Tryz.func83, Tryz.ntmps83
  go_wp2_with (first | (refine wpList_box_obj rfl 63 _ rfl (hdV T nm pf lk md sz) rfl ?_; intro w1 h1 b1; have B1 := Lib.hid b1; clear h1 b1))
  refine (HF.out _).mono ?_; rintro e w2 ⟨b, c, rfl, h1, h2, h3, h4, h5⟩
  have F := Lib.hid (And.intro h1 (And.intro h2 (And.intro h3 (And.intro h4 (belT B1.out h5))))); clear h1 h2 h3 h4 h5
  go_wp2
  go_ret
  exact ⟨b, c, rfl, F.out⟩

set_option maxHeartbeats 1000000 in
theorem fm_version :
    Calls Tryz.prog 84 #[.agg (hdV T nm pf lk md sz).toArray, .int .i64 2] w (OneB [48, 48] 2 w) := by
  have HF : Hid (∀ w, Calls Tryz.prog 111 #[.string { data := #[48, 48] }, .int .i64 2] w (OneB [48, 48] 2 w)) := fun w => ftext_ok { data := #[48, 48] } 2 2 w rfl (by decide)
  obtain ⟨zs, HZ⟩ := named ([48, 48] : List Int)
  rw [← HZ.out] at HF ⊢
  go_enter Tryz.func84, Tryz.ntmps84
  go_wp2_with (first | (refine wpList_box_obj rfl 63 _ rfl (hdV T nm pf lk md sz) rfl ?_; intro w1 h1 b1; have B1 := Lib.hid b1; clear h1 b1))
  refine (HF.out _).mono ?_; rintro e w2 ⟨b, c, rfl, h1, h2, h3, h4, h5⟩
  have F := Lib.hid (And.intro h1 (And.intro h2 (And.intro h3 (And.intro h4 (belT B1.out h5))))); clear h1 h2 h3 h4 h5
  go_wp2
  go_ret
  exact ⟨b, c, rfl, F.out⟩

set_option maxHeartbeats 1000000 in
theorem fm_mode (h0 : 0 ≤ md) (hm : md ≤ 4095) :
    Calls Tryz.prog 73 #[.agg (hdV T nm pf lk md sz).toArray, .int .i64 8] w (OneB (fld 7 md) 8 w) := by
  have HF : Hid (∀ w, Calls Tryz.prog 113 #[.int .i64 md, .int .i64 8] w (OneB (fld 7 md) 8 w)) := fun w => fnum_ok md 8 7 w (by decide) (by decide) rfl h0 (by rw [mx_7]; omega)
  obtain ⟨zs, HZ⟩ := named (fld 7 md)
  rw [← HZ.out] at HF ⊢
  clear h0 hm
  go_enter Tryz.func73, Tryz.ntmps73
  go_wp2_with (first | (refine wpList_box_obj rfl 63 _ rfl (hdV T nm pf lk md sz) rfl ?_; intro w1 h1 b1; have H1 := Lib.hid h1; have B1 := Lib.hid b1; have c0 := h1.get 4 rfl; clear h1 b1))
  refine (HF.out _).mono ?_; rintro e w2 ⟨b, c, rfl, h1, h2, h3, h4, h5⟩
  have F := Lib.hid (And.intro h1 (And.intro h2 (And.intro h3 (And.intro h4 (belT B1.out h5))))); clear h1 h2 h3 h4 h5
  go_wp2
  go_ret
  exact ⟨b, c, rfl, F.out⟩

set_option maxHeartbeats 1000000 in
theorem fm_size (h0 : 0 ≤ sz) (hm : sz ≤ 8589934591) :
    Calls Tryz.prog 77 #[.agg (hdV T nm pf lk md sz).toArray, .int .i64 12] w (OneB (fld 11 sz) 12 w) := by
  have HF : Hid (∀ w, Calls Tryz.prog 113 #[.int .i64 sz, .int .i64 12] w (OneB (fld 11 sz) 12 w)) := fun w => fnum_ok sz 12 11 w (by decide) (by decide) rfl h0 (by rw [mx_11']; omega)
  obtain ⟨zs, HZ⟩ := named (fld 11 sz)
  rw [← HZ.out] at HF ⊢
  clear h0 hm
  go_enter Tryz.func77, Tryz.ntmps77
  go_wp2_with (first | (refine wpList_box_obj rfl 63 _ rfl (hdV T nm pf lk md sz) rfl ?_; intro w1 h1 b1; have H1 := Lib.hid h1; have B1 := Lib.hid b1; have c0 := h1.get 5 rfl; clear h1 b1))
  refine (HF.out _).mono ?_; rintro e w2 ⟨b, c, rfl, h1, h2, h3, h4, h5⟩
  have F := Lib.hid (And.intro h1 (And.intro h2 (And.intro h3 (And.intro h4 (belT B1.out h5))))); clear h1 h2 h3 h4 h5
  go_wp2
  go_ret
  exact ⟨b, c, rfl, F.out⟩

set_option maxHeartbeats 1000000 in
theorem fm_zero (wd : Int) (k : Nat) (h1 : 1 ≤ k) (h2 : k ≤ 21) (hn : wd = (k : Int) + 1) :
    Calls Tryz.prog 75 #[.agg (hdV T nm pf lk md sz).toArray, .int .i64 wd] w (OneB (fld k 0) (k + 1) w) := by
  have HF : Hid (∀ w, Calls Tryz.prog 113 #[.int .i64 0, .int .i64 wd] w (OneB (fld k 0) (k + 1) w)) := fun w => fnum_ok 0 wd k w h1 h2 hn (by decide) (mx_nonneg k)
  obtain ⟨zs, HZ⟩ := named (fld k 0)
  obtain ⟨m, HM⟩ := named (k + 1)
  rw [← HZ.out, ← HM.out] at HF ⊢
  clear h1 h2 hn HM
  go_enter Tryz.func75, Tryz.ntmps75
  go_wp2_with (first | (refine wpList_box_obj rfl 63 _ rfl (hdV T nm pf lk md sz) rfl ?_; intro w1 h1 b1; have B1 := Lib.hid b1; clear h1 b1))
  refine (HF.out _).mono ?_; rintro e w2 ⟨b, c, rfl, h1, h2, h3, h4, h5⟩
  have F := Lib.hid (And.intro h1 (And.intro h2 (And.intro h3 (And.intro h4 (belT B1.out h5))))); clear h1 h2 h3 h4 h5
  go_wp2
  go_ret
  exact ⟨b, c, rfl, F.out⟩

set_option maxHeartbeats 1000000 in
theorem fm_type (hT : 0 ≤ T ∧ T ≤ 255) (wd : Int) :
    Calls Tryz.prog 79 #[.agg (hdV T nm pf lk md sz).toArray, .int .i64 wd] w (OneB [T] 1 w) := by
  have HT := Lib.hid hT
  have HI := Lib.hid Cst.Tryz.info5
  go_enter Tryz.func79, Tryz.ntmps79
  go_wp2_with (first | (refine wpList_box_obj rfl 63 _ rfl (hdV T nm pf lk md sz) rfl ?_; intro w1 h1 b1; have H1 := Lib.hid h1; have B1 := Lib.hid b1; have c0 := h1.get 0 rfl; clear h1 b1) | (refine wpList_lit_one rfl 25 5 _ rfl Tryz.underlying25 HI.out T rfl HT.out ?_; intro w2 h2 b2; have H2 := Lib.hid h2; have B2 := Lib.hid b2; clear h2 b2))
  go_ret
  exact ⟨_, _, rfl, H2.out.row, H2.out.lt, Nat.le_refl _, by unfold maxLen; omega, belT B1.out B2.out⟩
end
end Go.Proofs.YtmbimnnacjbdfaaGreatDoor.Ust
/-
  Layer 7: a block in which one byte is changed; what is the same in every block. No memory.
-/
namespace Go.Proofs.YtmbimnnacjbdfaaGreatDoor.Ust
open Oct Cst Chk

theorem sealZ_getD (zs : List Int) (i : Nat) (h : zs.length = 512) (ho : i < 148 ∨ 156 ≤ i) : (sealZ zs).getD i 0 = zs.getD i 0 := by
  unfold sealZ lay
  rw [fieldZ_length]
  have ht : (zs.take 148).length = 148 := by rw [List.length_take, h]; rfl
  simp only [List.getD_eq_getElem?_getD]
  rcases ho with ho | ho
  · rw [List.getElem?_append_left (by omega), List.getElem?_take, if_pos ho]
  · rw [List.getElem?_append_right (by omega), List.getElem?_append_right (by rw [fieldZ_length]; omega), List.getElem?_drop, ht, fieldZ_length, show 148 + 8 + (i - 148 - 8) = i by omega]

section
variable {T : Int} {nm pf lk : ByteArray} {md sz : Int}

/-- one byte outside of the checksum changed: the block is not sealed -/
theorem dec_set (h : ckH T nm pf lk md sz = 0) {i : Nat} {c : Int} (hi : i < 512) (hc : 0 ≤ c ∧ c ≤ 255) (hne : c ≠ (encH T nm pf lk md sz).getD i 0) : deE ((encH T nm pf lk md sz).set i c) = 9 := by
  have hb := enc_bytes (known_byte (ckH_zero.1 h).1) nm pf lk md sz
  have hs := seal_one (encH T nm pf lk md sz) i c (enc_length h) hb (enc_sealed h) hi hc hne
  unfold deE
  rw [if_neg (by rw [List.length_set, enc_length h]; simp), if_pos (fun e => hs e.symm)]

/-- sealed anew -/
theorem dec_seal_set (h : ckH T nm pf lk md sz = 0) {i : Nat} {c : Int} (hi : i < 512) (ho : i < 148 ∨ 156 ≤ i) (hne : c ≠ (encH T nm pf lk md sz).getD i 0) :
    (sealZ ((encH T nm pf lk md sz).set i c)).length = 512 ∧ sealZ (encH T nm pf lk md sz |>.set i c) ≠ encH T nm pf lk md sz ∧
    (i = 156 → ¬ known c → deE (sealZ ((encH T nm pf lk md sz).set i c)) = 8) ∧ (i = 156 → known c → deE (sealZ ((encH T nm pf lk md sz).set i c)) = 0) ∧
    (i ≠ 156 → deE (sealZ ((encH T nm pf lk md sz).set i c)) = 0 ∨ deE (sealZ ((encH T nm pf lk md sz).set i c)) = 6) := by
  have hl : ((encH T nm pf lk md sz).set i c).length = 512 := by rw [List.length_set, enc_length h]
  have hg : ∀ j, j < 148 ∨ 156 ≤ j → (sealZ ((encH T nm pf lk md sz).set i c)).getD j 0 = ((encH T nm pf lk md sz).set i c).getD j 0 := fun j hj => sealZ_getD _ j hl hj
  have hgi : ((encH T nm pf lk md sz).set i c).getD i 0 = c := by
    rw [List.getD_eq_getElem?_getD, List.getElem?_set_self (by rw [enc_length h]; exact hi)]; rfl
  have n2 : ¬ (sealZ ((encH T nm pf lk md sz).set i c)).length ≠ 512 := by rw [seal_length hl]; simp
  have n9 : ¬ sealZ ((encH T nm pf lk md sz).set i c) ≠ sealZ (sealZ ((encH T nm pf lk md sz).set i c)) := by rw [sealZ_sealZ _ hl]; simp
  refine ⟨seal_length hl, ?_, ?_, ?_, ?_⟩
  · intro e
    have := hg i ho
    rw [e, hgi] at this
    exact hne this.symm
  · rintro rfl hk
    have e : dT (sealZ ((encH T nm pf lk md sz).set 156 c)) = c := (hg 156 (.inr (Nat.le_refl _))).trans hgi
    unfold deE
    rw [if_neg n2, if_neg n9, if_pos (by rw [e]; exact hk)]
  · rintro rfl hk
    obtain ⟨k1, k2⟩ := ckH_zero.1 h
    have h' : ckH c nm pf lk md sz = 0 := ckH_zero.2 ⟨hk, k2⟩
    obtain ⟨F, hF, he⟩ := enc_eq h
    have la := headA_length (md := md) (sz := sz) (ce_len (k := 100) k2.1)
    have e1 : (encH T nm pf lk md sz).set 156 c = lay (rawH c nm pf lk md sz) 148 F := by
      rw [he]
      unfold lay
      rw [hF]
      have a1 : (rawH c nm pf lk md sz).take 148 = headA (numsOf nm) md sz := app_take la
      have a2 : (rawH c nm pf lk md sz).drop (148 + 8) = tailB c (numsOf pf) (numsOf lk) := by
        unfold rawH
        rw [app_drop 148 8 la rfl, app_drop 8 0 sp8_length rfl, List.drop_zero]
      rw [a1, a2, List.set_append_right _ _ (by omega), List.set_append_right _ _ (by omega), la, hF]
      rfl
    rw [e1, sealZ_lay _ _ (raw_length h') hF]
    exact (dec_enc h').1
  · intro hn
    have e : dT (sealZ ((encH T nm pf lk md sz).set i c)) = T := by
      refine (hg 156 (.inr (Nat.le_refl _))).trans ?_
      rw [List.getD_eq_getElem?_getD, List.getElem?_set_ne hn, ← List.getD_eq_getElem?_getD]
      exact (enc_fields h).2.2.2.1
    unfold deE
    rw [if_neg n2, if_neg n9, if_neg (by rw [e]; exact not_not_intro (ckH_zero.1 h).1)]
    split <;> simp

/-- what is the same in every block -/
theorem enc_const (h : ckH T nm pf lk md sz = 0) : ((encH T nm pf lk md sz).drop 108).take 16 = fld 7 0 ++ fld 7 0 ∧ ((encH T nm pf lk md sz).drop 136).take 12 = fld 11 0 ∧
    ((encH T nm pf lk md sz).drop 257).take 88 = magic ++ (zeros 32 ++ (zeros 32 ++ (fld 7 0 ++ fld 7 0))) ∧ (encH T nm pf lk md sz).drop 500 = zeros 12 := by
  obtain ⟨F, hF, he⟩ := enc_eq h
  obtain ⟨_, h2, h3, h4, _⟩ := ckH_zero.1 h
  have l1 := fldS_length _ _ (ce_len (k := 100) h2)
  have l2 := fldS_length _ _ (ce_len (k := 100) h3)
  have l3 := fldS_length _ _ (ce_len (k := 155) h4)
  have la := headA_length (md := md) (sz := sz) (ce_len (k := 100) h2)
  have f7 := fld_length 7
  have f11 := fld_length 11
  have e1 : ∀ X : List Int, headA (numsOf nm) md sz ++ X = fldS (numsOf nm) 100 ++ (fld 7 md ++ ((fld 7 0 ++ fld 7 0) ++ (fld 11 sz ++ (fld 11 0 ++ X)))) := fun X => by simp only [headA, List.append_assoc]
  have e2 : tailB T (numsOf pf) (numsOf lk) = [T] ++ (fldS (numsOf lk) 100 ++ ((magic ++ (zeros 32 ++ (zeros 32 ++ (fld 7 0 ++ fld 7 0)))) ++ (fldS (numsOf pf) 155 ++ zeros 12))) := by simp only [tailB, List.append_assoc]
  have lm : (magic ++ (zeros 32 ++ (zeros 32 ++ (fld 7 0 ++ fld 7 0)))).length = 88 := by simp [f7, zeros_length, magic]
  have l77 : (fld 7 0 ++ fld 7 0).length = 16 := by simp [f7]
  rw [he]
  refine ⟨?_, ?_, ?_, ?_⟩
  · rw [e1, app_drop 100 8 l1 rfl, app_drop 8 0 (f7 md) rfl, List.drop_zero]; exact app_take l77
  · rw [e1, app_drop 100 36 l1 rfl, app_drop 8 28 (f7 md) rfl, app_drop 16 12 l77 rfl, app_drop 12 0 (f11 sz) rfl, List.drop_zero]; exact app_take (f11 0)
  · rw [app_drop 148 109 la rfl, app_drop 8 101 hF rfl, e2, app_drop 1 100 rfl rfl, app_drop 100 0 l2 rfl, List.drop_zero]; exact app_take lm
  · rw [app_drop 148 352 la rfl, app_drop 8 344 hF rfl, e2, app_drop 1 343 rfl rfl, app_drop 100 243 l2 rfl, app_drop 88 155 lm rfl, app_drop 155 0 l3 rfl, List.drop_zero]

theorem getD_part (zs : List Int) {a n i : Nat} (h1 : a ≤ i) (h2 : i < a + n) : zs.getD i 0 = ((zs.drop a).take n).getD (i - a) 0 := by
  simp only [List.getD_eq_getElem?_getD]
  rw [List.getElem?_take, if_pos (by omega), List.getElem?_drop, show a + (i - a) = i by omega]

def varyB (i : Nat) : Prop := i < 108 ∨ (124 ≤ i ∧ i < 136) ∨ (148 ≤ i ∧ i < 257) ∨ (345 ≤ i ∧ i < 500)
theorem enc_same {T' : Int} {nm' pf' lk' : ByteArray} {md' sz' : Int} (h : ckH T nm pf lk md sz = 0) (h' : ckH T' nm' pf' lk' md' sz' = 0) {i : Nat} (hi : i < 512) (hv : ¬ varyB i) :
    (encH T nm pf lk md sz).getD i 0 = (encH T' nm' pf' lk' md' sz').getD i 0 := by
  obtain ⟨a1, a2, a3, a4⟩ := enc_const h
  obtain ⟨b1, b2, b3, b4⟩ := enc_const h'
  unfold varyB at hv
  by_cases c1 : 108 ≤ i ∧ i < 124
  · rw [getD_part _ c1.1 (n := 16) (by omega), getD_part (encH T' nm' pf' lk' md' sz') c1.1 (n := 16) (by omega), a1, b1]
  · by_cases c2 : 136 ≤ i ∧ i < 148
    · rw [getD_part _ c2.1 (n := 12) (by omega), getD_part (encH T' nm' pf' lk' md' sz') c2.1 (n := 12) (by omega), a2, b2]
    · by_cases c3 : 257 ≤ i ∧ i < 345
      · rw [getD_part _ c3.1 (n := 88) (by omega), getD_part (encH T' nm' pf' lk' md' sz') c3.1 (n := 88) (by omega), a3, b3]
      · rw [getD_part _ (a := 500) (by omega) (n := 12) (by omega), getD_part (encH T' nm' pf' lk' md' sz') (a := 500) (by omega) (n := 12) (by omega), a4, b4]

/-- a string stands at its field's head -/
theorem take_fldS (s : List Int) (k : Nat) : (fldS s k).take s.length = s := by unfold fldS; simp
theorem enc_text (h : ckH T nm pf lk md sz = 0) : (encH T nm pf lk md sz).take (numsOf nm).length = numsOf nm ∧ ((encH T nm pf lk md sz).drop 157).take (numsOf lk).length = numsOf lk ∧ ((encH T nm pf lk md sz).drop 345).take (numsOf pf).length = numsOf pf := by
  obtain ⟨f1, _, _, _, f5, f6⟩ := enc_fields h
  obtain ⟨_, h2, h3, h4, _⟩ := ckH_zero.1 h
  have l1 := ce_len (k := 100) h2
  have l2 := ce_len (k := 100) h3
  have l3 := ce_len (k := 155) h4
  refine ⟨?_, ?_, ?_⟩
  · have := congrArg (List.take (numsOf nm).length) f1
    rwa [List.take_take, Nat.min_eq_left l1, take_fldS] at this
  · have := congrArg (List.take (numsOf lk).length) f5
    rwa [List.take_take, Nat.min_eq_left l2, take_fldS] at this
  · have := congrArg (List.take (numsOf pf).length) f6
    rwa [List.take_take, Nat.min_eq_left l3, take_fldS] at this
end
end Go.Proofs.YtmbimnnacjbdfaaGreatDoor.Ust
/-
  Layer 7: what stands in the program's block behind each row of its table. No memory.
-/
namespace Go.Proofs.YtmbimnnacjbdfaaGreatDoor.Ust
open Oct Cst Chk

/-- the rows' offsets and widths -/
def offT (j : Nat) : Nat := [0, 100, 108, 116, 124, 136, 156, 157, 257, 263, 329, 337, 345].getD j 0
def wdT (j : Nat) : Nat := [100, 8, 8, 8, 12, 12, 1, 100, 6, 2, 8, 8, 155].getD j 0

section
variable (T : Int) (nm pf lk : ByteArray) (md sz : Int)
/-- what row j writes -/
def valT (j : Nat) : List Int :=
  [fldS (numsOf nm) 100, fld 7 md, fld 7 0, fld 7 0, fld 11 sz, fld 11 0, [T], fldS (numsOf lk) 100, [117, 115, 116, 97, 114, 0], [48, 48], fld 7 0, fld 7 0, fldS (numsOf pf) 155].getD j []
/-- the block behind j rows -/
def cont : Nat → List Int
  | 0 => zeros 512
  | j + 1 => lay (cont j) (offT j) (valT T nm pf lk md sz j)
end

theorem zeros_add (m n : Nat) : zeros (m + n) = zeros m ++ zeros n := List.replicate_append_replicate.symm
theorem lay_grow (A V : List Int) (g r : Nat) {o m : Nat} (ho : o = A.length + g) (hm : m = g + (V.length + r)) : lay (A ++ zeros m) o V = (A ++ (zeros g ++ V)) ++ zeros r := by
  subst ho; subst hm
  unfold lay
  rw [zeros_add g, zeros_add V.length, ← List.append_assoc A]
  have hl : (A ++ zeros g).length = A.length + g := by simp [zeros_length]
  rw [show A.length + g = (A ++ zeros g).length from hl.symm, List.take_left, ← List.drop_drop, List.drop_left]
  rw [List.drop_left' (zeros_length V.length)]
  simp [List.append_assoc]

section
variable {T : Int} {nm pf lk : ByteArray} {md sz : Int}
theorem valT_length (h : ckH T nm pf lk md sz = 0) {j : Nat} (hj : j < 13) : (valT T nm pf lk md sz j).length = wdT j := by
  obtain ⟨_, h2, h3, h4, _⟩ := ckH_zero.1 h
  have l1 := fldS_length _ _ (ce_len (k := 100) h2)
  have l2 := fldS_length _ _ (ce_len (k := 100) h3)
  have l3 := fldS_length _ _ (ce_len (k := 155) h4)
  have f7 := fld_length 7
  have f11 := fld_length 11
  match j, hj with
  | 0, _ => exact l1
  | 1, _ => exact f7 _
  | 2, _ => exact f7 _
  | 3, _ => exact f7 _
  | 4, _ => exact f11 _
  | 5, _ => exact f11 _
  | 6, _ => rfl
  | 7, _ => exact l2
  | 8, _ => rfl
  | 9, _ => rfl
  | 10, _ => exact f7 _
  | 11, _ => exact f7 _
  | 12, _ => exact l3
theorem wdT_fit {j : Nat} (hj : j < 13) : offT j + wdT j ≤ 500 := by
  match j, hj with
  | 0, _ => decide
  | 1, _ => decide
  | 2, _ => decide
  | 3, _ => decide
  | 4, _ => decide
  | 5, _ => decide
  | 6, _ => decide
  | 7, _ => decide
  | 8, _ => decide
  | 9, _ => decide
  | 10, _ => decide
  | 11, _ => decide
  | 12, _ => decide
theorem cont_length (h : ckH T nm pf lk md sz = 0) : ∀ {j : Nat}, j ≤ 13 → (cont T nm pf lk md sz j).length = 512
  | 0, _ => zeros_length 512
  | j + 1, hj => by
    have ih := cont_length h (j := j) (by omega)
    have hv := valT_length h (j := j) (by omega)
    have hw := wdT_fit (j := j) (by omega)
    unfold cont
    rw [lay_length _ _ _ (by omega), ih]

/-- behind all rows: all but the checksum -/
theorem cont_last (h : ckH T nm pf lk md sz = 0) : cont T nm pf lk md sz 13 = headA (numsOf nm) md sz ++ (zeros 8 ++ tailB T (numsOf pf) (numsOf lk)) := by
  obtain ⟨_, h2, h3, h4, _⟩ := ckH_zero.1 h
  have l1 := fldS_length _ _ (ce_len (k := 100) h2)
  have l2 := fldS_length _ _ (ce_len (k := 100) h3)
  have l3 := fldS_length _ _ (ce_len (k := 155) h4)
  have f7 := fld_length 7
  have f11 := fld_length 11
  have zl := zeros_length
  have e64 : zeros 64 = zeros 32 ++ zeros 32 := zeros_add 32 32
  obtain ⟨N, hN⟩ : ∃ N, N = fldS (numsOf nm) 100 := ⟨_, rfl⟩
  obtain ⟨L, hL⟩ : ∃ N, N = fldS (numsOf lk) 100 := ⟨_, rfl⟩
  obtain ⟨Q, hQ⟩ : ∃ N, N = fldS (numsOf pf) 155 := ⟨_, rfl⟩
  obtain ⟨M, hM⟩ : ∃ N, N = fld 7 md := ⟨_, rfl⟩
  obtain ⟨S, hS⟩ : ∃ N, N = fld 11 sz := ⟨_, rfl⟩
  obtain ⟨Z, hZ⟩ : ∃ N, N = fld 7 0 := ⟨_, rfl⟩
  obtain ⟨Y, hY⟩ : ∃ N, N = fld 11 0 := ⟨_, rfl⟩
  have m1 : M.length = 8 := by rw [hM]; exact f7 _
  have m2 : S.length = 12 := by rw [hS]; exact f11 _
  have m3 : Z.length = 8 := by rw [hZ]; exact f7 _
  have m4 : Y.length = 12 := by rw [hY]; exact f11 _
  rw [← hN] at l1; rw [← hL] at l2; rw [← hQ] at l3
  have c0 : cont T nm pf lk md sz 1 = ([] ++ (zeros 0 ++ N)) ++ zeros 412 := by
    show lay (zeros 512) 0 (fldS (numsOf nm) 100) = _
    rw [← hN]; exact lay_grow [] N 0 412 rfl (by rw [l1])
  have c1 : cont T nm pf lk md sz 2 = (N ++ (zeros 0 ++ M)) ++ zeros 404 := by
    show lay (cont T nm pf lk md sz 1) 100 (fld 7 md) = _
    rw [c0, ← hM]; exact lay_grow N M 0 404 (by simp [l1]) (by simp [m1])
  obtain ⟨A1, hA1⟩ : ∃ A, A = N ++ (zeros 0 ++ M) := ⟨_, rfl⟩
  have a1 : A1.length = 108 := by simp [hA1, l1, m1, zl]
  have c2 : cont T nm pf lk md sz 3 = (A1 ++ (zeros 0 ++ Z)) ++ zeros 396 := by
    show lay (cont T nm pf lk md sz 2) 108 (fld 7 0) = _
    rw [c1, ← hZ, ← hA1]; exact lay_grow A1 Z 0 396 (by simp [a1]) (by simp [m3])
  obtain ⟨A2, hA2⟩ : ∃ A, A = A1 ++ (zeros 0 ++ Z) := ⟨_, rfl⟩
  have a2 : A2.length = 116 := by simp [hA2, a1, m3, zl]
  have c3 : cont T nm pf lk md sz 4 = (A2 ++ (zeros 0 ++ Z)) ++ zeros 388 := by
    show lay (cont T nm pf lk md sz 3) 116 (fld 7 0) = _
    rw [c2, ← hZ, ← hA2]; exact lay_grow A2 Z 0 388 (by simp [a2]) (by simp [m3])
  obtain ⟨A3, hA3⟩ : ∃ A, A = A2 ++ (zeros 0 ++ Z) := ⟨_, rfl⟩
  have a3 : A3.length = 124 := by simp [hA3, a2, m3, zl]
  have c4 : cont T nm pf lk md sz 5 = (A3 ++ (zeros 0 ++ S)) ++ zeros 376 := by
    show lay (cont T nm pf lk md sz 4) 124 (fld 11 sz) = _
    rw [c3, ← hS, ← hA3]; exact lay_grow A3 S 0 376 (by simp [a3]) (by simp [m2])
  obtain ⟨A4, hA4⟩ : ∃ A, A = A3 ++ (zeros 0 ++ S) := ⟨_, rfl⟩
  have a4 : A4.length = 136 := by simp [hA4, a3, m2, zl]
  have c5 : cont T nm pf lk md sz 6 = (A4 ++ (zeros 0 ++ Y)) ++ zeros 364 := by
    show lay (cont T nm pf lk md sz 5) 136 (fld 11 0) = _
    rw [c4, ← hY, ← hA4]; exact lay_grow A4 Y 0 364 (by simp [a4]) (by simp [m4])
  obtain ⟨A5, hA5⟩ : ∃ A, A = A4 ++ (zeros 0 ++ Y) := ⟨_, rfl⟩
  have a5 : A5.length = 148 := by simp [hA5, a4, m4, zl]
  have c6 : cont T nm pf lk md sz 7 = (A5 ++ (zeros 8 ++ [T])) ++ zeros 355 := by
    show lay (cont T nm pf lk md sz 6) 156 [T] = _
    rw [c5, ← hA5]; exact lay_grow A5 [T] 8 355 (by simp [a5]) (by simp)
  obtain ⟨A6, hA6⟩ : ∃ A, A = A5 ++ (zeros 8 ++ [T]) := ⟨_, rfl⟩
  have a6 : A6.length = 157 := by simp [hA6, a5, zl]
  have c7 : cont T nm pf lk md sz 8 = (A6 ++ (zeros 0 ++ L)) ++ zeros 255 := by
    show lay (cont T nm pf lk md sz 7) 157 (fldS (numsOf lk) 100) = _
    rw [c6, ← hL, ← hA6]; exact lay_grow A6 L 0 255 (by simp [a6]) (by simp [l2])
  obtain ⟨A7, hA7⟩ : ∃ A, A = A6 ++ (zeros 0 ++ L) := ⟨_, rfl⟩
  have a7 : A7.length = 257 := by simp [hA7, a6, l2, zl]
  have c8 : cont T nm pf lk md sz 9 = (A7 ++ (zeros 0 ++ [117, 115, 116, 97, 114, 0])) ++ zeros 249 := by
    show lay (cont T nm pf lk md sz 8) 257 [117, 115, 116, 97, 114, 0] = _
    rw [c7, ← hA7]; exact lay_grow A7 _ 0 249 (by simp [a7]) (by simp)
  obtain ⟨A8, hA8⟩ : ∃ A, A = A7 ++ (zeros 0 ++ [117, 115, 116, 97, 114, 0]) := ⟨_, rfl⟩
  have a8 : A8.length = 263 := by simp [hA8, a7, zl]
  have c9 : cont T nm pf lk md sz 10 = (A8 ++ (zeros 0 ++ [48, 48])) ++ zeros 247 := by
    show lay (cont T nm pf lk md sz 9) 263 [48, 48] = _
    rw [c8, ← hA8]; exact lay_grow A8 _ 0 247 (by simp [a8]) (by simp)
  obtain ⟨A9, hA9⟩ : ∃ A, A = A8 ++ (zeros 0 ++ [48, 48]) := ⟨_, rfl⟩
  have a9 : A9.length = 265 := by simp [hA9, a8, zl]
  have c10 : cont T nm pf lk md sz 11 = (A9 ++ (zeros 64 ++ Z)) ++ zeros 175 := by
    show lay (cont T nm pf lk md sz 10) 329 (fld 7 0) = _
    rw [c9, ← hZ, ← hA9]; exact lay_grow A9 Z 64 175 (by simp [a9]) (by simp [m3])
  obtain ⟨A10, hA10⟩ : ∃ A, A = A9 ++ (zeros 64 ++ Z) := ⟨_, rfl⟩
  have a10 : A10.length = 337 := by simp [hA10, a9, m3, zl]
  have c11 : cont T nm pf lk md sz 12 = (A10 ++ (zeros 0 ++ Z)) ++ zeros 167 := by
    show lay (cont T nm pf lk md sz 11) 337 (fld 7 0) = _
    rw [c10, ← hZ, ← hA10]; exact lay_grow A10 Z 0 167 (by simp [a10]) (by simp [m3])
  obtain ⟨A11, hA11⟩ : ∃ A, A = A10 ++ (zeros 0 ++ Z) := ⟨_, rfl⟩
  have a11 : A11.length = 345 := by simp [hA11, a10, m3, zl]
  have c12 : cont T nm pf lk md sz 13 = (A11 ++ (zeros 0 ++ Q)) ++ zeros 12 := by
    show lay (cont T nm pf lk md sz 12) 345 (fldS (numsOf pf) 155) = _
    rw [c11, ← hQ, ← hA11]; exact lay_grow A11 Q 0 12 (by simp [a11]) (by simp [l3])
  rw [c12, hA11, hA10, hA9, hA8, hA7, hA6, hA5, hA4, hA3, hA2, hA1, e64]
  unfold headA tailB magic
  rw [← hN, ← hL, ← hQ, ← hM, ← hS, ← hZ, ← hY]
  have z0 : zeros 0 = [] := rfl
  simp only [z0, List.nil_append, List.append_assoc, List.cons_append]

theorem cont_sealed (h : ckH T nm pf lk md sz = 0) : sealZ (cont T nm pf lk md sz 13) = encH T nm pf lk md sz := by
  obtain ⟨_, h2, h3, h4, _⟩ := ckH_zero.1 h
  have la := headA_length (md := md) (sz := sz) (ce_len (k := 100) h2)
  have hF : (zeros 8).length = 8 := zeros_length 8
  have e1 : cont T nm pf lk md sz 13 = lay (rawH T nm pf lk md sz) 148 (zeros 8) := by
    rw [cont_last h]
    unfold lay
    rw [hF]
    have a1 : (rawH T nm pf lk md sz).take 148 = headA (numsOf nm) md sz := app_take la
    have a2 : (rawH T nm pf lk md sz).drop (148 + 8) = tailB T (numsOf pf) (numsOf lk) := by
      unfold rawH
      rw [app_drop 148 8 la rfl, app_drop 8 0 sp8_length rfl, List.drop_zero]
    rw [a1, a2]
  rw [e1, sealZ_lay _ _ (raw_length h) hF]
  rfl
end
end Go.Proofs.YtmbimnnacjbdfaaGreatDoor.Ust
