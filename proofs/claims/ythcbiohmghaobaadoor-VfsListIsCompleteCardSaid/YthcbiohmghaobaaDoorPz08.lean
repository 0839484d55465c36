/-
  Layer 19: the program's checkFile. (gen_VfsFil.py writes it.)
-/
import Derived.Test.YthcbiohmghaobaaDoorPz04
import Derived.Test.YthcbiohmghaobaaDoorPz07
import Derived.Test.YthcbiohmghaobaaDoorPz06
import Derived.Test.YthcbiohmghaobaaDoorPz05
import Derived.Test.YthcbiohmghaobaaDoorPz02
import Derived.Test.YthcbiohmghaobaaDoorPz03
namespace Go.Proofs.YthcbiohmghaobaaDoor.Vfs
open Go.RowKit Go.MapKept Go.Proofs.YthcbiohmghaobaaDoor.Pnm

set_option maxRecDepth 100000 in
set_option maxHeartbeats 4000000 in
theorem fil_any (k m num l sz : Int) (t : ByteArray) (u mt : Int) (p : ByteArray) (w : World) (V : Pxr.Vars w) (hp : p.size ≤ maxLen) (ht : t.size ≤ maxLen) :
    Calls Tryd.prog 74 #[.string p, .agg (infL k m num l sz t u mt).toArray] w fun e w' => e = .returned (.int .i64 (filE k p m t)) ∧ Below w.heap.size w w' := by
  have PC := Lib.hid fun w' (_ : Below w.heap.size w w') => pcheck p w' hp
  have XC := Lib.hid fun w' (hb : Below w.heap.size w w') => Pxr.check_any Pxr.kLink t w' (V.go hb) ht
  obtain ⟨E, hE⟩ := named (filE k p m t)
  obtain ⟨C, hC⟩ := named (chE (numsOf p)); obtain ⟨X, hX⟩ := named (Pxr.chk (Pxr.kLink, t))
  unfold filE at hE
  rw [← hC.out, ← hX.out] at hE
  rw [← hC.out] at PC; rw [← hX.out] at XC
  have hE := hE.out
  show Calls _ _ _ _ fun e w' => e = .returned (.int .i64 (filE k p m t)) ∧ _
  unfold filE
  rw [← hC.out, ← hX.out, ← hE]
  clear V hp ht hC hX
  by_cases hc : C ≠ 0
  · have n0 : (C != 0) = true := by simpa using hc
    obtain rfl : E = C := by rw [hE, if_pos hc]
    clear hE hc
    go_enter Tryd.func74, Tryd.ntmps74
    go_wp2_with (first | (refine wpList_box_obj rfl 52 _ rfl (infL k m num l sz t u mt) rfl ?_; intro w1 h1 b1; have B1 := Lib.hid b1; have H1 := Lib.hid h1; have c0 := h1.get 0 rfl; have c1 := h1.get 1 rfl; have c5 := h1.get 5 rfl; clear h1 b1))
    clear c0 c1 c5
    refine (PC.out w1 B1.out).mono ?_; rintro e w2 ⟨rfl, b2⟩
    have B2 := Lib.hid (belT B1.out b2); have H2 := Lib.hid (H1.out.below b2 H1.out.lt)
    have c0 := H2.out.get 0 rfl; have c1 := H2.out.get 1 rfl; have c5 := H2.out.get 5 rfl
    clear b2 H1
    go_wp2_with fail
    go_ret
    exact ⟨rfl, B2.out⟩
  obtain rfl : C = 0 := Decidable.not_not.mp hc
  rw [if_neg hc] at hE
  by_cases hm : m < 0 ∨ 4095 < m
  · obtain rfl : E = 16 := by rw [hE, if_pos hm]
    clear hE hc
    rcases hm with hm | hm
    · skip
      go_enter Tryd.func74, Tryd.ntmps74
      go_wp2_with (first | (refine wpList_box_obj rfl 52 _ rfl (infL k m num l sz t u mt) rfl ?_; intro w1 h1 b1; have B1 := Lib.hid b1; have H1 := Lib.hid h1; have c0 := h1.get 0 rfl; have c1 := h1.get 1 rfl; have c5 := h1.get 5 rfl; clear h1 b1))
      clear c0 c1 c5
      refine (PC.out w1 B1.out).mono ?_; rintro e w2 ⟨rfl, b2⟩
      have B2 := Lib.hid (belT B1.out b2); have H2 := Lib.hid (H1.out.below b2 H1.out.lt)
      have c0 := H2.out.get 0 rfl; have c1 := H2.out.get 1 rfl; have c5 := H2.out.get 5 rfl
      clear b2 H1
      go_wp2_with fail
      go_ret
      exact ⟨rfl, B2.out⟩
    · have m0 : ¬ m < 0 := by omega
      go_enter Tryd.func74, Tryd.ntmps74
      go_wp2_with (first | (refine wpList_box_obj rfl 52 _ rfl (infL k m num l sz t u mt) rfl ?_; intro w1 h1 b1; have B1 := Lib.hid b1; have H1 := Lib.hid h1; have c0 := h1.get 0 rfl; have c1 := h1.get 1 rfl; have c5 := h1.get 5 rfl; clear h1 b1))
      clear c0 c1 c5
      refine (PC.out w1 B1.out).mono ?_; rintro e w2 ⟨rfl, b2⟩
      have B2 := Lib.hid (belT B1.out b2); have H2 := Lib.hid (H1.out.below b2 H1.out.lt)
      have c0 := H2.out.get 0 rfl; have c1 := H2.out.get 1 rfl; have c5 := H2.out.get 5 rfl
      clear b2 H1
      go_wp2_with fail
      go_ret
      exact ⟨rfl, B2.out⟩
  have m0 : ¬ m < 0 := fun c => hm (.inl c)
  have m1 : ¬ 4095 < m := fun c => hm (.inr c)
  rw [if_neg hm] at hE
  by_cases hk : k = 2
  · obtain rfl : E = X := by rw [hE, if_pos hk]
    subst hk
    clear hE hc hm
    go_enter Tryd.func74, Tryd.ntmps74
    go_wp2_with (first | (refine wpList_box_obj rfl 52 _ rfl (infL 2 m num l sz t u mt) rfl ?_; intro w1 h1 b1; have B1 := Lib.hid b1; have H1 := Lib.hid h1; have c0 := h1.get 0 rfl; have c1 := h1.get 1 rfl; have c5 := h1.get 5 rfl; clear h1 b1))
    clear c0 c1 c5
    refine (PC.out w1 B1.out).mono ?_; rintro e w2 ⟨rfl, b2⟩
    have B2 := Lib.hid (belT B1.out b2); have H2 := Lib.hid (H1.out.below b2 H1.out.lt)
    have c0 := H2.out.get 0 rfl; have c1 := H2.out.get 1 rfl; have c5 := H2.out.get 5 rfl
    clear b2 H1
    go_wp2_with fail
    refine (XC.out w2 B2.out).mono ?_; rintro e w3 ⟨rfl, b3⟩
    have B3 := Lib.hid (belT B2.out b3)
    clear b3
    go_wp2_with fail
    go_ret
    exact ⟨rfl, B3.out⟩
  · have k2 : (k == 2) = false := by simpa using hk
    obtain rfl : E = 0 := by rw [hE, if_neg hk]
    clear hE hc hm hk
    go_enter Tryd.func74, Tryd.ntmps74
    go_wp2_with (first | (refine wpList_box_obj rfl 52 _ rfl (infL k m num l sz t u mt) rfl ?_; intro w1 h1 b1; have B1 := Lib.hid b1; have H1 := Lib.hid h1; have c0 := h1.get 0 rfl; have c1 := h1.get 1 rfl; have c5 := h1.get 5 rfl; clear h1 b1))
    clear c0 c1 c5
    refine (PC.out w1 B1.out).mono ?_; rintro e w2 ⟨rfl, b2⟩
    have B2 := Lib.hid (belT B1.out b2); have H2 := Lib.hid (H1.out.below b2 H1.out.lt)
    have c0 := H2.out.get 0 rfl; have c1 := H2.out.get 1 rfl; have c5 := H2.out.get 5 rfl
    clear b2 H1
    go_wp2_with fail
    go_ret
    exact ⟨rfl, B2.out⟩

end Go.Proofs.YthcbiohmghaobaaDoor.Vfs
/-
  Layer 19, plain mathematics: what stays true of a file system from call to call. No memory.
-/
namespace Go.Proofs.YthcbiohmghaobaaDoor.Vfs
open Go.RowKit Go.Proofs.YthcbiohmghaobaaDoor.Pnm

/-- what stays true -/
structure Gd (N : Nat) (F S : Int) (s : St) : Prop where
  wf : Wf N s
  lk : Lk s
  df : Df s
  nu : ∀ (i : Nat) (x : Ino), s.is[i]? = some x → x.num = F + S * (i : Int)
  rt : (s.at 0).k = 0
  il : s.is.length ≤ s.ps.length
  nz : 0 < s.is.length
section
variable {N : Nat} {F S : Int} {s : St}
theorem at_eq {s : St} {i : Nat} {x : Ino} (h : s.is[i]? = some x) : s.at i = x := by unfold St.at; rw [List.getD_eq_getElem?_getD, h]; rfl
theorem addI_len (F S : Int) (s : St) (k m : Int) (d : List Int) (t : ByteArray) : (addI F S s k m d t).is.length = s.is.length + 1 := by unfold addI; simp
theorem addI_at {F S : Int} {s : St} {k m : Int} {d : List Int} {t : ByteArray} {i : Nat} (h : i < s.is.length) : (addI F S s k m d t).at i = s.at i := by
  unfold St.at addI
  rw [List.getD_eq_getElem?_getD, List.getD_eq_getElem?_getD, List.getElem?_append_left h]
theorem addI_new (F S : Int) (s : St) (k m : Int) (d : List Int) (t : ByteArray) : (addI F S s k m d t).at s.is.length = ⟨k, m, F + S * (s.is.length : Int), 0, d, t, 0, 0, []⟩ := by
  unfold St.at addI
  rw [List.getD_eq_getElem?_getD, List.getElem?_append_right (Nat.le_refl _), Nat.sub_self]; rfl
theorem newS_ps (F S : Int) (s : St) (k : Int) (p : ByteArray) (m : Int) (d : List Int) (t : ByteArray) : (newS F S s k p m d t).ps = s.ps ++ [(p, s.is.length)] := rfl
theorem newS_len (F S : Int) (s : St) (k : Int) (p : ByteArray) (m : Int) (d : List Int) (t : ByteArray) : (newS F S s k p m d t).is.length = s.is.length + 1 := by
  unfold newS; rw [putS_len, addI_len]
theorem newS_at {k m : Int} {p t : ByteArray} {d : List Int} {i j : Nat} (hj : fnd s.ps (parB p) = some j) (hjl : j < s.is.length) (hi : i < s.is.length) :
    (newS F S s k p m d t).at i = { s.at i with ns := (s.at i).ns ++ (if j = i then [basB p] else []) } := by
  unfold newS
  rw [putS_at (s := addI F S s k m d t) (by rw [addI_len]; omega) hj (by rw [addI_len]; omega) (by rw [addI_len]; omega), addI_at hi, if_neg (by omega), Int.add_zero]
theorem newS_new {k m : Int} {p t : ByteArray} {d : List Int} {j : Nat} (hj : fnd s.ps (parB p) = some j) (hjl : j < s.is.length) :
    (newS F S s k p m d t).at s.is.length = ⟨k, m, F + S * (s.is.length : Int), 1, d, t, 0, 0, []⟩ := by
  unfold newS
  rw [putS_at (s := addI F S s k m d t) (by rw [addI_len]; omega) hj (by rw [addI_len]; omega) (by rw [addI_len]; omega), addI_new, if_pos rfl, if_neg (by omega)]
  rfl
theorem cnt_new {s : St} (h : ∀ q ∈ s.ps, q.2 < s.is.length) : cnt s.ps s.is.length = 0 := by
  unfold cnt
  rw [List.length_eq_zero_iff, List.filter_eq_nil_iff]
  intro q hq e
  have := h q hq
  have : q.2 = s.is.length := by simpa using e
  omega
theorem plc_zero {s : St} {p : ByteArray} (h : plcE s p = 0) : ∃ j, fnd s.ps (parB p) = some j ∧ (s.at j).k = 0 ∧ fnd s.ps p = none := by
  unfold plcE at h
  cases hj : fnd s.ps (parB p) with
  | none => rw [hj] at h; cases h
  | some j =>
    rw [hj] at h
    dsimp only at h
    by_cases hk : (s.at j).k ≠ 0
    · rw [if_pos hk] at h; cases h
    · rw [if_neg hk] at h
      cases hp : fnd s.ps p with
      | some i => rw [hp] at h; cases h
      | none => exact ⟨j, rfl, Decidable.not_not.mp hk, rfl⟩
theorem plc_of {s : St} {p : ByteArray} {j : Nat} (h : fnd s.ps (parB p) = some j) (hk : (s.at j).k = 0) (hp : fnd s.ps p = none) : plcE s p = 0 := by
  unfold plcE
  rw [h]
  dsimp only
  rw [if_neg (by simpa using hk), hp]
theorem chE_size {p : ByteArray} (h : chE (numsOf p) = 0) : p.size ≤ 65536 := by rw [← numsOf_length]; exact (chE_zero.1 h).1
theorem fil_zero {k m : Int} {p t : ByteArray} (h : filE k p m t = 0) : chE (numsOf p) = 0 ∧ 0 ≤ m ∧ m ≤ 4095 ∧ (k = 2 → Pxr.chk (Pxr.kLink, t) = 0) := by
  unfold filE at h
  by_cases h1 : chE (numsOf p) ≠ 0
  · rw [if_pos h1] at h; exact absurd h h1
  · rw [if_neg h1] at h
    by_cases h2 : m < 0 ∨ 4095 < m
    · rw [if_pos h2] at h; cases h
    · rw [if_neg h2] at h
      refine ⟨Decidable.not_not.mp h1, by omega, by omega, fun hk => by rwa [if_pos hk] at h⟩
theorem mk_zero {s : St} {k m : Int} {p t : ByteArray} (h : mkE s k p m t = 0) : filE k p m t = 0 ∧ plcE s p = 0 := by
  unfold mkE at h
  by_cases h1 : filE k p m t ≠ 0
  · rw [if_pos h1] at h; exact absurd h h1
  · rw [if_neg h1] at h; exact ⟨Decidable.not_not.mp h1, h⟩
theorem mk_of {s : St} {k m : Int} {p t : ByteArray} (h1 : filE k p m t = 0) (h2 : plcE s p = 0) : mkE s k p m t = 0 := by
  unfold mkE; rw [if_neg (by simpa using h1)]; exact h2
theorem lnk_zero {s : St} {p t : ByteArray} (h : lnkE s p t = 0) : chE (numsOf p) = 0 ∧ plcE s p = 0 ∧ ∃ i, fnd s.ps t = some i ∧ (s.at i).k = 1 := by
  unfold lnkE at h
  by_cases h1 : chE (numsOf p) ≠ 0
  · rw [if_pos h1] at h; exact absurd h h1
  · rw [if_neg h1] at h
    by_cases h2 : plcE s p ≠ 0
    · rw [if_pos h2] at h; exact absurd h h2
    · rw [if_neg h2] at h
      cases hi : fnd s.ps t with
      | none => rw [hi] at h; cases h
      | some i =>
        rw [hi] at h
        dsimp only at h
        by_cases h3 : (s.at i).k ≠ 1
        · rw [if_pos h3] at h; cases h
        · exact ⟨Decidable.not_not.mp h1, Decidable.not_not.mp h2, i, rfl, Decidable.not_not.mp h3⟩
theorem lnk_of {s : St} {p t : ByteArray} {i : Nat} (h1 : chE (numsOf p) = 0) (h2 : plcE s p = 0) (h3 : fnd s.ps t = some i) (h4 : (s.at i).k = 1) : lnkE s p t = 0 := by
  unfold lnkE
  rw [if_neg (by simpa using h1), if_neg (by simpa using h2), h3]
  dsimp only
  rw [if_neg (by simpa using h4)]
theorem mkS_of {F S : Int} {s : St} {k m : Int} {p t : ByteArray} {d : List Int} (h : mkE s k p m t = 0) : mkS F S s k p m d t = newS F S s k p m d t := by unfold mkS; rw [if_neg (by simpa using h)]
theorem mkS_bad {F S : Int} {s : St} {k m : Int} {p t : ByteArray} {d : List Int} (h : mkE s k p m t ≠ 0) : mkS F S s k p m d t = s := by unfold mkS; rw [if_pos h]
theorem lnkS_of {s : St} {p t : ByteArray} {i : Nat} (h : lnkE s p t = 0) (hi : fnd s.ps t = some i) : lnkS s p t = putS s p i := by unfold lnkS; rw [if_neg (by simpa using h), hi]; rfl
theorem lnkS_bad {s : St} {p t : ByteArray} (h : lnkE s p t ≠ 0) : lnkS s p t = s := by unfold lnkS; rw [if_pos h]
theorem chS_of {s : St} {p : ByteArray} {i : Nat} {u mt : Int} (h : fnd s.ps p = some i) : chS s p u mt = setI s i { s.at i with u := u, mt := mt } := by unfold chS; rw [h]
theorem chS_bad {s : St} {p : ByteArray} {u mt : Int} (h : fnd s.ps p = none) : chS s p u mt = s := by unfold chS; rw [h]

theorem Gd.l_le (h : Gd N F S s) {i : Nat} (hi : i < s.is.length) : (s.at i).l ≤ s.ps.length := by
  have := h.lk i _ (at_some hi)
  have := cnt_le s.ps i
  omega
theorem Gd.put (h : Gd N F S s) {p : ByteArray} {i : Nat} (hc : chE (numsOf p) = 0) (hp : plcE s p = 0) (hi : i < s.is.length) (hN : s.ps.length < N) : Gd N F S (putS s p i) := by
  obtain ⟨j, hj, hk, hf⟩ := plc_zero hp
  have hjl := h.wf.lt hj
  have hl := h.l_le hi
  refine ⟨(putS_wf h.wf hi hj hN (chE_size hc) (by omega)).2.2, putS_lk h.lk hi hj hjl, putS_df h.df hf, fun k x hx => ?_, ?_, ?_, by rw [putS_len]; exact h.nz⟩
  · have hk : k < s.is.length := by rw [← putS_len s p i]; exact (List.getElem?_eq_some_iff.1 hx).1
    rw [← at_eq hx, putS_at hi hj hjl hk]
    exact h.nu k (s.at k) (at_some hk)
  · rw [putS_at hi hj hjl h.nz]; exact h.rt
  · rw [putS_len, putS_ps, List.length_append]; exact Nat.le_succ_of_le h.il
theorem Gd.mks (h : Gd N F S s) {k m : Int} {p t : ByteArray} {d : List Int} (hN : s.ps.length < N) (hd : d.length ≤ 140737488355328) (ht : t.size ≤ 140737488355328) : Gd N F S (mkS F S s k p m d t) := by
  by_cases he : mkE s k p m t ≠ 0
  · rw [mkS_bad he]; exact h
  have he := Decidable.not_not.mp he
  rw [mkS_of he]
  obtain ⟨h1, h2⟩ := mk_zero he
  obtain ⟨j, hj, hk, hf⟩ := plc_zero h2
  have hjl := h.wf.lt hj
  have hw : Wf N (addI F S s k m d t) := h.wf.new (by have := h.il; omega) hd ht
  have hl0 : ((addI F S s k m d t).at s.is.length).l = 0 := by rw [addI_new]
  have e1 : ∀ (i : Nat) (x : Ino), (newS F S s k p m d t).is[i]? = some x → (i < s.is.length ∧ x = { s.at i with ns := (s.at i).ns ++ (if j = i then [basB p] else []) }) ∨ (i = s.is.length ∧ x = ⟨k, m, F + S * (s.is.length : Int), 1, d, t, 0, 0, []⟩) := fun i x hx => by
    have hi : i < s.is.length + 1 := by rw [← newS_len F S s k p m d t]; exact (List.getElem?_eq_some_iff.1 hx).1
    rw [← at_eq hx]
    by_cases c : i < s.is.length
    · exact .inl ⟨c, newS_at hj hjl c⟩
    · obtain rfl : i = s.is.length := by omega
      exact .inr ⟨rfl, newS_new hj hjl⟩
  refine ⟨(putS_wf (s := addI F S s k m d t) hw (by rw [addI_len]; omega) hj hN (chE_size (fil_zero h1).1) (by rw [hl0]; omega)).2.2, fun i x hx => ?_, ?_, fun i x hx => ?_, ?_, ?_, by rw [newS_len]; omega⟩
  · rw [newS_ps, cnt_snoc]
    rcases e1 i x hx with ⟨c, rfl⟩ | ⟨rfl, rfl⟩
    · rw [if_neg (show ¬ s.is.length = i by omega)]
      have := h.lk i (s.at i) (at_some c)
      show (s.at i).l = _
      omega
    · rw [if_pos rfl, cnt_new h.wf.i]; rfl
  · exact putS_df (s := addI F S s k m d t) h.df hf
  · rcases e1 i x hx with ⟨c, rfl⟩ | ⟨rfl, rfl⟩
    · exact h.nu i (s.at i) (at_some c)
    · rfl
  · rw [newS_at hj hjl h.nz]; exact h.rt
  · rw [newS_len, newS_ps, List.length_append]; have := h.il; simp; exact this
theorem Gd.lnk (h : Gd N F S s) {p t : ByteArray} (hN : s.ps.length < N) : Gd N F S (lnkS s p t) := by
  by_cases he : lnkE s p t ≠ 0
  · rw [lnkS_bad he]; exact h
  have he := Decidable.not_not.mp he
  obtain ⟨h1, h2, i, h3, h4⟩ := lnk_zero he
  rw [lnkS_of he h3]
  exact h.put h1 h2 (h.wf.lt h3) hN
theorem Gd.ch (h : Gd N F S s) (p : ByteArray) (u mt : Int) : Gd N F S (chS s p u mt) := by
  cases hf : fnd s.ps p with
  | none => rw [chS_bad hf]; exact h
  | some i =>
    rw [chS_of hf]
    have hi := h.wf.lt hf
    have e1 : ∀ (k : Nat) (x : Ino), (setI s i { s.at i with u := u, mt := mt }).is[k]? = some x → k < s.is.length ∧ x.num = (s.at k).num ∧ x.l = (s.at k).l ∧ x.k = (s.at k).k := fun k x hx => by
      have hk : k < s.is.length := by rw [← setI_len s i]; exact (List.getElem?_eq_some_iff.1 hx).1
      refine ⟨hk, ?_⟩
      rw [← at_eq hx]
      by_cases c : i = k
      · subst c; rw [at_set hi]; exact ⟨rfl, rfl, rfl⟩
      · rw [at_ne c]; exact ⟨rfl, rfl, rfl⟩
    refine ⟨h.wf.set (h.wf.ns (s.at i) (at_mem hi)) (h.wf.l (s.at i) (at_mem hi)) (h.wf.z (s.at i) (at_mem hi)), fun k x hx => ?_, h.df, fun k x hx => ?_, ?_, by rw [setI_len]; exact h.il, by rw [setI_len]; exact h.nz⟩
    · obtain ⟨hk, _, e, _⟩ := e1 k x hx
      rw [e]; exact h.lk k _ (at_some hk)
    · obtain ⟨hk, e, _⟩ := e1 k x hx
      rw [e]; exact h.nu k _ (at_some hk)
    · have hx := at_some (s := setI s i { s.at i with u := u, mt := mt }) (i := 0) (by rw [setI_len]; exact h.nz)
      rw [(e1 0 _ hx).2.2.2]; exact h.rt
theorem gd0 (N : Nat) (F S : Int) (hN : 0 < N) : Gd N F S (st0 F) := by
  refine ⟨⟨?_, ?_, hN, hN, ?_, ?_, ?_, ?_⟩, ?_, ?_, ?_, rfl, Nat.le_refl 1, Nat.one_pos⟩
  · intro q hq
    obtain rfl : q = (⟨#[]⟩, 0) := by simpa [st0] using hq
    exact Nat.one_pos
  · show fnd [_] _ = _
    unfold fnd; rw [if_pos rfl]
  · intro x hx
    obtain rfl : x = ⟨0, 493, F, 1, [], ⟨#[]⟩, 0, 0, []⟩ := by simpa [st0] using hx
    exact Nat.zero_le _
  · intro x hx
    obtain rfl : x = ⟨0, 493, F, 1, [], ⟨#[]⟩, 0, 0, []⟩ := by simpa [st0] using hx
    refine ⟨by show (0 : Int) ≤ 1; decide, ?_⟩
    show (1 : Int) ≤ _
    omega
  · intro x hx
    obtain rfl : x = ⟨0, 493, F, 1, [], ⟨#[]⟩, 0, 0, []⟩ := by simpa [st0] using hx
    exact ⟨Nat.zero_le _, Nat.zero_le _⟩
  · intro q hq
    obtain rfl : q = (⟨#[]⟩, 0) := by simpa [st0] using hq
    exact Nat.zero_le _
  · intro i x hx
    match i with
    | 0 =>
      obtain rfl : _ = x := Option.some.inj hx
      rfl
    | i + 1 => simp [st0] at hx
  · show ([_] : List ByteArray).Nodup
    simp
  · intro i x hx
    match i with
    | 0 =>
      obtain rfl : _ = x := Option.some.inj hx
      show F = F + S * 0
      omega
    | i + 1 => simp [st0] at hx
end
end Go.Proofs.YthcbiohmghaobaaDoor.Vfs
/-
  A new variable for a struct that came by value, as a step of a drawn region walked by hand. Nothing of the program.
-/
namespace Go.Proofs.YthcbiohmghaobaaDoor
open Go.RowKit

theorem step_box_obj {P : Program} {w : World} {ops : Array Oper} {o : Oper} {a : Act} {Q : Exit → Act → World → Prop} {K : Act → World → Prop} {E : Prop} (hgd : o.guard = none) (T : TypeId) (x : Operand) (ho : o.op = .box T x) (vs : List Value) (hx : a.eval x = .agg vs.toArray)
    (k : ∀ w', ObjAt w' w.heap.size T vs → Below w.heap.size w w' → K (a.put o.dst (.pointer (some ⟨w.heap.size, 0, none⟩))) w') :
    if Region.wanted o (yielded ops a.tmps) = true then Oper.wp P o a w K Q else E := by
  have hw : Region.wanted o (yielded ops a.tmps) = true := by simp [Region.wanted, hgd]
  rw [if_pos hw]
  unfold Oper.wp
  simp [execOp, ho, hx, Instr.box, newVar, newRow, Result.andThen, Value.cells]
  exact k _ (heap_alloc_new w _) ((Below.refl _ _).alloc (Nat.le_refl _) _)
end Go.Proofs.YthcbiohmghaobaaDoor
/-
  bytes.Clone.
-/
namespace Go.Proofs.YthcbiohmghaobaaDoor
open Go.RowKit

set_option maxRecDepth 100000 in
set_option maxHeartbeats 1000000 in
theorem bclone (a : Option Addr) (n cap : Nat) (zs : List Int) (w : World) (hb : InK .u8 w a zs) (hl : zs.length = n) (hn : n ≤ 140737488355328) :
    Calls Tryd.prog 51 #[.slice a n cap] w fun e w' => ∃ v, e = .returned v ∧ w'.ownsRow w.heap.size 5 1 v n (zs.map (.int .u8)) ∧ Below w.heap.size w w' := by
  have HB := Lib.hid hb; clear hb
  have HL := Lib.hid hl; clear hl
  have HN := Lib.hid hn; clear hn
  have HE := Lib.hid u8T
  have he : (Tryd.prog.info? 5).map (·.size) = some 1 := by obtain ⟨i, h1, _, h2, _⟩ := u8T; simp [h1, h2]
  have HE1 := Lib.hid he; clear he
  have he : ∀ w : World, (binOp .eql 24 (.slice none n cap) (.slice none 0 0)).run Tryd.prog w = .ok (.bool true) w := fun _ => rfl
  have he' : ∀ (x : Addr) (w : World), (binOp .eql 24 (.slice (some x) n cap) (.slice none 0 0)).run Tryd.prog w = .ok (.bool false) w := fun _ _ => rfl
  cases a with
  | none =>
    have h0 : zs = [] := by
      rcases HB.out with h | ⟨_, _, h, _⟩
      · exact h
      · cases h
    subst h0
    obtain rfl : n = 0 := HL.out.symm
    go_enter Tryd.func51, Tryd.ntmps51
    go_wp2
    go_ret
    exact ⟨_, rfl, ⟨rfl, .inl ⟨rfl, rfl⟩⟩, Below.refl _ _⟩
  | some x =>
    go_enter Tryd.func51, Tryd.ntmps51
    go_wp2_with (first | (refine wpList_lit_k rfl 24 5 .u8 rfl Tryd.underlying24 HE1.out ?_; intro w1 h1 b1; have O1 := Lib.hid h1; have B1 := Lib.hid b1; clear h1 b1) | (at_builtin; refine wpList_append_k rfl _ _ 24 rfl w.heap.size 5 .u8 1 Tryd.underlying24 HE.out (.slice (some ⟨w.heap.size, 0, none⟩) 0 0) 0 [] rfl O1.out (some x) n cap zs rfl (HB.out.below B1.out) HL.out (by have := HN.out; unfold maxLen; omega) (by have := HN.out; omega) B1.out.size ?_; intro v2 w2 h2 b2; rw [Nat.zero_add, List.nil_append] at h2; have O2 := Lib.hid h2; have B2 := Lib.hid b2; clear h2 b2))
    go_ret
    exact ⟨_, rfl, O2.out, B1.out.trans B2.out⟩
end Go.Proofs.YthcbiohmghaobaaDoor
/-
  Layer 19: the program's create. (gen_VfsMk.py writes it.)
-/
namespace Go.Proofs.YthcbiohmghaobaaDoor.Vfs
open Go.RowKit Go.MapKept Go.Proofs.YthcbiohmghaobaaDoor.Pnm Flt

theorem clone_row {w : World} {base n : Nat} {e : TypeId} {v : Value} {zs : List Int} (h : w.ownsRow base e 1 v n (zs.map (.int .u8))) (hz : Bytes zs) : ∃ a c, v = .slice a n c ∧ BytesIn w a zs ∧ (n ≤ c ∧ c ≤ maxLen) ∧ ∀ x, a = some x → base ≤ x.block ∧ x.block < w.heap.size := by
  obtain ⟨b, cap, hv, h1, h2, h3, _, h4⟩ := own_any h
  exact ⟨b, cap, hv, h1.bytes hz, ⟨h2, h3⟩, fun x hx => ⟨(h4 x hx).1, (h4 x hx).2.1⟩⟩
theorem mk_cell {N : Nat} {s : St} {F S : Int} (hb : 1 ≤ F ∧ F ≤ 1000000 ∧ 1 ≤ S ∧ S ≤ 1000000) (h : s.is.length < N) (hN : N ≤ 1000000) : 0 ≤ F + S * (s.is.length : Int) ∧ F + S * (s.is.length : Int) ≤ 1000001000000 := by
  have h1 : S * (s.is.length : Int) ≤ 1000000 * (s.is.length : Int) := Int.mul_le_mul_of_nonneg_right hb.2.2.2 (Int.natCast_nonneg _)
  have h2 : 0 ≤ S * (s.is.length : Int) := Int.mul_nonneg (by omega) (Int.natCast_nonneg _)
  omega
section
variable {N : Nat} {F S : Int} {R : List Int} {T : Nat → Prop} {w : World} {f : Nat} {s : St}
set_option maxRecDepth 100000 in
set_option maxHeartbeats 8000000 in
theorem create_any (h : FsS N F S R T w f s) (hil : s.is.length < N) (hN : s.ps.length < N) (hN2 : N ≤ 1000000) (k m : Int) (p t : ByteArray) (d : List Int) (a : Option Addr) (c : Nat) (V : Pxr.Vars w) (hp : p.size ≤ maxLen) (ht : t.size ≤ 140737488355328) (hd : BytesIn w a d) (hdl : d.length ≤ 140737488355328) (hda : d = [] ∨ ∀ x, a = some x → x.block ≠ f) :
    Calls Tryd.prog 52 #[.pointer (some ⟨f, 0, none⟩), .string p, .agg (infL k m 0 0 (d.length : Int) t 0 0).toArray, .slice a d.length c] w fun e w' => e = .returned (.int .i64 (mkE s k p m t)) ∧ Only T w w' ∧ FsS N F S R (Grow T w w') w' f (mkS F S s k p m d t) := by
  have HH := Lib.hid h
  obtain ⟨W, D, mp, nm, ra, rc, M, hF, hT, hL⟩ := h
  have HF := Lib.hid hF; have HT := Lib.hid hT; have HN := Lib.hid hN; have HN2 := Lib.hid hN2; have HIL := Lib.hid hil
  have FO := Lib.hid hF.o
  have OIT : Hid (ObjT Tryd.prog 52 8) := ⟨⟨_, Tryd.underlying52⟩, by kernel_rfl⟩
  have SI : Hid ((Tryd.prog.info? 3).map (·.size) = some 1) := by show _ = _; kernel_rfl
  have CF : Hid (∀ w1, Below w.heap.size w w1 → Calls Tryd.prog 74 #[.string p, .agg (infL k m 0 0 (d.length : Int) t 0 0).toArray] w1 fun e w' => e = .returned (.int .i64 (filE k p m t)) ∧ Below w1.heap.size w1 w') := fun w1 hb => fil_any k m 0 0 _ t 0 0 p w1 (V.go hb) hp (by unfold maxLen; omega)
  have CP : Hid (∀ w1, Below w.heap.size w w1 → Calls Tryd.prog 53 #[.pointer (some ⟨f, 0, none⟩), .string p] w1 fun e w' => e = .returned (.int .i64 (plcE s p)) ∧ Below w1.heap.size w1 w') := fun w1 hb => plc_any (HF.out.below hb) p hp
  have BADQ : Hid (mkE s k p m t ≠ 0 → ∀ w', Below w.heap.size w w' → Only T w w' ∧ FsS N F S R (Grow T w w') w' f (mkS F S s k p m d t)) := fun he w' hb => by rw [mkS_bad he]; exact HH.out.stay hb
  obtain ⟨NX, hNX⟩ := named (F + S * (s.is.length : Int))
  obtain ⟨ix, hix⟩ := named (rix R s : Int)
  have nb := mk_cell hF.b hil hN2
  have bS := hF.b.2.2
  rw [← hNX.out] at nb
  have FO : Hid (ObjAt w f 84 (fsL mp NX S ra R.length rc ix)) := by rw [hNX.out, hix.out]; exact FO.out
  have lw : IntKind.i64.wrap (NX + S) = NX + S := wrapP (by omega) (by omega)
  have LGN : Hid (∀ w', w'.cell? ⟨f, 1, none⟩ = some (.int .i64 NX) → (loadVar 3 ⟨f, 1, none⟩).run Tryd.prog w' = .ok (.int .i64 NX) w') := fun w' hc => by go_simp
  have DB : Hid (Bytes d) := hd.bytes
  have BCL : Hid (∀ w', Only (fun k => k = f) w w' → Calls Tryd.prog 51 #[.slice a d.length c] w' fun e w'' => ∃ v, e = .returned v ∧ w''.ownsRow w'.heap.size 5 1 v d.length (d.map (.int .u8)) ∧ Below w'.heap.size w' w'') := fun w' ho => by
    refine bclone a d.length c d w' ?_ rfl hdl
    rcases hda with h0 | h0
    · exact .inl h0
    · exact InK.only hd.inK ho fun x hx => h0 x hx
  obtain ⟨E1, hE1⟩ := named (filE k p m t); obtain ⟨E2, hE2⟩ := named (plcE s p); obtain ⟨E, hE⟩ := named (mkE s k p m t)
  have EE : Hid (E = if E1 ≠ 0 then E1 else E2) := by show _ = _; rw [hE.out, hE1.out, hE2.out]; rfl
  have DL := Lib.hid hdl; have TL := Lib.hid ht
  rw [← hE1.out] at CF; rw [← hE2.out] at CP; rw [← hE.out] at BADQ
  obtain ⟨n, hn⟩ := named d.length
  rw [← hE.out]
  rw [← hn.out] at CF BCL DL ⊢
  by_cases h1 : E1 ≠ 0
  · have n1 : (E1 != 0) = true := by simpa using h1
    obtain rfl : E = E1 := by rw [EE.out, if_pos h1]
    have BADQ := Lib.hid (BADQ.out h1)
    clear h1 V hp ht hd hdl hda hF hT hL hN hN2 hil nb bS lw EE CP
    go_enter Tryd.func52, Tryd.ntmps52
    go_wp2_with (first | (refine wpList_box_obj rfl 52 _ rfl (infL k m 0 0 (n : Int) t 0 0) rfl ?_; intro w1 h1 b1; have B1 := Lib.hid b1; have I1 := Lib.hid h1; clear h1 b1) | (refine wpList_load_obj rfl 52 8 OIT.out _ rfl w.heap.size rfl _ _ I1.out rfl ?_))
    refine (CF.out w1 B1.out).mono ?_; rintro e w2 ⟨rfl, b2⟩
    have B2 := Lib.hid (belT B1.out b2); have I2 := Lib.hid (I1.out.below b2 I1.out.lt)
    clear b2
    go_wp2_with fail
    go_ret
    exact ⟨rfl, BADQ.out w2 B2.out⟩
  obtain rfl : E1 = 0 := Decidable.not_not.mp h1
  by_cases h2 : E2 ≠ 0
  · have n1 : (E2 != 0) = true := by simpa using h2
    obtain rfl : E = E2 := by rw [EE.out, if_neg h1]
    have BADQ := Lib.hid (BADQ.out h2)
    clear h1 h2 V hp ht hd hdl hda hF hT hL hN hN2 hil nb bS lw EE
    go_enter Tryd.func52, Tryd.ntmps52
    go_wp2_with (first | (refine wpList_box_obj rfl 52 _ rfl (infL k m 0 0 (n : Int) t 0 0) rfl ?_; intro w1 h1 b1; have B1 := Lib.hid b1; have I1 := Lib.hid h1; clear h1 b1) | (refine wpList_load_obj rfl 52 8 OIT.out _ rfl w.heap.size rfl _ _ I1.out rfl ?_))
    refine (CF.out w1 B1.out).mono ?_; rintro e w2 ⟨rfl, b2⟩
    have B2 := Lib.hid (belT B1.out b2); have I2 := Lib.hid (I1.out.below b2 I1.out.lt)
    clear b2
    go_wp2_with fail
    refine (CP.out w2 B2.out).mono ?_; rintro e w3 ⟨rfl, b3⟩
    have B3 := Lib.hid (belT B2.out b3); have I3 := Lib.hid (I2.out.below b3 I2.out.lt)
    clear b3
    go_wp2_with fail
    go_ret
    exact ⟨rfl, BADQ.out w3 B3.out⟩
  obtain rfl : E2 = 0 := Decidable.not_not.mp h2
  obtain rfl : E = 0 := by rw [EE.out, if_neg h1]
  have hs : mkS F S s k p m d t = newS F S s k p m d t := mkS_of hE.out.symm
  obtain ⟨j, hj, hjk, hfn⟩ := plc_zero hE2.out.symm
  have HP : Hid (p.size ≤ 65536) := chE_size (fil_zero hE1.out.symm).1
  have FJ : Hid (fnd (addI F S s k m d t).ps (parB p) = some j) := hj
  have FN : Hid (fnd (addI F S s k m d t).ps p = none) := hfn
  obtain ⟨OkQ, hOkQ⟩ : ∃ Q : World → Prop, Q = fun w' => Only T w w' ∧ FsS N F S R (Grow T w w') w' f (mkS F S s k p m d t) := ⟨_, rfl⟩
  have NEW : Hid (∀ a6 c6 w5 w6 w7, ObjAt w5 f 84 (fsL mp (NX + S) S ra R.length rc ix) → Only (fun k => k = f) w w5 → Below w5.heap.size w5 w6 → Below w6.heap.size w6 w7 → ObjAt w7 w6.heap.size 80 (inoL k m NX 0 (n : Int) t 0 0 a6 n c6 (.slice none 0 0)) →
      BytesIn w6 a6 d → (n ≤ c6 ∧ c6 ≤ maxLen) → (∀ x, a6 = some x → w5.heap.size ≤ x.block ∧ x.block < w6.heap.size) →
      ∃ nm7 M7 y7 W7 D7, FsP N F S R W7 D7 w7 f (addI F S s k m d t) mp nm7 ra rc M7 ∧ y7.g = w6.heap.size ∧ M7[s.is.length]? = some y7 ∧ (∀ k, W7 k → W k ∨ w.heap.size ≤ k) ∧ (∀ k, D7 k → D k ∨ w.heap.size ≤ k)) := by
    intro a6 c6 w5 w6 w7 g5 k5 b6 b7 h7 q1 q2 q3
    have e := hn.out; subst e
    have e := hNX.out; subst e
    have e := hix.out; subst e
    have z5 := k5.size; have z6 := b6.size; have z7 := h7.lt
    have b57 : Below w5.heap.size w5 w7 := belT b6 b7
    have ml := HF.out.ml
    have FF := HF.out.new (w' := w7) (k := k) (m := m) (d := d) (t := t) (y := ⟨w6.heap.size, a6, c6, .slice none 0 0⟩) (by show _ ≤ w6.heap.size; omega)
      (fun q hq hqf => (b57.block q (by omega)).trans (k5.block q hq hqf)) (by omega)
      (by
        have e : F + S * (s.is.length : Int) + S = F + S * ((addI F S s k m d t).is.length : Int) := by
          rw [addI_len, Int.natCast_add, Int.mul_add]; omega
        rw [← e]
        exact g5.below b57 g5.lt)
      h7 rfl (q1.below b7) q2.1 q2.2 (fun x hx _ => ⟨by have := (q3 x hx).1; omega, by have := (q3 x hx).2; omega, by have := (q3 x hx).2; show x.block ≠ w6.heap.size; omega⟩)
      (HF.out.wf.new HIL.out (by have := DL.out; omega) TL.out)
    exact ⟨nm, _, _, _, _, FF, rfl, by rw [← ml, List.getElem?_append_right (Nat.le_refl _), Nat.sub_self]; rfl, fun q hq => hq.imp id fun e => by rw [e]; show _ ≤ w6.heap.size; omega, fun q hq => hq.imp id fun e => e.1⟩
  have OK : Hid (∀ w5 w7 w8 W7 D7 W8 nm8 M8, Only (fun k => k = f) w w5 → Below w5.heap.size w5 w7 → FsP N F S R W8 D7 w8 f (putS (addI F S s k m d t) p s.is.length) mp nm8 ra rc M8 → (∀ k, W7 k → W k ∨ w.heap.size ≤ k) → (∀ k, D7 k → D k ∨ w.heap.size ≤ k) → (∀ k, W8 k → W7 k ∨ (w7.heap.size ≤ k ∧ k < w8.heap.size)) → Only W7 w7 w8 → OkQ w8) := by
    intro w5 w7 w8 W7 D7 W8 nm8 M8 k5 b7 f8 hW7 hD7 hW8 o8
    have tf : T f := HT.out f (.inl HF.out.wfb)
    have o7 : Only T w w7 := only_below (k5.mono fun q _ e => by rw [e]; exact tf) b7
    have o : Only T w w8 := only_only o7 o8 fun q hq => (hW7 q hq).imp (fun c => HT.out q (.inl c)) id
    have z7 := o7.size
    rw [hOkQ]
    refine ⟨o, W8, D7, mp, nm8, ra, rc, M8, by rw [hs]; exact f8, fun q hq => ?_, grow_lt hL o.size⟩
    have hlt := f8.lt q hq
    rcases hq with c | c
    · rcases hW8 q c with c | c
      · exact (hW7 q c).imp (fun c => HT.out q (.inl c)) fun c => ⟨c, hlt⟩
      · exact .inr ⟨by omega, hlt⟩
    · exact (hD7 q c).imp (fun c => HT.out q (.inr c)) fun c => ⟨c, hlt⟩
  show Calls _ _ _ _ fun e w' => e = .returned (.int .i64 0) ∧ (Only T w w' ∧ FsS N F S R (Grow T w w') w' f (mkS F S s k p m d t))
  have HQ : ∀ w', OkQ w' → (Only T w w' ∧ FsS N F S R (Grow T w w') w' f (mkS F S s k p m d t)) := fun w' h => by rw [hOkQ] at h; exact h
  suffices hG : Calls Tryd.prog 52 #[.pointer (some ⟨f, 0, none⟩), .string p, .agg (infL k m 0 0 (n : Int) t 0 0).toArray, .slice a n c] w fun e w' => e = .returned (.int .i64 0) ∧ OkQ w' from hG.mono fun e w' ⟨q1, q2⟩ => ⟨q1, HQ w' q2⟩
  clear h1 h2 V hp ht hd hdl hda hF hT hL hN hN2 hil bS EE BADQ hs hj hjk hfn HQ hOkQ hE hE1 hE2
  go_enter Tryd.func52, Tryd.ntmps52
  go_wp2_with (first | (refine wpList_box_obj rfl 52 _ rfl (infL k m 0 0 (n : Int) t 0 0) rfl ?_; intro w1 h1 b1; have B1 := Lib.hid b1; have I1 := Lib.hid h1; clear h1 b1) | (refine wpList_load_obj rfl 52 8 OIT.out _ rfl w.heap.size rfl _ _ I1.out rfl ?_))
  refine (CF.out w1 B1.out).mono ?_; rintro e w2 ⟨rfl, b2⟩
  have B2 := Lib.hid (belT B1.out b2); have I2 := Lib.hid (I1.out.below b2 I1.out.lt)
  clear b2
  go_wp2_with fail
  refine (CP.out w2 B2.out).mono ?_; rintro e w3 ⟨rfl, b3⟩
  have B3 := Lib.hid (belT B2.out b3); have I3 := Lib.hid (I2.out.below b3 I2.out.lt)
  clear b3
  have FO3 := Lib.hid (FO.out.below B3.out FO.out.lt)
  have cf1 := FO3.out.get 1 rfl
  go_wp2_with (first | (refine wpList_store_cell rfl 3 _ _ rfl w.heap.size 2 rfl (.int .i64 NX) rfl rfl SI.out 52 _ I3.out (by show 2 < 8; omega) ?_; intro w4 g4 t4; have I4 : Hid (ObjAt w4 w.heap.size 52 (infL k m NX 0 (n : Int) t 0 0)) := g4; have T4 := Lib.hid t4; clear g4 t4))
  have FO4 := Lib.hid (FO3.out.turnB T4.out (Nat.ne_of_lt FO.out.lt))
  refine wp_region_held_drew (S := fun wS => wS.cell? ⟨f, 2, none⟩ = some (.int .i64 S)) (by kernel_rfl) ((FO4.out.below (Below.refl w4.heap.size w4).drew FO4.out.lt).get 2 rfl) (fun hHeld => ?_)
  have FOD := Lib.hid (FO4.out.below (Below.refl w4.heap.size w4).drew FO4.out.lt)
  refine tk 0 ?_; simp only [Act.put, sbA, scZ, scS]
  refine tk 1 ?_; simp only [Act.put, sbA, scZ, scS]
  refine tk 2 ?_; simp only [Act.put, sbA, scZ, scS]
  refine tk 4 ?_; simp only [Act.put, sbA, scZ, scS]
  refine tk 5 ?_; simp only [Act.put, sbA, scZ, scS]
  refine tk 6 ?_; simp only [Act.put, sbA, scZ, scS]
  refine tk 7 ?_; simp only [Act.put, sbA, scZ, scS]
  refine rd 3 (fun K hK => ?_)
  refine step_load_run rfl 3 _ rfl ⟨f, 1, none⟩ rfl (.int .i64 NX) (LGN.out _ (FOD.out.get 1 rfl)) ?_
  refine hK.out _ _ (FOD.out.get 2 rfl) (fun hHeld => ?_)
  clear hK K
  (try simp only [Act.put, sbA, scZ, scS])
  refine tk 8 ?_; simp only [Act.put, sbA, scZ, scS]
  refine tk 9 ?_; simp only [Act.put, sbA, scZ, scS]
  refine tk 10 ?_; simp only [Act.put, sbA, scZ, scS]
  refine rd 11 (fun K hK => ?_)
  refine step_store_one rfl 3 _ _ rfl f 1 rfl (.int .i64 (NX + S)) rfl rfl SI.out 84 _ FOD.out (by show 1 < 5; omega) ?_
  intro w5 g5 t5
  have G5 : Hid (ObjAt w5 f 84 (fsL mp (NX + S) S ra R.length rc ix)) := g5
  have T5 : Hid (TurnB w4 w5 f) := ⟨fun hB => ((Below.refl _ _).drew).trans (t5.below hB), fun hk => t5.other hk, t5.size⟩
  clear g5 t5
  refine hK.out _ _ (G5.out.get 2 rfl) (fun hHeld => ?_)
  clear hK K
  (try simp only [Act.put])
  refine wpAnyH_done (by kernel_rfl) ?_ _
  have I5 : Hid (ObjAt w5 w.heap.size 52 (infL k m NX 0 (n : Int) t 0 0)) := I4.out.turnB T5.out (Nat.ne_of_gt FO.out.lt)
  have KS5 : Hid (Only (fun k => k = f) w w5) := only_turn (only_turn (Only.of_below B3.out (Nat.le_refl _)) T4.out (.inr (Nat.le_refl _))) T5.out (.inl rfl)
  have KSD : Hid (Only (fun k => k = f) w w5.drew) := KS5.out.trans (Only.of_below (Below.refl w5.heap.size w5).drew (Nat.le_refl _))
  clear cf1
  go_wp2_with fail
  have I5D := Lib.hid (I5.out.below (Below.refl w5.heap.size w5).drew I5.out.lt)
  refine wp_region_held_drew (S := fun _ => True) (by kernel_rfl) trivial (fun hHeld => ?_)
  refine tk 0 ?_; simp only [Act.put, sbA, scZ, scS]
  refine tk 1 ?_; simp only [Act.put, sbA, scZ, scS]
  refine tk 3 ?_; simp only [Act.put, sbA, scZ, scS]
  refine rdy (Go.Proofs.YthcbiohmghaobaaDoor.rc 2 (fun K hK => ?_) (Go.Proofs.YthcbiohmghaobaaDoor.rc 4 (fun K hK => ?_) .nil))
  · refine step_load_run rfl 52 _ rfl ⟨w.heap.size, 0, none⟩ rfl (.agg (infL k m NX 0 (n : Int) t 0 0).toArray) (run_load_obj OIT.out _ _ _ I5D.out rfl) ?_
    refine hK.out _ _ (trivial) (fun hHeld => ?_)
    clear hK K
    (try simp only [Act.put, sbA, scZ, scS])
    refine rd 4 (fun K hK => ?_)
    go_simp
    refine (BCL.out w5.drew KSD.out).mono ?_; rintro e w6 ⟨v6, rfl, o6, b6⟩
    have B6 : Hid (Below w5.heap.size w5 w6) := belT (Below.refl w5.heap.size w5).drew b6
    obtain ⟨a6, c6, rfl, q1, q2, q3⟩ := clone_row o6 DB.out
    have I6 := Lib.hid (I5.out.below B6.out I5.out.lt)
    have Q1 := Lib.hid q1; have Q2 := Lib.hid q2; have Q3 := Lib.hid q3
    clear o6 b6 q1 q2 q3
    refine hK.out _ _ (trivial) (fun hHeld => ?_)
    clear hK K
    (try simp only [Act.put, sbA, scZ, scS])
    refine tk 5 ?_; simp only [Act.put, sbA, scZ, scS]
    refine rd 6 (fun K hK => ?_)
    refine step_box_obj rfl 80 _ rfl (inoL k m NX 0 (n : Int) t 0 0 a6 n c6 (.slice none 0 0)) rfl ?_
    intro w7 h7 b7
    have B67 := Lib.hid b7
    have B7 : Hid (Below w5.heap.size w5 w7) := belT B6.out b7
    have H7 := Lib.hid h7
    clear h7 b7
    refine hK.out _ _ (trivial) (fun hHeld => ?_)
    clear hK K
    (try simp only [Act.put, sbA, scZ, scS])
    refine rd 7 (fun K hK => ?_)
    go_simp
    obtain ⟨nm7, M7, y7, W7, D7, F7, hg7, hM7, hW7, hD7⟩ := NEW.out a6 c6 w5 w6 w7 G5.out KS5.out B6.out B67.out H7.out Q1.out Q2.out Q3.out
    have F7' := Lib.hid F7; have HW7 := Lib.hid hW7; have HD7 := Lib.hid hD7
    have PU := put_any F7 hM7 FN.out FJ.out HN.out HP.out (by rw [addI_new]; show (0 : Int) ≤ _; omega) HN2.out
    rw [hg7] at PU
    clear F7 hg7 hM7 hW7 hD7
    refine PU.mono ?_; rintro e w8 ⟨rfl, W8, nm8, M8, F8, hW8, o8⟩
    have KP8 : Hid (OkQ w8) := OK.out w5 w7 w8 W7 D7 W8 nm8 M8 KS5.out B7.out F8 HW7.out HD7.out hW8 o8
    clear F8 hW8 o8 PU
    refine hK.out _ _ (trivial) (fun hHeld => ?_)
    clear hK K
    (try simp only [Act.put])
    refine wpAnyH_done (by kernel_rfl) ?_ _
    go_wp2_with fail
    go_ret
    exact ⟨rfl, KP8.out⟩
  · go_simp
    refine (BCL.out w5.drew KSD.out).mono ?_; rintro e w6 ⟨v6, rfl, o6, b6⟩
    have B6 : Hid (Below w5.heap.size w5 w6) := belT (Below.refl w5.heap.size w5).drew b6
    obtain ⟨a6, c6, rfl, q1, q2, q3⟩ := clone_row o6 DB.out
    have I6 := Lib.hid (I5.out.below B6.out I5.out.lt)
    have Q1 := Lib.hid q1; have Q2 := Lib.hid q2; have Q3 := Lib.hid q3
    clear o6 b6 q1 q2 q3
    refine hK.out _ _ (trivial) (fun hHeld => ?_)
    clear hK K
    (try simp only [Act.put, sbA, scZ, scS])
    refine rd 2 (fun K hK => ?_)
    refine step_load_run rfl 52 _ rfl ⟨w.heap.size, 0, none⟩ rfl (.agg (infL k m NX 0 (n : Int) t 0 0).toArray) (run_load_obj OIT.out _ _ _ I6.out rfl) ?_
    refine hK.out _ _ (trivial) (fun hHeld => ?_)
    clear hK K
    (try simp only [Act.put, sbA, scZ, scS])
    refine tk 5 ?_; simp only [Act.put, sbA, scZ, scS]
    refine rd 6 (fun K hK => ?_)
    refine step_box_obj rfl 80 _ rfl (inoL k m NX 0 (n : Int) t 0 0 a6 n c6 (.slice none 0 0)) rfl ?_
    intro w7 h7 b7
    have B67 := Lib.hid b7
    have B7 : Hid (Below w5.heap.size w5 w7) := belT B6.out b7
    have H7 := Lib.hid h7
    clear h7 b7
    refine hK.out _ _ (trivial) (fun hHeld => ?_)
    clear hK K
    (try simp only [Act.put, sbA, scZ, scS])
    refine rd 7 (fun K hK => ?_)
    go_simp
    obtain ⟨nm7, M7, y7, W7, D7, F7, hg7, hM7, hW7, hD7⟩ := NEW.out a6 c6 w5 w6 w7 G5.out KS5.out B6.out B67.out H7.out Q1.out Q2.out Q3.out
    have F7' := Lib.hid F7; have HW7 := Lib.hid hW7; have HD7 := Lib.hid hD7
    have PU := put_any F7 hM7 FN.out FJ.out HN.out HP.out (by rw [addI_new]; show (0 : Int) ≤ _; omega) HN2.out
    rw [hg7] at PU
    clear F7 hg7 hM7 hW7 hD7
    refine PU.mono ?_; rintro e w8 ⟨rfl, W8, nm8, M8, F8, hW8, o8⟩
    have KP8 : Hid (OkQ w8) := OK.out w5 w7 w8 W7 D7 W8 nm8 M8 KS5.out B7.out F8 HW7.out HD7.out hW8 o8
    clear F8 hW8 o8 PU
    refine hK.out _ _ (trivial) (fun hHeld => ?_)
    clear hK K
    (try simp only [Act.put])
    refine wpAnyH_done (by kernel_rfl) ?_ _
    go_wp2_with fail
    go_ret
    exact ⟨rfl, KP8.out⟩
end
end Go.Proofs.YthcbiohmghaobaaDoor.Vfs
/-
  Layer 19, plain mathematics: the statements' calls. No memory.
-/
namespace Go.Proofs.YthcbiohmghaobaaDoor.Vfs
open Go.RowKit Go.Proofs.YthcbiohmghaobaaDoor.Pnm

def emp : ByteArray := ⟨#[]⟩
noncomputable def doE (s : St) (a : Va) : Int := if a.k = 0 then mkE s 0 a.p a.m emp else if a.k = 1 then mkE s 1 a.p a.m emp else if a.k = 2 then mkE s 2 a.p 511 a.t
  else if a.k = 3 then mkE s 4 a.p a.m emp else if a.k = 4 then lnkE s a.p a.t else if a.k = 5 then chE' s a.p else 0
noncomputable def doS (F S : Int) (s : St) (a : Va) : St := if a.k = 0 then mkS F S s 0 a.p a.m [] emp else if a.k = 1 then mkS F S s 1 a.p a.m a.d emp else if a.k = 2 then mkS F S s 2 a.p 511 [] a.t
  else if a.k = 3 then mkS F S s 4 a.p a.m [] emp else if a.k = 4 then lnkS s a.p a.t else if a.k = 5 then chS s a.p a.m a.d.length else s
theorem doS_gd {N : Nat} {F S : Int} {s : St} (h : Gd N F S s) (a : Va) (hN : s.ps.length < N) (hd : a.d.length ≤ 140737488355328) (ht : a.t.size ≤ 140737488355328) : Gd N F S (doS F S s a) := by
  have e0 : ([] : List Int).length ≤ 140737488355328 := Nat.zero_le _
  have e1 : emp.size ≤ 140737488355328 := Nat.zero_le _
  unfold doS
  by_cases h0 : a.k = 0
  · rw [if_pos h0]; exact h.mks hN e0 e1
  rw [if_neg h0]
  by_cases h1 : a.k = 1
  · rw [if_pos h1]; exact h.mks hN hd e1
  rw [if_neg h1]
  by_cases h2 : a.k = 2
  · rw [if_pos h2]; exact h.mks hN e0 ht
  rw [if_neg h2]
  by_cases h3 : a.k = 3
  · rw [if_pos h3]; exact h.mks hN e0 e1
  rw [if_neg h3]
  by_cases h4 : a.k = 4
  · rw [if_pos h4]; exact h.lnk hN
  rw [if_neg h4]
  by_cases h5 : a.k = 5
  · rw [if_pos h5]; exact h.ch _ _ _
  rw [if_neg h5]; exact h
theorem mkS_ps (F S : Int) (s : St) (k : Int) (p : ByteArray) (m : Int) (d : List Int) (t : ByteArray) : (mkS F S s k p m d t).ps.length ≤ s.ps.length + 1 := by
  by_cases he : mkE s k p m t ≠ 0
  · rw [mkS_bad he]; omega
  · rw [mkS_of (Decidable.not_not.mp he), newS_ps, List.length_append]; exact Nat.le_refl _
theorem lnkS_ps (s : St) (p t : ByteArray) : (lnkS s p t).ps.length ≤ s.ps.length + 1 := by
  by_cases he : lnkE s p t ≠ 0
  · rw [lnkS_bad he]; omega
  · have he := Decidable.not_not.mp he
    obtain ⟨_, _, i, h3, _⟩ := lnk_zero he
    rw [lnkS_of he h3, putS_ps, List.length_append]; exact Nat.le_refl _
theorem chS_ps (s : St) (p : ByteArray) (u mt : Int) : (chS s p u mt).ps = s.ps := by
  unfold chS
  cases fnd s.ps p <;> rfl
/-- a call makes one path at most -/
theorem doS_ps (F S : Int) (s : St) (a : Va) : (doS F S s a).ps.length ≤ s.ps.length + 1 := by
  unfold doS
  by_cases h0 : a.k = 0
  · rw [if_pos h0]; exact mkS_ps ..
  rw [if_neg h0]
  by_cases h1 : a.k = 1
  · rw [if_pos h1]; exact mkS_ps ..
  rw [if_neg h1]
  by_cases h2 : a.k = 2
  · rw [if_pos h2]; exact mkS_ps ..
  rw [if_neg h2]
  by_cases h3 : a.k = 3
  · rw [if_pos h3]; exact mkS_ps ..
  rw [if_neg h3]
  by_cases h4 : a.k = 4
  · rw [if_pos h4]; exact lnkS_ps ..
  rw [if_neg h4]
  by_cases h5 : a.k = 5
  · rw [if_pos h5, chS_ps]; omega
  rw [if_neg h5]; omega

-- the example of the chapter
def sA : ByteArray := ⟨#[97]⟩
def sB : ByteArray := ⟨#[98]⟩
theorem par_flat {p : ByteArray} (h : (47 : Int) ∉ numsOf p) : parB p = emp ∧ basB p = p := by
  rcases par_bas (numsOf p) with ⟨_, ⟨h1, h2, h3⟩ | ⟨h1, h2⟩⟩
  · unfold parB basB
    rw [h2, h3, strOfNums_numsOf]
    exact ⟨rfl, rfl⟩
  · exact absurd (by rw [h2]; simp) h
theorem flat_ok {p : ByteArray} (h : (47 : Int) ∉ numsOf p) (h1 : partOk (numsOf p)) (h2 : (numsOf p).length ≤ 65536) : chE (numsOf p) = 0 := chE_zero.2 ⟨h2, (pathOk_one h).2 h1⟩
end Go.Proofs.YthcbiohmghaobaaDoor.Vfs
/-
  Layer 19: the program's methods but List. (gen_VfsMth.py writes it.)
-/
namespace Go.Proofs.YthcbiohmghaobaaDoor.Vfs
open Go.RowKit Go.MapKept Go.Proofs.YthcbiohmghaobaaDoor.Pnm Flt

/-- what a call leaves -/
def RetFs (N : Nat) (F S : Int) (R : List Int) (T : Nat → Prop) (w : World) (f : Nat) (E : Int) (s : St) (e : Ending) (w' : World) : Prop := e = .returned (.int .i64 E) ∧ Only T w w' ∧ FsS N F S R (Grow T w w') w' f s
theorem nof {f : Nat} {x : Addr} {a : Option Addr} (h : a = none) (e : a = some x) : x.block ≠ f := by rw [h] at e; cases e
section
variable {N : Nat} {F S : Int} {R : List Int} {T : Nat → Prop} {w : World} {f : Nat} {s : St}
set_option maxRecDepth 100000 in
theorem mkdir_any (h : FsS N F S R T w f s) (g : Gd N F S s) (hN : s.ps.length < N) (hN2 : N ≤ 1000000) (V : Pxr.Vars w) (p : ByteArray) (hp : p.size ≤ maxLen) (m : Int) :
    Calls Tryd.prog 22 #[.pointer (some ⟨f, 0, none⟩), .string p, .int .i64 m] w (RetFs N F S R T w f (mkE s 0 p m emp) (mkS F S s 0 p m [] emp)) := by
  obtain ⟨E, hE⟩ := named (mkE s 0 p m emp)
  obtain ⟨OkQ, hOkQ⟩ : ∃ Q : World → Prop, Q = fun w' => Only T w w' ∧ FsS N F S R (Grow T w w') w' f (mkS F S s 0 p m [] emp) := ⟨_, rfl⟩
  suffices hG : Calls Tryd.prog 22 #[.pointer (some ⟨f, 0, none⟩), .string p, .int .i64 m] w fun e w' => e = .returned (.int .i64 E) ∧ OkQ w' from hG.mono fun e w' ⟨q1, q2⟩ => by rw [hOkQ] at q2; rw [hE.out] at q1; exact ⟨q1, q2⟩
  have CR : Hid (Calls Tryd.prog 52 #[.pointer (some ⟨f, 0, none⟩), .string p, .agg (infL 0 m 0 0 0 emp 0 0).toArray, .slice none 0 0] w fun e w' => e = .returned (.int .i64 E) ∧ OkQ w') := by
    rw [hE.out, hOkQ]
    exact create_any h (by have := g.il; omega) hN hN2 0 m p emp [] none 0 V hp (Nat.zero_le _) (.inl rfl) (Nat.zero_le _) (.inl rfl)
  clear h g hN hN2 V hp hE hOkQ
  go_enter Tryd.func22, Tryd.ntmps22
  go_wp2_with fail
  refine CR.out.mono ?_; rintro e w1 ⟨rfl, q⟩
  have QQ := Lib.hid q
  clear q
  go_wp2_with fail
  go_ret
  exact ⟨rfl, QQ.out⟩
set_option maxRecDepth 100000 in
theorem mknod_any (h : FsS N F S R T w f s) (g : Gd N F S s) (hN : s.ps.length < N) (hN2 : N ≤ 1000000) (V : Pxr.Vars w) (p : ByteArray) (hp : p.size ≤ maxLen) (m : Int) :
    Calls Tryd.prog 25 #[.pointer (some ⟨f, 0, none⟩), .string p, .int .i64 m] w (RetFs N F S R T w f (mkE s 4 p m emp) (mkS F S s 4 p m [] emp)) := by
  obtain ⟨E, hE⟩ := named (mkE s 4 p m emp)
  obtain ⟨OkQ, hOkQ⟩ : ∃ Q : World → Prop, Q = fun w' => Only T w w' ∧ FsS N F S R (Grow T w w') w' f (mkS F S s 4 p m [] emp) := ⟨_, rfl⟩
  suffices hG : Calls Tryd.prog 25 #[.pointer (some ⟨f, 0, none⟩), .string p, .int .i64 m] w fun e w' => e = .returned (.int .i64 E) ∧ OkQ w' from hG.mono fun e w' ⟨q1, q2⟩ => by rw [hOkQ] at q2; rw [hE.out] at q1; exact ⟨q1, q2⟩
  have CR : Hid (Calls Tryd.prog 52 #[.pointer (some ⟨f, 0, none⟩), .string p, .agg (infL 4 m 0 0 0 emp 0 0).toArray, .slice none 0 0] w fun e w' => e = .returned (.int .i64 E) ∧ OkQ w') := by
    rw [hE.out, hOkQ]
    exact create_any h (by have := g.il; omega) hN hN2 4 m p emp [] none 0 V hp (Nat.zero_le _) (.inl rfl) (Nat.zero_le _) (.inl rfl)
  clear h g hN hN2 V hp hE hOkQ
  go_enter Tryd.func25, Tryd.ntmps25
  go_wp2_with fail
  refine CR.out.mono ?_; rintro e w1 ⟨rfl, q⟩
  have QQ := Lib.hid q
  clear q
  go_wp2_with fail
  go_ret
  exact ⟨rfl, QQ.out⟩
set_option maxRecDepth 100000 in
theorem symlink_any (h : FsS N F S R T w f s) (g : Gd N F S s) (hN : s.ps.length < N) (hN2 : N ≤ 1000000) (V : Pxr.Vars w) (p : ByteArray) (hp : p.size ≤ maxLen) (t : ByteArray) (ht : t.size ≤ 140737488355328) :
    Calls Tryd.prog 24 #[.pointer (some ⟨f, 0, none⟩), .string p, .string t] w (RetFs N F S R T w f (mkE s 2 p 511 t) (mkS F S s 2 p 511 [] t)) := by
  obtain ⟨E, hE⟩ := named (mkE s 2 p 511 t)
  obtain ⟨OkQ, hOkQ⟩ : ∃ Q : World → Prop, Q = fun w' => Only T w w' ∧ FsS N F S R (Grow T w w') w' f (mkS F S s 2 p 511 [] t) := ⟨_, rfl⟩
  suffices hG : Calls Tryd.prog 24 #[.pointer (some ⟨f, 0, none⟩), .string p, .string t] w fun e w' => e = .returned (.int .i64 E) ∧ OkQ w' from hG.mono fun e w' ⟨q1, q2⟩ => by rw [hOkQ] at q2; rw [hE.out] at q1; exact ⟨q1, q2⟩
  have CR : Hid (Calls Tryd.prog 52 #[.pointer (some ⟨f, 0, none⟩), .string p, .agg (infL 2 511 0 0 0 t 0 0).toArray, .slice none 0 0] w fun e w' => e = .returned (.int .i64 E) ∧ OkQ w') := by
    rw [hE.out, hOkQ]
    exact create_any h (by have := g.il; omega) hN hN2 2 511 p t [] none 0 V hp ht (.inl rfl) (Nat.zero_le _) (.inl rfl)
  clear h g hN hN2 V hp hE hOkQ
  go_enter Tryd.func24, Tryd.ntmps24
  go_wp2_with fail
  refine CR.out.mono ?_; rintro e w1 ⟨rfl, q⟩
  have QQ := Lib.hid q
  clear q
  go_wp2_with fail
  go_ret
  exact ⟨rfl, QQ.out⟩
set_option maxRecDepth 100000 in
theorem fcreate_any (h : FsS N F S R T w f s) (g : Gd N F S s) (hN : s.ps.length < N) (hN2 : N ≤ 1000000) (V : Pxr.Vars w) (p : ByteArray) (hp : p.size ≤ maxLen) (m : Int) (d : List Int) (a : Option Addr) (c : Nat) (hd : BytesIn w a d) (hdl : d.length ≤ 140737488355328) (hda : d = [] ∨ ∀ x, a = some x → x.block ≠ f) :
    Calls Tryd.prog 23 #[.pointer (some ⟨f, 0, none⟩), .string p, .int .i64 m, .slice a d.length c] w (RetFs N F S R T w f (mkE s 1 p m emp) (mkS F S s 1 p m d emp)) := by
  obtain ⟨E, hE⟩ := named (mkE s 1 p m emp)
  obtain ⟨OkQ, hOkQ⟩ : ∃ Q : World → Prop, Q = fun w' => Only T w w' ∧ FsS N F S R (Grow T w w') w' f (mkS F S s 1 p m d emp) := ⟨_, rfl⟩
  suffices hG : Calls Tryd.prog 23 #[.pointer (some ⟨f, 0, none⟩), .string p, .int .i64 m, .slice a d.length c] w fun e w' => e = .returned (.int .i64 E) ∧ OkQ w' from hG.mono fun e w' ⟨q1, q2⟩ => by rw [hOkQ] at q2; rw [hE.out] at q1; exact ⟨q1, q2⟩
  have CR : Hid (Calls Tryd.prog 52 #[.pointer (some ⟨f, 0, none⟩), .string p, .agg (infL 1 m 0 0 (d.length : Int) emp 0 0).toArray, .slice a d.length c] w fun e w' => e = .returned (.int .i64 E) ∧ OkQ w') := by
    rw [hE.out, hOkQ]
    exact create_any h (by have := g.il; omega) hN hN2 1 m p emp d a c V hp (Nat.zero_le _) hd hdl hda
  obtain ⟨n, hn⟩ := named d.length
  have nb : (n : Int) ≤ 140737488355328 := by rw [hn.out]; omega
  rw [← hn.out] at CR ⊢
  clear h g hN hN2 V hp hE hOkQ hd hdl hda hn
  go_enter Tryd.func23, Tryd.ntmps23
  go_wp2_with fail
  refine CR.out.mono ?_; rintro e w1 ⟨rfl, q⟩
  have QQ := Lib.hid q
  clear q
  go_wp2_with fail
  go_ret
  exact ⟨rfl, QQ.out⟩
set_option maxRecDepth 100000 in
set_option maxHeartbeats 4000000 in
theorem link_any (h : FsS N F S R T w f s) (g : Gd N F S s) (hN : s.ps.length < N) (hN2 : N ≤ 1000000) (p t : ByteArray) (hp : p.size ≤ maxLen) :
    Calls Tryd.prog 26 #[.pointer (some ⟨f, 0, none⟩), .string p, .string t] w (RetFs N F S R T w f (lnkE s p t) (lnkS s p t)) := by
  have HH := Lib.hid h
  obtain ⟨W, D, mp, nm, ra, rc, M, hF, hT, hL⟩ := h
  have HF := Lib.hid hF; have HT := Lib.hid hT; have HL := Lib.hid hL
  have PC : Hid (Calls Tryd.prog 34 #[.string p] w fun e w' => e = .returned (.int .i64 (chE (numsOf p))) ∧ Below w.heap.size w w') := pcheck p w hp
  have CP : Hid (∀ w1, Below w.heap.size w w1 → Calls Tryd.prog 53 #[.pointer (some ⟨f, 0, none⟩), .string p] w1 fun e w' => e = .returned (.int .i64 (plcE s p)) ∧ Below w1.heap.size w1 w') := fun w1 hb => plc_any (HF.out.below hb) p hp
  have ST : Hid (lnkE s p t ≠ 0 → ∀ w', Below w.heap.size w w' → Only T w w' ∧ FsS N F S R (Grow T w w') w' f (lnkS s p t)) := fun he w' hb => by rw [lnkS_bad he]; exact HH.out.stay hb
  obtain ⟨E1, hE1⟩ := named (chE (numsOf p)); obtain ⟨E2, hE2⟩ := named (plcE s p); obtain ⟨E, hE⟩ := named (lnkE s p t)
  have e0 := hE.out
  unfold lnkE at e0
  rw [← hE1.out, ← hE2.out] at e0
  rw [← hE1.out] at PC; rw [← hE2.out] at CP; rw [← hE.out] at ST ⊢
  clear hF hT hL
  by_cases h1 : E1 ≠ 0
  · have n1 : (E1 != 0) = true := by simpa using h1
    obtain rfl : E = E1 := by rw [e0, if_pos h1]
    have ST := Lib.hid (ST.out h1)
    clear g hN hN2 hp h1 CP e0
    go_enter Tryd.func26, Tryd.ntmps26
    go_wp2_with fail
    refine PC.out.mono ?_; rintro e w1 ⟨rfl, b1⟩
    have B1 := Lib.hid b1
    clear b1
    go_wp2_with fail
    go_ret
    exact ⟨rfl, ST.out w1 B1.out⟩
  obtain rfl : E1 = 0 := Decidable.not_not.mp h1
  rw [if_neg h1] at e0
  by_cases h2 : E2 ≠ 0
  · have n1 : (E2 != 0) = true := by simpa using h2
    obtain rfl : E = E2 := by rw [e0, if_pos h2]
    have ST := Lib.hid (ST.out h2)
    clear g hN hN2 hp h1 h2 e0
    go_enter Tryd.func26, Tryd.ntmps26
    go_wp2_with fail
    refine PC.out.mono ?_; rintro e w1 ⟨rfl, b1⟩
    have B1 := Lib.hid b1
    clear b1
    go_wp2_with fail
    refine (CP.out w1 B1.out).mono ?_; rintro e w2 ⟨rfl, b2⟩
    have B2 := Lib.hid (belT B1.out b2)
    clear b2
    go_wp2_with fail
    go_ret
    exact ⟨rfl, ST.out w2 B2.out⟩
  obtain rfl : E2 = 0 := Decidable.not_not.mp h2
  rw [if_neg h2] at e0
  cases hf : fnd s.ps t with
  | none =>
    have FI := Lib.hid fun w' (hb : Below w.heap.size w w') => find_none (HF.out.below hb) hf
    rw [hf] at e0
    obtain rfl : E = 19 := e0
    have ST := Lib.hid (ST.out (by decide))
    clear g hN hN2 hp h1 h2 hf
    go_enter Tryd.func26, Tryd.ntmps26
    go_wp2_with fail
    refine PC.out.mono ?_; rintro e w1 ⟨rfl, b1⟩
    have B1 := Lib.hid b1
    clear b1
    go_wp2_with fail
    refine (CP.out w1 B1.out).mono ?_; rintro e w2 ⟨rfl, b2⟩
    have B2 := Lib.hid (belT B1.out b2)
    clear b2
    go_wp2_with fail
    refine (FI.out w2 B2.out).mono ?_; rintro e w3 ⟨rfl, rfl⟩
    go_wp2_with fail
    go_ret
    exact ⟨rfl, ST.out w2 B2.out⟩
  | some i =>
    obtain ⟨y, hy, _, hI⟩ := HF.out.get hf
    have FI := Lib.hid fun w' (hb : Below w.heap.size w w') => find_some (HF.out.below hb) hf hy
    rw [hf] at e0
    obtain ⟨K, hK⟩ := named (s.at i).k
    dsimp only at e0
    rw [← hK.out] at e0
    have CK : Hid (∀ w', Below w.heap.size w w' → w'.cell? ⟨y.g, 0, none⟩ = some (.int .i64 K)) := fun w' hb => by rw [hK.out]; exact (hI.o.below hb hI.o.lt).get 0 rfl
    by_cases h3 : K ≠ 1
    · have n3 : (K != 1) = true := by simpa using h3
      obtain rfl : E = 15 := by rw [e0, if_pos h3]
      have ST := Lib.hid (ST.out (by decide))
      clear g hN hN2 hp h1 h2 e0 hf hy hI hK h3
      go_enter Tryd.func26, Tryd.ntmps26
      go_wp2_with fail
      refine PC.out.mono ?_; rintro e w1 ⟨rfl, b1⟩
      have B1 := Lib.hid b1
      clear b1
      go_wp2_with fail
      refine (CP.out w1 B1.out).mono ?_; rintro e w2 ⟨rfl, b2⟩
      have B2 := Lib.hid (belT B1.out b2)
      clear b2
      go_wp2_with fail
      refine (FI.out w2 B2.out).mono ?_; rintro e w3 ⟨rfl, rfl⟩
      have cK := CK.out w2 B2.out
      go_wp2_with fail
      go_ret
      exact ⟨rfl, ST.out w2 B2.out⟩
    obtain rfl : K = 1 := Decidable.not_not.mp h3
    obtain rfl : E = 0 := by rw [e0, if_neg h3]
    obtain ⟨j, hj, _, hfn⟩ := plc_zero hE2.out.symm
    have hi := HF.out.wf.lt hf
    have hl := g.l_le hi
    have PU := Lib.hid fun w' (hb : Below w.heap.size w w') => put_any (HF.out.below hb) hy hfn hj hN (chE_size hE1.out.symm) (by omega) hN2
    have hs := lnkS_of hE.out.symm hf
    have FIN : Hid (∀ w2 w3 W' nm' M', Below w.heap.size w w2 → FsP N F S R W' D w3 f (putS s p i) mp nm' ra rc M' → (∀ k, W' k → W k ∨ (w2.heap.size ≤ k ∧ k < w3.heap.size)) → Only W w2 w3 → Only T w w3 ∧ FsS N F S R (Grow T w w3) w3 f (lnkS s p t)) := fun w2 w3 W' nm' M' hb f3 hW o3 => by
      have o : Only T w w3 := only_only (Only.of_below hb (Nat.le_refl _)) o3 fun k hk => .inl (HT.out k (.inl hk))
      refine ⟨o, W', D, mp, nm', ra, rc, M', by rw [hs]; exact f3, fun k hk => ?_, grow_lt HL.out o.size⟩
      have hlt := f3.lt k hk
      have := hb.size
      rcases hk with c | c
      · rcases hW k c with c | c
        · exact .inl (HT.out k (.inl c))
        · exact .inr ⟨by omega, hlt⟩
      · exact .inl (HT.out k (.inr c))
    obtain ⟨OkQ, hOkQ⟩ : ∃ Q : World → Prop, Q = fun w' => Only T w w' ∧ FsS N F S R (Grow T w w') w' f (lnkS s p t) := ⟨_, rfl⟩
    suffices hG : Calls Tryd.prog 26 #[.pointer (some ⟨f, 0, none⟩), .string p, .string t] w fun e w' => e = .returned (.int .i64 0) ∧ OkQ w' from hG.mono fun e w' ⟨q1, q2⟩ => by rw [hOkQ] at q2; exact ⟨q1, q2⟩
    have HOK := Lib.hid hOkQ
    clear g hN hN2 hp h1 h2 e0 hf hy hI hK h3 hj hfn hi hl hs hOkQ hE hE1 hE2 ST
    go_enter Tryd.func26, Tryd.ntmps26
    go_wp2_with fail
    refine PC.out.mono ?_; rintro e w1 ⟨rfl, b1⟩
    have B1 := Lib.hid b1
    clear b1
    go_wp2_with fail
    refine (CP.out w1 B1.out).mono ?_; rintro e w2 ⟨rfl, b2⟩
    have B2 := Lib.hid (belT B1.out b2)
    clear b2
    go_wp2_with fail
    refine (FI.out w2 B2.out).mono ?_; rintro e w3 ⟨rfl, rfl⟩
    have cK := CK.out w2 B2.out
    go_wp2_with fail
    refine (PU.out w2 B2.out).mono ?_; rintro e w3 ⟨rfl, W', nm', M', f3, hW, o3⟩
    have KP : Hid (OkQ w3) := by show OkQ w3; rw [HOK.out]; exact FIN.out w2 w3 W' nm' M' B2.out f3 hW o3
    clear f3 hW o3 cK
    go_wp2_with fail
    go_ret
    exact ⟨rfl, KP.out⟩
end
end Go.Proofs.YthcbiohmghaobaaDoor.Vfs
