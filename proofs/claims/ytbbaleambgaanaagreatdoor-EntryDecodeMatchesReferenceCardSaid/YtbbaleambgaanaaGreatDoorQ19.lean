/- EtrParts BClone IClone SrcSmall SrcNew -/
import Derived.Test.YtbbaleambgaanaaGreatDoorQ5
namespace Go.Proofs.YtbbaleambgaanaaGreatDoor.Etr
open Go.Lib Go.RowKit Go.Proofs.YtbbaleambgaanaaGreatDoor.Fit Pxr Pnm
abbrev hdW (h : Hd) : List Value := Ust.hdV h.T h.nm h.pf h.lk h.md h.sz
def hz : Hd := ⟨0, emp, emp, emp, 0, 0⟩
theorem nx_zero' {Z : List Int} {E : Int} {o : Nat} {err : Int} (hE : E = 11 ∨ E = 4) (h : nxE Z E o err = 0) : err = 0 ∧ o + 512 ≤ Z.length := by
  unfold nxE at h
  by_cases he : err ≠ 0
  · rw [if_pos he] at h; exact absurd h he
  · rw [if_neg he] at h
    refine ⟨Decidable.byContradiction he, ?_⟩
    by_cases hc : o + 512 ≤ Z.length
    · exact hc
    · rw [if_neg hc] at h
      split at h <;> omega
noncomputable def lsE (Z : List Int) (E : Int) (o : Nat) : Int := if nxE Z E o 0 ≠ 0 then (if nxE Z E o 0 = 4 then 5 else nxE Z E o 0) else Ust.deE ((Z.drop o).take 512)
noncomputable def lsP (Z : List Int) (E : Int) (o : Nat) : Nat := if nxE Z E o 0 ≠ 0 then nxO Z o 0 else if Ust.deE ((Z.drop o).take 512) ≠ 0 then o else 0
noncomputable def lsH (Z : List Int) (E : Int) (o : Nat) : Hd := if lsE Z E o ≠ 0 then hz else hdOf ((Z.drop o).take 512)
theorem ls_next {Z : List Int} {E : Int} {o : Nat} (h : nxE Z E o 0 ≠ 0) : lsE Z E o = (if nxE Z E o 0 = 4 then 5 else nxE Z E o 0) ∧ lsP Z E o = nxO Z o 0 ∧ lsH Z E o = hz ∧ lsE Z E o ≠ 0 := by
  have e : lsE Z E o = (if nxE Z E o 0 = 4 then 5 else nxE Z E o 0) := if_pos h
  have n : lsE Z E o ≠ 0 := by rw [e]; split <;> first | decide | assumption
  exact ⟨e, if_pos h, if_pos n, n⟩
theorem ls_bad {Z : List Int} {E : Int} {o : Nat} (h : nxE Z E o 0 = 0) (hd : Ust.deE ((Z.drop o).take 512) ≠ 0) : lsE Z E o = Ust.deE ((Z.drop o).take 512) ∧ lsP Z E o = o ∧ lsH Z E o = hz := by
  have e : lsE Z E o = Ust.deE ((Z.drop o).take 512) := if_neg (by simpa using h)
  refine ⟨e, ?_, if_pos (by rw [e]; exact hd)⟩
  unfold lsP; rw [if_neg (by simpa using h), if_pos hd]
theorem ls_ok {Z : List Int} {E : Int} {o : Nat} (h : nxE Z E o 0 = 0) (hd : Ust.deE ((Z.drop o).take 512) = 0) : lsE Z E o = 0 ∧ lsP Z E o = 0 ∧ lsH Z E o = hdOf ((Z.drop o).take 512) := by
  have e : lsE Z E o = 0 := by unfold lsE; rw [if_neg (by simpa using h)]; exact hd
  refine ⟨e, ?_, if_neg (by simpa using e)⟩
  unfold lsP; rw [if_neg (by simpa using h), if_neg (by simpa using hd)]
open Classical in
noncomputable def rcE (Z : List Int) (E : Int) (o : Nat) (h : Hd) : Int := if ¬ paxOk h then 17 else if rdE Z E (o + 512) 0 h.sz ≠ 0 then rdE Z E (o + 512) 0 h.sz else (Pxr.parZ (rdD Z (o + 512) 0 h.sz)).2.2
open Classical in
noncomputable def rcP (Z : List Int) (E : Int) (o : Nat) (h : Hd) : Nat := if ¬ paxOk h then o else if rdE Z E (o + 512) 0 h.sz ≠ 0 then rdP Z (o + 512) 0 h.sz else if (Pxr.parZ (rdD Z (o + 512) 0 h.sz)).2.2 ≠ 0 then o + 512 + (Pxr.parZ (rdD Z (o + 512) 0 h.sz)).2.1 else 0
open Classical in
noncomputable def rcR (Z : List Int) (E : Int) (o : Nat) (h : Hd) : List Rec := if ¬ paxOk h then [] else if rdE Z E (o + 512) 0 h.sz ≠ 0 then [] else if (Pxr.parZ (rdD Z (o + 512) 0 h.sz)).2.2 ≠ 0 then [] else (Pxr.parZ (rdD Z (o + 512) 0 h.sz)).1
open Classical in
noncomputable def rcO (Z : List Int) (o : Nat) (h : Hd) : Nat := if ¬ paxOk h then o + 512 else rdO Z (o + 512) 0 h.sz
open Classical in
noncomputable def rcS (Z : List Int) (E : Int) (o : Nat) (h : Hd) : Int := if ¬ paxOk h then 0 else rdS Z E (o + 512) 0 h.sz
section
variable {Z : List Int} {E : Int} {o : Nat} {h : Hd}
theorem rc_pax (hp : ¬ paxOk h) : rcE Z E o h = 17 ∧ rcP Z E o h = o ∧ rcR Z E o h = [] ∧ rcO Z o h = o + 512 ∧ rcS Z E o h = 0 := ⟨if_pos hp, if_pos hp, if_pos hp, if_pos hp, if_pos hp⟩
theorem rc_read (hp : paxOk h) (hr : rdE Z E (o + 512) 0 h.sz ≠ 0) : rcE Z E o h = rdE Z E (o + 512) 0 h.sz ∧ rcP Z E o h = rdP Z (o + 512) 0 h.sz ∧ rcR Z E o h = [] ∧ rcO Z o h = rdO Z (o + 512) 0 h.sz ∧ rcS Z E o h = rdS Z E (o + 512) 0 h.sz := by
  have hn := not_not_intro hp
  unfold rcE rcP rcR rcO rcS
  rw [if_neg hn, if_neg hn, if_neg hn, if_neg hn, if_neg hn, if_pos hr, if_pos hr, if_pos hr]
  exact ⟨rfl, rfl, rfl, rfl, rfl⟩
theorem rc_par (hp : paxOk h) (hr : rdE Z E (o + 512) 0 h.sz = 0) (hq : (Pxr.parZ (rdD Z (o + 512) 0 h.sz)).2.2 ≠ 0) :
    rcE Z E o h = (Pxr.parZ (rdD Z (o + 512) 0 h.sz)).2.2 ∧ rcP Z E o h = o + 512 + (Pxr.parZ (rdD Z (o + 512) 0 h.sz)).2.1 ∧ rcR Z E o h = [] ∧ rcO Z o h = rdO Z (o + 512) 0 h.sz ∧ rcS Z E o h = rdS Z E (o + 512) 0 h.sz := by
  have hn := not_not_intro hp
  have hr' : ¬ rdE Z E (o + 512) 0 h.sz ≠ 0 := by simpa using hr
  unfold rcE rcP rcR rcO rcS
  rw [if_neg hn, if_neg hn, if_neg hn, if_neg hn, if_neg hn, if_neg hr', if_neg hr', if_neg hr', if_pos hq, if_pos hq]
  exact ⟨rfl, rfl, rfl, rfl, rfl⟩
theorem rc_ok (hp : paxOk h) (hr : rdE Z E (o + 512) 0 h.sz = 0) (hq : (Pxr.parZ (rdD Z (o + 512) 0 h.sz)).2.2 = 0) :
    rcE Z E o h = 0 ∧ rcP Z E o h = 0 ∧ rcR Z E o h = (Pxr.parZ (rdD Z (o + 512) 0 h.sz)).1 ∧ rcO Z o h = rdO Z (o + 512) 0 h.sz ∧ rcS Z E o h = rdS Z E (o + 512) 0 h.sz := by
  have hn := not_not_intro hp
  have hr' : ¬ rdE Z E (o + 512) 0 h.sz ≠ 0 := by simpa using hr
  have hq' : ¬ (Pxr.parZ (rdD Z (o + 512) 0 h.sz)).2.2 ≠ 0 := by simpa using hq
  unfold rcE rcP rcR rcO rcS
  rw [if_neg hn, if_neg hn, if_neg hn, if_neg hn, if_neg hn, if_neg hr', if_neg hr', if_neg hr', if_neg hq', if_neg hq']
  exact ⟨hq, rfl, rfl, rfl, rfl⟩
theorem rd_zero {s : Nat} (hs : s ≤ 1099511627776) (hE : E = 11 ∨ E = 4) (hr : rdE Z E o 0 s = 0) : rdS Z E o 0 s = 0 ∧ rdO Z o 0 s = o + 512 * blkN s ∧ rdP Z o 0 s = o + 512 * blkN s := by
  by_cases hok : pyOk Z o 0 (blkN s)
  · by_cases hi : nzI (rdPad Z o s) < (rdPad Z o s).length
    · rw [(rd_pad (E := E) hs rfl hok hi).1] at hr; cases hr
    · obtain ⟨_, r2, _, r4, r5⟩ := rd_ok (E := E) hs rfl hok hi
      exact ⟨r5, r4, r2⟩
  · have h1 := (rd_no (E := E) hs rfl hok).1
    have h2 := pyE_ne hE hok
    rw [h1] at hr
    split at hr
    · cases hr
    · exact absurd hr h2
theorem rc_zero (hE : E = 11 ∨ E = 4) (hr : rcE Z E o h = 0) : paxOk h ∧ rdE Z E (o + 512) 0 h.sz = 0 ∧ (Pxr.parZ (rdD Z (o + 512) 0 h.sz)).2.2 = 0 ∧ rcS Z E o h = 0 ∧ rcO Z o h = rdO Z (o + 512) 0 h.sz := by
  by_cases hp : paxOk h
  · by_cases h1 : rdE Z E (o + 512) 0 h.sz = 0
    · by_cases h2 : (Pxr.parZ (rdD Z (o + 512) 0 h.sz)).2.2 = 0
      · refine ⟨hp, h1, h2, ?_, (rc_ok hp h1 h2).2.2.2.1⟩
        rw [(rc_ok hp h1 h2).2.2.2.2]
        obtain ⟨s, hs⟩ : ∃ s : Nat, h.sz = s := ⟨h.sz.toNat, by have := hp.2.2.2.2; omega⟩
        have h8 := hp.2.2.2.2.2
        rw [hs] at h1 h8 ⊢
        exact (rd_zero (by omega) hE h1).1
      · rw [(rc_par hp h1 h2).1] at hr; exact absurd hr h2
    · rw [(rc_read hp h1).1] at hr; exact absurd hr h1
  · rw [(rc_pax hp).1] at hr; cases hr
theorem dc2_bad (hE : E = 11 ∨ E = 4) (hr : rcE Z E o h ≠ 0) : dc2 Z E o h = ⟨ez, rcP Z E o h, rcE Z E o h, rcO Z o h, rcS Z E o h⟩ := by
  unfold dc2
  by_cases hp : paxOk h
  · rw [if_neg (not_not_intro hp)]
    by_cases h1 : rdE Z E (o + 512) 0 h.sz = 0
    · by_cases h2 : (Pxr.parZ (rdD Z (o + 512) 0 h.sz)).2.2 = 0
      · exact absurd (rc_ok hp h1 h2).1 hr
      · obtain ⟨e1, e2, _, e4, e5⟩ := rc_par hp h1 h2
        have h8 := hp.2.2.2.2
        obtain ⟨s, hs⟩ : ∃ s : Nat, h.sz = s := ⟨h.sz.toNat, by omega⟩
        have z5 : rdS Z E (o + 512) 0 h.sz = 0 := by rw [hs] at h1 h8 ⊢; exact (rd_zero (by omega) hE h1).1
        rw [if_neg (by simpa using h1), e1, e2, e4, e5, z5]
        unfold dc3
        rw [if_pos h2]
    · obtain ⟨e1, e2, _, e4, e5⟩ := rc_read hp h1
      rw [if_pos h1, e1, e2, e4, e5]
  · obtain ⟨e1, e2, _, e4, e5⟩ := rc_pax (Z := Z) (E := E) (o := o) hp
    rw [if_pos hp, e1, e2, e4, e5]
theorem dc2_last (hE : E = 11 ∨ E = 4) (hr : rcE Z E o h = 0) (hl : lsE Z E (rcO Z o h) ≠ 0) : dc2 Z E o h = ⟨ez, lsP Z E (rcO Z o h), lsE Z E (rcO Z o h), nxO Z (rcO Z o h) 0, nxE Z E (rcO Z o h) 0⟩ := by
  obtain ⟨hp, h1, h2, h3, h4⟩ := rc_zero hE hr
  unfold dc2 dc3
  rw [if_neg (not_not_intro hp), if_neg (by simpa using h1), if_neg (by simpa using h2), ← h4]
  by_cases hn : nxE Z E (rcO Z o h) 0 ≠ 0
  · obtain ⟨e1, e2, _, _⟩ := ls_next hn
    rw [if_pos hn, e1, e2]
  · have hn0 : nxE Z E (rcO Z o h) 0 = 0 := Decidable.byContradiction hn
    obtain ⟨_, hg⟩ := nx_zero' hE hn0
    have hd : Ust.deE ((Z.drop (rcO Z o h)).take 512) ≠ 0 := fun hd => hl (ls_ok hn0 hd).1
    obtain ⟨e1, e2, _⟩ := ls_bad hn0 hd
    unfold dc4
    rw [if_neg hn, if_pos hd, e1, e2, hn0, (nx_go (E := E) hg).2.2]
theorem dc2_ok (hE : E = 11 ∨ E = 4) (hr : rcE Z E o h = 0) (hl : lsE Z E (rcO Z o h) = 0) : dc2 Z E o h = mgD (lsH Z E (rcO Z o h)) (rcR Z E o h) o (rcO Z o h) (rcO Z o h + 512) ∧ nxE Z E (rcO Z o h) 0 = 0 ∧ nxO Z (rcO Z o h) 0 = rcO Z o h + 512 := by
  obtain ⟨hp, h1, h2, h3, h4⟩ := rc_zero hE hr
  have hn0 : nxE Z E (rcO Z o h) 0 = 0 := Decidable.byContradiction fun hn => (ls_next hn).2.2.2 hl
  obtain ⟨_, hg⟩ := nx_zero' hE hn0
  have hd : Ust.deE ((Z.drop (rcO Z o h)).take 512) = 0 := Decidable.byContradiction fun hd => hd ((ls_bad hn0 hd).1.symm.trans hl)
  refine ⟨?_, hn0, (nx_go (E := E) hg).2.2⟩
  rw [(ls_ok hn0 hd).2.2, (rc_ok hp h1 h2).2.2.1]
  unfold dc2 dc3
  rw [if_neg (not_not_intro hp), if_neg (by simpa using h1), if_neg (by simpa using h2), ← h4, if_neg (by simpa using hn0)]
  unfold dc4
  rw [if_neg (by simpa using hd)]
end
end Go.Proofs.YtbbaleambgaanaaGreatDoor.Etr
namespace Go.Proofs.YtbbaleambgaanaaGreatDoor
open Go.RowKit
set_option maxRecDepth 100000 in
set_option maxHeartbeats 1000000 in
theorem bclone (a : Option Addr) (n cap : Nat) (zs : List Int) (w : World) (hb : InK .u8 w a zs) (hl : zs.length = n) (hn : n ≤ 140737488355328) :
    Calls Tryz.prog 32 #[.slice a n cap] w fun e w' => ∃ v, e = .returned v ∧ w'.ownsRow w.heap.size 5 1 v n (zs.map (.int .u8)) ∧ Below w.heap.size w w' := by
  have HB := Lib.hid hb; clear hb
  have HL := Lib.hid hl; clear hl
  have HN := Lib.hid hn; clear hn
  have HE := Lib.hid u8T
  have he : (Tryz.prog.info? 5).map (·.size) = some 1 := by obtain ⟨i, h1, _, h2, _⟩ := u8T; simp [h1, h2]
  have HE1 := Lib.hid he; clear he
  have he : ∀ w : World, (binOp .eql 24 (.slice none n cap) (.slice none 0 0)).run Tryz.prog w = .ok (.bool true) w := fun _ => rfl
  have he' : ∀ (x : Addr) (w : World), (binOp .eql 24 (.slice (some x) n cap) (.slice none 0 0)).run Tryz.prog w = .ok (.bool false) w := fun _ _ => rfl
  cases a with
  | none =>
    have h0 : zs = [] := by
      rcases HB.out with h | ⟨_, _, h, _⟩
      · exact h
      · cases h
    subst h0
    obtain rfl : n = 0 := HL.out.symm
    go_enter Tryz.func32, Tryz.ntmps32
    go_wp2
    go_ret
    exact ⟨_, rfl, ⟨rfl, .inl ⟨rfl, rfl⟩⟩, Below.refl _ _⟩
  | some x =>
    go_enter Tryz.func32, Tryz.ntmps32
    go_wp2_with (first | (refine wpList_lit_k rfl 24 5 .u8 rfl Tryz.underlying24 HE1.out ?_; intro w1 h1 b1; have O1 := Lib.hid h1; have B1 := Lib.hid b1; clear h1 b1) | (at_builtin; refine wpList_append_k rfl _ _ 24 rfl w.heap.size 5 .u8 1 Tryz.underlying24 HE.out (.slice (some ⟨w.heap.size, 0, none⟩) 0 0) 0 [] rfl O1.out (some x) n cap zs rfl (HB.out.below B1.out) HL.out (by have := HN.out; unfold maxLen; omega) (by have := HN.out; omega) B1.out.size ?_; intro v2 w2 h2 b2; rw [Nat.zero_add, List.nil_append] at h2; have O2 := Lib.hid h2; have B2 := Lib.hid b2; clear h2 b2))
    go_ret
    exact ⟨_, rfl, O2.out, B1.out.trans B2.out⟩
end Go.Proofs.YtbbaleambgaanaaGreatDoor
namespace Go.Proofs.YtbbaleambgaanaaGreatDoor
open Go.RowKit
set_option maxRecDepth 100000 in
set_option maxHeartbeats 1000000 in
theorem iclone (a : Option Addr) (n cap : Nat) (zs : List Int) (w : World) (hb : InK .i64 w a zs) (hl : zs.length = n) (hn : n ≤ 17592186044416) :
    Calls Tryz.prog 31 #[.slice a n cap] w fun e w' => ∃ v, e = .returned v ∧ w'.ownsRow w.heap.size 3 1 v n (zs.map (.int .i64)) ∧ Below w.heap.size w w' := by
  have HB := Lib.hid hb; clear hb
  have HL := Lib.hid hl; clear hl
  have HN := Lib.hid hn; clear hn
  have HE := Lib.hid i64T
  have he : (Tryz.prog.info? 3).map (·.size) = some 1 := by obtain ⟨i, h1, _, h2, _⟩ := i64T; simp [h1, h2]
  have HE1 := Lib.hid he; clear he
  have he : ∀ w : World, (binOp .eql 34 (.slice none n cap) (.slice none 0 0)).run Tryz.prog w = .ok (.bool true) w := fun _ => rfl
  have he' : ∀ (x : Addr) (w : World), (binOp .eql 34 (.slice (some x) n cap) (.slice none 0 0)).run Tryz.prog w = .ok (.bool false) w := fun _ _ => rfl
  cases a with
  | none =>
    have h0 : zs = [] := by
      rcases HB.out with h | ⟨_, _, h, _⟩
      · exact h
      · cases h
    subst h0
    obtain rfl : n = 0 := HL.out.symm
    go_enter Tryz.func31, Tryz.ntmps31
    go_wp2
    go_ret
    exact ⟨_, rfl, ⟨rfl, .inl ⟨rfl, rfl⟩⟩, Below.refl _ _⟩
  | some x =>
    go_enter Tryz.func31, Tryz.ntmps31
    go_wp2_with (first | (refine wpList_lit_k rfl 34 3 .i64 rfl Tryz.underlying34 HE1.out ?_; intro w1 h1 b1; have O1 := Lib.hid h1; have B1 := Lib.hid b1; clear h1 b1) | (at_builtin; refine wpList_append_k rfl _ _ 34 rfl w.heap.size 3 .i64 8 Tryz.underlying34 HE.out (.slice (some ⟨w.heap.size, 0, none⟩) 0 0) 0 [] rfl O1.out (some x) n cap zs rfl (HB.out.below B1.out) HL.out (by have := HN.out; unfold maxLen; omega) (by have := HN.out; omega) B1.out.size ?_; intro v2 w2 h2 b2; rw [Nat.zero_add, List.nil_append] at h2; have O2 := Lib.hid h2; have B2 := Lib.hid b2; clear h2 b2))
    go_ret
    exact ⟨_, rfl, O2.out, B1.out.trans B2.out⟩
end Go.Proofs.YtbbaleambgaanaaGreatDoor
namespace Go.Proofs.YtbbaleambgaanaaGreatDoor
open Go.RowKit
def Chk (w : World) (c : Nat) (sa : Option Addr) (sc : Nat) (cs : List Int) (r : Nat) : Prop :=
  ObjAt w c 80 [.slice sa cs.length sc, .int .i64 (ixN cs r)] ∧ InK .i64 w sa cs ∧ cs.length ≤ 140737488355328 ∧ ∀ x, sa = some x → x.block ≠ c
set_option maxHeartbeats 1000000 in
theorem next_any (c : Nat) (sa : Option Addr) (sc : Nat) (cs : List Int) (r : Nat) (w : World) (h : Chk w c sa sc cs r) :
    Calls Tryz.prog 33 #[.pointer (some ⟨c, 0, none⟩)] w fun e w' => e = .returned (.int .i64 (chunkZ cs r)) ∧ Chk w' c sa sc cs (r + 1) ∧ Out c (c + 1) w w' := by
  have H := Lib.hid h
  obtain ⟨ho, hi, hm, hx⟩ := h
  have HO := Lib.hid ho
  by_cases hz : cs.length = 0
  · have HZ := Lib.hid hz
    have c0 : w.cell? ⟨c, 0, none⟩ = some (.slice sa 0 sc) := by have := ho.get 0 rfl; rwa [hz] at this
    clear ho hi hm hx hz
    go_enter Tryz.func33, Tryz.ntmps33
    go_wp2
    go_ret
    refine ⟨?_, ?_, .refl _ _ _⟩
    · unfold chunkZ; rw [if_pos HZ.out]; rfl
    · have := H.out
      unfold Chk ixN at this ⊢
      rw [if_pos HZ.out] at this ⊢
      exact this
  · obtain ⟨L, hL⟩ := named cs.length
    obtain ⟨i, hI⟩ := named (r % cs.length)
    obtain ⟨d, hd⟩ := named (cs.getD i 0)
    have e1 : ixN cs r = i := by unfold ixN; rw [if_neg hz, hI.out]
    have hlt : i < cs.length := by rw [hI.out]; exact Nat.mod_lt _ (by omega)
    obtain ⟨b, off, rfl, hb⟩ := hi.plain (by omega)
    have cd := hi.get i hlt
    have cf := ho.frozen 1
    rw [← hd.out] at cd
    have c0 : w.cell? ⟨c, 0, none⟩ = some (.slice (some ⟨b, off, none⟩) L sc) := by have := ho.get 0 rfl; rwa [← hL.out] at this
    have c1 : w.cell? ⟨c, 1, none⟩ = some (.int .i64 i) := by have := ho.get 1 rfl; rwa [e1] at this
    have hxb : b ≠ c := hx _ rfl
    have hm' : L ≤ 140737488355328 := by rw [hL.out]; exact hm
    have hlt' : (i : Int) < L := by rw [hL.out]; omega
    have hL0 : ¬ L = 0 := by rw [hL.out]; exact hz
    have HX := Lib.hid hx; have HXB := Lib.hid hxb; have HM := Lib.hid hm; have HZ := Lib.hid hz; have E1 := Lib.hid e1; have HLT := Lib.hid hlt; have HIN := Lib.hid hi
    clear ho hi hm hx hz e1 hlt hxb
    go_enter Tryz.func33, Tryz.ntmps33
    go_wp2
    go_quiet (fail)
    go_wp2
    have hnext : ((i : Int) + 1) % (L : Int) = (ixN cs (r + 1) : Nat) := by
      unfold ixN; rw [if_neg HZ.out, hL.out, hI.out]
      rw [show ((r % cs.length : Nat) : Int) + 1 = ((r % cs.length + 1 : Nat) : Int) by omega, ← Int.natCast_emod, Nat.mod_add_mod]
    have hck : chunkZ cs r = max d 1 := by unfold chunkZ; rw [if_neg HZ.out, hd.out, hI.out]
    have HN := Lib.hid hnext; have HK := Lib.hid hck
    clear hnext hck
    have fin : ∀ nq, Chk ((w.drewN nq).setCell ⟨c, 1, none⟩ (.int .i64 ((i + 1 : Int) % L))) c (some ⟨b, off, none⟩) sc cs (r + 1) ∧ Out c (c + 1) w ((w.drewN nq).setCell ⟨c, 1, none⟩ (.int .i64 ((i + 1 : Int) % L))) := by
      intro nq
      have ho : ObjAt (w.drewN nq) c 80 _ := HO.out
      refine ⟨⟨?_, (show InK .i64 (w.drewN nq) _ cs from HIN.out).set _ HX.out, HM.out, HX.out⟩, ?_⟩
      · rw [HN.out]; exact ho.set 1 _
      · have : Out c (c + 1) w (w.drewN nq) := ⟨rfl, rfl, rfl, Nat.le_refl _, fun _ _ _ => rfl⟩
        exact this.setCell (Nat.le_refl _) (Nat.lt_succ_self _) _
    have FIN := Lib.hid fin; clear fin
    by_cases hd1 : 1 ≤ d
    · have HKd : Hid (chunkZ cs r = d) := by show _ = _; rw [HK.out]; omega
      go_region
      all_goals (go_wp2; go_ret; exact ⟨by rw [HKd.out]; rfl, FIN.out _⟩)
    · have HKd : Hid (chunkZ cs r = 1) := by show _ = _; rw [HK.out]; omega
      go_region
      all_goals (go_wp2; go_ret; exact ⟨by rw [HKd.out]; rfl, FIN.out _⟩)
end Go.Proofs.YtbbaleambgaanaaGreatDoor
namespace Go.Proofs.YtbbaleambgaanaaGreatDoor
open Go.RowKit
def Src (w : World) (lo hi s : Nat) (zs : List Int) (E : Int) (cs : List Int) (o r : Nat) : Prop :=
  ∃ c da dc sa sc, ObjAt w s 84 [.slice da zs.length dc, .int .i64 E, .int .i64 o, .int .i64 r, .func (.func 33) #[.pointer (some ⟨c, 0, none⟩)] #[]] ∧
    Chk w c sa sc cs r ∧ BytesIn w da zs ∧ zs.length ≤ dc ∧ dc ≤ maxLen ∧ zs.length ≤ 140737488355328 ∧
    (lo ≤ s ∧ s < hi ∧ lo ≤ c ∧ c < hi ∧ s ≠ c ∧ hi ≤ w.heap.size) ∧
    (∀ x, da = some x → lo ≤ x.block ∧ x.block < hi ∧ x.block ≠ s ∧ x.block ≠ c) ∧ (∀ x, sa = some x → lo ≤ x.block ∧ x.block < hi ∧ x.block ≠ s) ∧ o ≤ zs.length ∧ r ≤ o
theorem Chk.out {w w' : World} {c lo hi : Nat} {sa : Option Addr} {sc : Nat} {cs : List Int} {r : Nat} (h : Chk w c sa sc cs r) (ho : Out lo hi w w') (hc : c < lo ∨ hi ≤ c) (hs : ∀ x, sa = some x → x.block < lo ∨ hi ≤ x.block) : Chk w' c sa sc cs r := by
  obtain ⟨h1, h2, h3, h4⟩ := h
  exact ⟨h1.out ho hc, h2.out ho hs, h3, h4⟩
theorem Src.out {w w' : World} {lo hi s lo' hi' : Nat} {zs cs : List Int} {E : Int} {o r : Nat} (h : Src w lo hi s zs E cs o r) (ho : Out lo' hi' w w') (hd : hi ≤ lo' ∨ hi' ≤ lo) : Src w' lo hi s zs E cs o r := by
  obtain ⟨c, da, dc, sa, sc, h1, h2, h3, h4, h5, h6, h7, h8, h9, h10⟩ := h
  refine ⟨c, da, dc, sa, sc, h1.out ho (by omega), h2.out ho (by omega) (fun x hx => by have := h9 x hx; omega), h3.out ho (fun x hx => by have := h8 x hx; omega), h4, h5, h6, ?_, h8, h9, h10⟩
  have := ho.size
  omega
theorem Src.below {w w' : World} {lo hi s : Nat} {zs cs : List Int} {E : Int} {o r : Nat} (h : Src w lo hi s zs E cs o r) (hb : Below w.heap.size w w') : Src w' lo hi s zs E cs o r := by
  have hh : hi ≤ w.heap.size := by obtain ⟨_, _, _, _, _, _, _, _, _, _, _, h7, _⟩ := h; exact h7.2.2.2.2.2
  exact h.out (lo' := hi) (hi' := hi) (.of_below hb (Nat.le_refl _)) (.inl (Nat.le_refl _))
def endN (F : Int) (n : Nat) : Nat := if 0 ≤ F ∧ F ≤ n then F.toNat else n
def endE (F : Int) (n : Nat) : Int := if 0 ≤ F ∧ F ≤ n then 11 else 4
set_option maxHeartbeats 4000000 in
theorem new_any (a : Option Addr) (n cap : Nat) (zs : List Int) (ca : Option Addr) (cl cc : Nat) (cs : List Int) (F : Int) (w : World) (hb : BytesIn w a zs) (hl : zs.length = n) (hnc : n ≤ cap) (hn : n ≤ 140737488355328)
    (hi : InK .i64 w ca cs) (hcl : cs.length = cl) (hc : cl ≤ 17592186044416) :
    Calls Tryz.prog 16 #[.slice a n cap, .agg #[.slice ca cl cc, .int .i64 F]] w fun e w' => ∃ s, e = .returned (.pointer (some ⟨s, 0, none⟩)) ∧
      Src w' w.heap.size w'.heap.size s (zs.take (endN F n)) (endE F n) cs 0 0 ∧ Below w.heap.size w w' := by
  have HB := Lib.hid hb; have HL := Lib.hid hl; have HI := Lib.hid hi; have HCL := Lib.hid hcl; have HC := Lib.hid hc; have HN := Lib.hid hn; have HNC := Lib.hid hnc
  clear hb hl hi hcl hc
  have hmf : ∀ (fn : Fn) (first cap : Array Value) (w : World), (Instr.makeFunc fn first cap).run Tryz.prog w = .ok (.func fn first cap) w := fun _ _ _ _ => rfl
  have hz : (Tryz.prog.info? 80).map (·.zero) = some (some (.agg [Value.slice none 0 0, .int .i64 0].toArray)) := by kernel_rfl
  have hs : (Tryz.prog.info? 80).map (·.size) = some 2 := by kernel_rfl
  have HZ := Lib.hid hz; have HS := Lib.hid hs
  clear hz hs
  by_cases hF : 0 ≤ F ∧ F ≤ n
  · obtain ⟨f, rfl⟩ : ∃ f : Nat, F = f := ⟨F.toNat, by omega⟩
    have hfn : f ≤ n := by omega
    have hfn' : (f : Int) ≤ n := by omega
    have hfc : f ≤ cap := by omega
    have E1 : Hid (endN f n = f) := by show _ = _; unfold endN; rw [if_pos hF]; rfl
    have E2 : Hid (endE f n = 11) := by show _ = _; unfold endE; rw [if_pos hF]
    have h0f : (0 : Int) ≤ (f : Int) := by omega
    clear hF
    rw [E1.out, E2.out]
    go_enter Tryz.func16, Tryz.ntmps16
    go_wp2_with (first | (refine wpList_box_obj rfl 36 _ rfl [.slice ca cl cc, .int .i64 f] rfl ?_; intro w1 h1 b1; have H1 := Lib.hid h1; have B1 := Lib.hid b1; have c0 := h1.get 0 rfl; have c1 := h1.get 1 rfl; clear h1 b1))
    refine (iclone ca cl cc cs w1 (HI.out.below B1.out) HCL.out HC.out).mono ?_; rintro e w2 ⟨v2, rfl, o2, b2⟩
    obtain ⟨sa, sc, rfl, i2, _, _, _, x2⟩ := own_any o2
    have B2 := Lib.hid (B1.out.trans (b2.mono B1.out.size)); have I2 := Lib.hid i2; have X2 := Lib.hid x2; have G1 := Lib.hid B1.out.size; have LT1 := Lib.hid H1.out.lt; have G2 := Lib.hid b2.size
    clear o2 b2 i2 x2 c0 c1
    go_wp2_with (first | (refine wpList_alloc_obj rfl 80 rfl [.slice none 0 0, .int .i64 0] HZ.out ?_; intro w3 h3 b3; have H3 := Lib.hid h3; have B3 := Lib.hid b3; clear h3 b3) | (refine wpList_store_obj rfl 80 _ _ rfl w2.heap.size rfl [.slice sa cl sc, .int .i64 0] [.slice none 0 0, .int .i64 0] rfl 80 H3.out HS.out rfl (by intro v hv; simp at hv; rcases hv with rfl | rfl <;> rfl) ?_; intro w4 h4 t4; have H4 := Lib.hid h4; have T4 := Lib.hid t4; clear h4 t4))
    have B4 := Lib.hid (B3.out.trans (T4.out.below (Nat.le_refl _)))
    have Z4 := Lib.hid (B2.out.trans (B4.out.mono B2.out.size))
    have L4 := Lib.hid H4.out.lt
    refine (bclone a f cap (zs.take f) w4 ((HB.out.below Z4.out).take f).inK (by rw [List.length_take, HL.out]; omega) (by have := HN.out; omega)).mono ?_; rintro e w5 ⟨v5, rfl, o5, b5⟩
    obtain ⟨da, dc, rfl, i5, dc1, dc2, _, x5⟩ := own_any o5
    have B5 := Lib.hid b5; have I5 := Lib.hid i5; have X5 := Lib.hid x5; have D1 := Lib.hid dc1; have D2 := Lib.hid dc2
    clear o5 b5 i5 x5 dc1 dc2
    go_wp2_with (first | (refine wpList_box_obj rfl 84 _ rfl [.slice da f dc, .int .i64 11, .int .i64 0, .int .i64 0, .func (.func 33) #[.pointer (some ⟨w2.heap.size, 0, none⟩)] #[]] rfl ?_; intro w6 h6 b6; have H6 := Lib.hid h6; have B6 := Lib.hid b6; clear h6 b6))
    go_ret
    have g1 := G1.out; have g2 := G2.out; have l1 := LT1.out; have l4 := L4.out; have g5 := B5.out.size; have l6 := H6.out.lt; have g6 := B6.out.size; have g4 := B4.out.size
    have b46 := B5.out.trans (B6.out.mono B5.out.size)
    have b06 := Z4.out.trans (b46.mono Z4.out.size)
    have b26 := B4.out.trans (b46.mono B4.out.size)
    have lz : (zs.take f).length = f := (by rw [List.length_take, HL.out]; omega)
    refine ⟨_, rfl, ⟨w2.heap.size, da, dc, sa, sc, by rw [lz]; exact H6.out, ⟨?_, I2.out.below b26, by rw [HCL.out]; have := HC.out; omega, fun x hx => by have := X2.out x hx; omega⟩, (I5.out.bytes ((HB.out.below Z4.out).take f).bytes).below B6.out, by rw [lz]; exact D1.out, D2.out, by rw [lz]; have := HN.out; omega, ?_, fun x hx => by have := X5.out x hx; omega, fun x hx => by have := X2.out x hx; omega, Nat.zero_le _, Nat.le_refl _⟩, b06⟩
    · have : ixN cs 0 = 0 := by unfold ixN; split <;> simp
      rw [this, HCL.out]
      exact H4.out.below b46 L4.out
    · omega
  · have E1 : Hid (endN F n = n) := by show _ = _; unfold endN; rw [if_neg hF]
    have E2 : Hid (endE F n = 4) := by show _ = _; unfold endE; rw [if_neg hF]
    have h1 : 0 ≤ F → ¬ F ≤ n := fun h h' => hF ⟨h, h'⟩
    clear hF
    have ez : zs.take n = zs := List.take_of_length_le (by rw [HL.out]; exact Nat.le_refl _)
    rw [E1.out, E2.out, ez]
    clear ez
    by_cases h0 : 0 ≤ F
    · have h1 := h1 h0
      go_enter Tryz.func16, Tryz.ntmps16
      go_wp2_with (first | (refine wpList_box_obj rfl 36 _ rfl [.slice ca cl cc, .int .i64 F] rfl ?_; intro w1 h1 b1; have H1 := Lib.hid h1; have B1 := Lib.hid b1; have c0 := h1.get 0 rfl; have c1 := h1.get 1 rfl; clear h1 b1))
      refine (iclone ca cl cc cs w1 (HI.out.below B1.out) HCL.out HC.out).mono ?_; rintro e w2 ⟨v2, rfl, o2, b2⟩
      obtain ⟨sa, sc, rfl, i2, _, _, _, x2⟩ := own_any o2
      have B2 := Lib.hid (B1.out.trans (b2.mono B1.out.size)); have I2 := Lib.hid i2; have X2 := Lib.hid x2; have G1 := Lib.hid B1.out.size; have LT1 := Lib.hid H1.out.lt; have G2 := Lib.hid b2.size
      clear o2 b2 i2 x2 c0 c1
      go_wp2_with (first | (refine wpList_alloc_obj rfl 80 rfl [.slice none 0 0, .int .i64 0] HZ.out ?_; intro w3 h3 b3; have H3 := Lib.hid h3; have B3 := Lib.hid b3; clear h3 b3) | (refine wpList_store_obj rfl 80 _ _ rfl w2.heap.size rfl [.slice sa cl sc, .int .i64 0] [.slice none 0 0, .int .i64 0] rfl 80 H3.out HS.out rfl (by intro v hv; simp at hv; rcases hv with rfl | rfl <;> rfl) ?_; intro w4 h4 t4; have H4 := Lib.hid h4; have T4 := Lib.hid t4; clear h4 t4))
      have B4 := Lib.hid (B3.out.trans (T4.out.below (Nat.le_refl _)))
      have Z4 := Lib.hid (B2.out.trans (B4.out.mono B2.out.size))
      have L4 := Lib.hid H4.out.lt
      refine (bclone a n cap zs w4 (HB.out.below Z4.out).inK HL.out HN.out).mono ?_; rintro e w5 ⟨v5, rfl, o5, b5⟩
      obtain ⟨da, dc, rfl, i5, dc1, dc2, _, x5⟩ := own_any o5
      have B5 := Lib.hid b5; have I5 := Lib.hid i5; have X5 := Lib.hid x5; have D1 := Lib.hid dc1; have D2 := Lib.hid dc2
      clear o5 b5 i5 x5 dc1 dc2
      go_wp2_with (first | (refine wpList_box_obj rfl 84 _ rfl [.slice da n dc, .int .i64 4, .int .i64 0, .int .i64 0, .func (.func 33) #[.pointer (some ⟨w2.heap.size, 0, none⟩)] #[]] rfl ?_; intro w6 h6 b6; have H6 := Lib.hid h6; have B6 := Lib.hid b6; clear h6 b6))
      go_ret
      have g1 := G1.out; have g2 := G2.out; have l1 := LT1.out; have l4 := L4.out; have g5 := B5.out.size; have l6 := H6.out.lt; have g6 := B6.out.size; have g4 := B4.out.size
      have b46 := B5.out.trans (B6.out.mono B5.out.size)
      have b06 := Z4.out.trans (b46.mono Z4.out.size)
      have b26 := B4.out.trans (b46.mono B4.out.size)
      have lz : zs.length = n := HL.out
      refine ⟨_, rfl, ⟨w2.heap.size, da, dc, sa, sc, by rw [lz]; exact H6.out, ⟨?_, I2.out.below b26, by rw [HCL.out]; have := HC.out; omega, fun x hx => by have := X2.out x hx; omega⟩, (I5.out.bytes (HB.out.below Z4.out).bytes).below B6.out, by rw [lz]; exact D1.out, D2.out, by rw [lz]; have := HN.out; omega, ?_, fun x hx => by have := X5.out x hx; omega, fun x hx => by have := X2.out x hx; omega, Nat.zero_le _, Nat.le_refl _⟩, b06⟩
      · have : ixN cs 0 = 0 := by unfold ixN; split <;> simp
        rw [this, HCL.out]
        exact H4.out.below b46 L4.out
      · omega
    · clear h1
      go_enter Tryz.func16, Tryz.ntmps16
      go_wp2_with (first | (refine wpList_box_obj rfl 36 _ rfl [.slice ca cl cc, .int .i64 F] rfl ?_; intro w1 h1 b1; have H1 := Lib.hid h1; have B1 := Lib.hid b1; have c0 := h1.get 0 rfl; have c1 := h1.get 1 rfl; clear h1 b1))
      refine (iclone ca cl cc cs w1 (HI.out.below B1.out) HCL.out HC.out).mono ?_; rintro e w2 ⟨v2, rfl, o2, b2⟩
      obtain ⟨sa, sc, rfl, i2, _, _, _, x2⟩ := own_any o2
      have B2 := Lib.hid (B1.out.trans (b2.mono B1.out.size)); have I2 := Lib.hid i2; have X2 := Lib.hid x2; have G1 := Lib.hid B1.out.size; have LT1 := Lib.hid H1.out.lt; have G2 := Lib.hid b2.size
      clear o2 b2 i2 x2 c0 c1
      go_wp2_with (first | (refine wpList_alloc_obj rfl 80 rfl [.slice none 0 0, .int .i64 0] HZ.out ?_; intro w3 h3 b3; have H3 := Lib.hid h3; have B3 := Lib.hid b3; clear h3 b3) | (refine wpList_store_obj rfl 80 _ _ rfl w2.heap.size rfl [.slice sa cl sc, .int .i64 0] [.slice none 0 0, .int .i64 0] rfl 80 H3.out HS.out rfl (by intro v hv; simp at hv; rcases hv with rfl | rfl <;> rfl) ?_; intro w4 h4 t4; have H4 := Lib.hid h4; have T4 := Lib.hid t4; clear h4 t4))
      have B4 := Lib.hid (B3.out.trans (T4.out.below (Nat.le_refl _)))
      have Z4 := Lib.hid (B2.out.trans (B4.out.mono B2.out.size))
      have L4 := Lib.hid H4.out.lt
      refine (bclone a n cap zs w4 (HB.out.below Z4.out).inK HL.out HN.out).mono ?_; rintro e w5 ⟨v5, rfl, o5, b5⟩
      obtain ⟨da, dc, rfl, i5, dc1, dc2, _, x5⟩ := own_any o5
      have B5 := Lib.hid b5; have I5 := Lib.hid i5; have X5 := Lib.hid x5; have D1 := Lib.hid dc1; have D2 := Lib.hid dc2
      clear o5 b5 i5 x5 dc1 dc2
      go_wp2_with (first | (refine wpList_box_obj rfl 84 _ rfl [.slice da n dc, .int .i64 4, .int .i64 0, .int .i64 0, .func (.func 33) #[.pointer (some ⟨w2.heap.size, 0, none⟩)] #[]] rfl ?_; intro w6 h6 b6; have H6 := Lib.hid h6; have B6 := Lib.hid b6; clear h6 b6))
      go_ret
      have g1 := G1.out; have g2 := G2.out; have l1 := LT1.out; have l4 := L4.out; have g5 := B5.out.size; have l6 := H6.out.lt; have g6 := B6.out.size; have g4 := B4.out.size
      have b46 := B5.out.trans (B6.out.mono B5.out.size)
      have b06 := Z4.out.trans (b46.mono Z4.out.size)
      have b26 := B4.out.trans (b46.mono B4.out.size)
      have lz : zs.length = n := HL.out
      refine ⟨_, rfl, ⟨w2.heap.size, da, dc, sa, sc, by rw [lz]; exact H6.out, ⟨?_, I2.out.below b26, by rw [HCL.out]; have := HC.out; omega, fun x hx => by have := X2.out x hx; omega⟩, (I5.out.bytes (HB.out.below Z4.out).bytes).below B6.out, by rw [lz]; exact D1.out, D2.out, by rw [lz]; have := HN.out; omega, ?_, fun x hx => by have := X5.out x hx; omega, fun x hx => by have := X2.out x hx; omega, Nat.zero_le _, Nat.le_refl _⟩, b06⟩
      · have : ixN cs 0 = 0 := by unfold ixN; split <;> simp
        rw [this, HCL.out]
        exact H4.out.below b46 L4.out
      · omega
end Go.Proofs.YtbbaleambgaanaaGreatDoor
