/- Elem BlkMath PayMath BlkWw PayMore EtrMath SObj UstHd0 EtrExt0 CellArm HdEq PxrVars -/
import Derived.Test.YtbbaleambgaanaaGreatDoorRows
import Derived.Test.YtbbaleambgaanaaGreatDoorQ4
import Derived.Deep.QuietTactic
import Derived.BigQuiet
import Derived.BigRegion
import Derived.Test.YtbbaleambgaanaaGreatDoorQ3
import Derived.Test.YtbbaleambgaanaaGreatDoorQ2
import Derived.Test.YtbbaleambgaanaaGreatDoorQ1
import Derived.Lib.LaidTab
import Derived.ChangeArms
import Derived.Stop.LaidErr
import Derived.MakeChecks
namespace Go.Proofs.YtbbaleambgaanaaGreatDoor
open Go.RowKit
theorem u8T : ElemT Tryz.prog 5 .u8 1 := elemT (by kernel_rfl)
theorem i64T : ElemT Tryz.prog 3 .i64 8 := elemT (by kernel_rfl)
def chunkZ (cs : List Int) (r : Nat) : Int := if cs.length = 0 then 1048576 else max (cs.getD (r % cs.length) 0) 1
theorem chunkZ_pos (cs : List Int) (r : Nat) : 1 ≤ chunkZ cs r := by unfold chunkZ; split <;> omega
def ixN (cs : List Int) (r : Nat) : Nat := if cs.length = 0 then 0 else r % cs.length
end Go.Proofs.YtbbaleambgaanaaGreatDoor
namespace Go.Proofs.YtbbaleambgaanaaGreatDoor
def nxB (Z : List Int) (o : Nat) (err : Int) : List Int := if err = 0 ∧ o + 512 ≤ Z.length then (Z.drop o).take 512 else []
def nxE (Z : List Int) (E : Int) (o : Nat) (err : Int) : Int := if err ≠ 0 then err else if o + 512 ≤ Z.length then 0 else if E = 4 ∧ o < Z.length then 5 else E
def nxO (Z : List Int) (o : Nat) (err : Int) : Nat := if err ≠ 0 then o else if o + 512 ≤ Z.length then o + 512 else Z.length
theorem nx_err {Z : List Int} {E : Int} {o : Nat} {err : Int} (h : err ≠ 0) : nxB Z o err = [] ∧ nxE Z E o err = err ∧ nxO Z o err = o := by
  unfold nxB nxE nxO
  rw [if_neg (fun h' => h h'.1), if_pos h, if_pos h]
  exact ⟨rfl, rfl, rfl⟩
theorem nx_go {Z : List Int} {E : Int} {o : Nat} (h : o + 512 ≤ Z.length) : nxB Z o 0 = (Z.drop o).take 512 ∧ nxE Z E o 0 = 0 ∧ nxO Z o 0 = o + 512 := by
  unfold nxB nxE nxO
  rw [if_pos ⟨rfl, h⟩, if_neg (c := (0 : Int) ≠ 0) (fun h => h rfl), if_pos h, if_neg (c := (0 : Int) ≠ 0) (fun h => h rfl), if_pos h]
  exact ⟨rfl, rfl, rfl⟩
theorem nx_stop {Z : List Int} {E : Int} {o : Nat} (h : ¬ o + 512 ≤ Z.length) : nxB Z o 0 = [] ∧ nxE Z E o 0 = (if E = 4 ∧ o < Z.length then 5 else E) ∧ nxO Z o 0 = Z.length := by
  unfold nxB nxE nxO
  rw [if_neg (fun h' => h h'.2), if_neg (c := (0 : Int) ≠ 0) (fun h => h rfl), if_neg h, if_neg (c := (0 : Int) ≠ 0) (fun h => h rfl), if_neg h]
  exact ⟨rfl, rfl, rfl⟩
end Go.Proofs.YtbbaleambgaanaaGreatDoor
namespace Go.Proofs.YtbbaleambgaanaaGreatDoor
def blkN (s : Nat) : Nat := (s + 511) / 512
theorem blkN_le (s : Nat) : s ≤ 512 * blkN s := by unfold blkN; omega
theorem blkN_lt (s : Nat) : 512 * blkN s < s + 512 := by unfold blkN; omega
theorem blkN_bd {s : Nat} (h : s ≤ 1099511627776) : blkN s ≤ 2147483648 := by unfold blkN; omega
def pyOk (Z : List Int) (o : Nat) (err : Int) (n : Nat) : Prop := n = 0 ∨ (err = 0 ∧ o + 512 * n ≤ Z.length)
instance (Z : List Int) (o : Nat) (err : Int) (n : Nat) : Decidable (pyOk Z o err n) := by unfold pyOk; infer_instance
def pyE (Z : List Int) (E : Int) (o : Nat) (err : Int) (n : Nat) : Int := if pyOk Z o err n then 0 else if err ≠ 0 then err else if E = 4 ∧ (Z.length - o) % 512 ≠ 0 then 5 else E
def pyO (Z : List Int) (o : Nat) (err : Int) (n : Nat) : Nat := if pyOk Z o err n then o + 512 * n else if err ≠ 0 then o else Z.length
def pyS (Z : List Int) (E : Int) (o : Nat) (err : Int) (n : Nat) : Int := if pyOk Z o err n then err else pyE Z E o err n
def pyB (Z : List Int) (o : Nat) (err : Int) (n : Nat) : List Int := if pyOk Z o err n then (Z.drop o).take (512 * n) else []
theorem py_ok {Z : List Int} {E : Int} {o n : Nat} {err : Int} (h : pyOk Z o err n) : pyE Z E o err n = 0 ∧ pyO Z o err n = o + 512 * n ∧ pyS Z E o err n = err ∧ pyB Z o err n = (Z.drop o).take (512 * n) := by
  unfold pyE pyO pyS pyB; rw [if_pos h, if_pos h, if_pos h, if_pos h]; exact ⟨rfl, rfl, rfl, rfl⟩
theorem py_err {Z : List Int} {E : Int} {o n : Nat} {err : Int} (he : err ≠ 0) (hn : 0 < n) : pyE Z E o err n = err ∧ pyO Z o err n = o ∧ pyS Z E o err n = err ∧ pyB Z o err n = [] := by
  have h : ¬ pyOk Z o err n := fun h => h.elim (fun h => by omega) (fun h => he h.1)
  have e : pyE Z E o err n = err := by unfold pyE; rw [if_neg h, if_pos he]
  unfold pyS; rw [e]
  unfold pyO pyB; rw [if_neg h, if_neg h, if_neg h, if_pos he]; exact ⟨rfl, rfl, rfl, rfl⟩
theorem py_stop {Z : List Int} {E : Int} {o n j : Nat} (h1 : o + 512 * j ≤ Z.length) (h2 : ¬ o + 512 * j + 512 ≤ Z.length) (hj : j < n) :
    pyE Z E o 0 n = nxE Z E (o + 512 * j) 0 ∧ pyO Z o 0 n = nxO Z (o + 512 * j) 0 ∧ pyS Z E o 0 n = nxE Z E (o + 512 * j) 0 ∧ pyB Z o 0 n = [] := by
  have h : ¬ pyOk Z o 0 n := fun h => h.elim (fun h => by omega) (fun h => by omega)
  obtain ⟨_, g2, g3⟩ := nx_stop (E := E) h2
  have e : pyE Z E o 0 n = nxE Z E (o + 512 * j) 0 := by
    rw [g2]; unfold pyE; rw [if_neg h, if_neg (c := (0 : Int) ≠ 0) (fun h => h rfl)]
    by_cases e4 : E = 4 ∧ o + 512 * j < Z.length
    · rw [if_pos e4, if_pos ⟨e4.1, by omega⟩]
    · rw [if_neg e4, if_neg (fun h => e4 ⟨h.1, by omega⟩)]
  unfold pyS; rw [e, g3]
  unfold pyO pyB; rw [if_neg h, if_neg h, if_neg h, if_neg (c := (0 : Int) ≠ 0) (fun h => h rfl)]; exact ⟨rfl, rfl, rfl, rfl⟩
theorem pyE_ne {Z : List Int} {E : Int} {o n : Nat} {err : Int} (hE : E = 11 ∨ E = 4) (h : ¬ pyOk Z o err n) : pyE Z E o err n ≠ 0 := by
  unfold pyE; rw [if_neg h]; split
  · assumption
  · split <;> omega
def nzI (P : List Int) : Nat := P.findIdx (fun z => z != 0)
theorem nzI_le (P : List Int) : nzI P ≤ P.length := List.findIdx_le_length
theorem nzI_lt {P : List Int} (h : nzI P < P.length) : P.getD (nzI P) 0 ≠ 0 := by
  have h' := List.findIdx_getElem (p := fun z => z != 0) (xs := P) (w := h)
  rw [List.getD_eq_getElem?_getD, List.getElem?_eq_getElem h]
  intro h0
  have h1 : P[nzI P] = 0 := h0
  have h2 : (P[nzI P] != 0) = true := h'
  rw [h1] at h2
  exact absurd h2 (by decide)
theorem nzI_zero {P : List Int} {i : Nat} (h : i < nzI P) : P.getD i 0 = 0 := by
  have hl : i < P.length := Nat.lt_of_lt_of_le h (nzI_le P)
  have h' := List.not_of_lt_findIdx (p := fun z => z != 0) (xs := P) h
  rw [List.getD_eq_getElem?_getD, List.getElem?_eq_getElem hl]
  simpa using h'
def szBad (z : Int) : Prop := z < 0 ∨ 1099511627776 < z
instance (z : Int) : Decidable (szBad z) := by unfold szBad; infer_instance
def rdPad (Z : List Int) (o s : Nat) : List Int := ((Z.drop o).take (512 * blkN s)).drop s
def rdE (Z : List Int) (E : Int) (o : Nat) (err z : Int) : Int :=
  if szBad z then 3 else if pyOk Z o err (blkN z.toNat) then (if nzI (rdPad Z o z.toNat) < (rdPad Z o z.toNat).length then 10 else 0) else if pyE Z E o err (blkN z.toNat) = 4 then 5 else pyE Z E o err (blkN z.toNat)
def rdP (Z : List Int) (o : Nat) (err z : Int) : Nat :=
  if szBad z then o else if pyOk Z o err (blkN z.toNat) ∧ nzI (rdPad Z o z.toNat) < (rdPad Z o z.toNat).length then o + (z.toNat + nzI (rdPad Z o z.toNat)) else pyO Z o err (blkN z.toNat)
def rdD (Z : List Int) (o : Nat) (err z : Int) : List Int :=
  if szBad z then [] else if pyOk Z o err (blkN z.toNat) ∧ ¬ nzI (rdPad Z o z.toNat) < (rdPad Z o z.toNat).length then (Z.drop o).take z.toNat else []
def rdO (Z : List Int) (o : Nat) (err z : Int) : Nat := if szBad z then o else pyO Z o err (blkN z.toNat)
def rdS (Z : List Int) (E : Int) (o : Nat) (err z : Int) : Int := if szBad z then err else pyS Z E o err (blkN z.toNat)
theorem rd_bad {Z : List Int} {E : Int} {o : Nat} {err z : Int} (h : szBad z) : rdE Z E o err z = 3 ∧ rdP Z o err z = o ∧ rdD Z o err z = [] ∧ rdO Z o err z = o ∧ rdS Z E o err z = err := by
  unfold rdE rdP rdD rdO rdS; rw [if_pos h, if_pos h, if_pos h, if_pos h, if_pos h]; exact ⟨rfl, rfl, rfl, rfl, rfl⟩
theorem szOk {s : Nat} (h : s ≤ 1099511627776) : ¬ szBad (s : Int) := by unfold szBad; omega
theorem rd_no {Z : List Int} {E : Int} {o : Nat} {err : Int} {s n : Nat} (hs : s ≤ 1099511627776) (hn : n = blkN s) (h : ¬ pyOk Z o err n) : rdE Z E o err s = (if pyE Z E o err n = 4 then 5 else pyE Z E o err n) ∧ rdP Z o err s = pyO Z o err n ∧ rdD Z o err s = [] ∧ rdO Z o err s = pyO Z o err n ∧ rdS Z E o err s = pyS Z E o err n := by
  subst hn
  have hb := szOk hs
  have e : (s : Int).toNat = s := rfl
  have x1 : ¬ (pyOk Z o err (blkN s) ∧ nzI (rdPad Z o s) < (rdPad Z o s).length) := fun h' => h h'.1
  have x2 : ¬ (pyOk Z o err (blkN s) ∧ ¬ nzI (rdPad Z o s) < (rdPad Z o s).length) := fun h' => h h'.1
  unfold rdE rdP rdD rdO rdS
  rw [e, if_neg hb, if_neg hb, if_neg hb, if_neg hb, if_neg hb, if_neg h, if_neg x1, if_neg x2]
  exact ⟨rfl, rfl, rfl, rfl, rfl⟩
theorem rd_pad {Z : List Int} {E : Int} {o : Nat} {err : Int} {s n : Nat} (hs : s ≤ 1099511627776) (hn : n = blkN s) (h : pyOk Z o err n) (hi : nzI (rdPad Z o s) < (rdPad Z o s).length) : rdE Z E o err s = 10 ∧ rdP Z o err s = o + (s + nzI (rdPad Z o s)) ∧ rdD Z o err s = [] ∧ rdO Z o err s = o + 512 * n ∧ rdS Z E o err s = err := by
  subst hn
  have hb := szOk hs
  have e : (s : Int).toNat = s := rfl
  obtain ⟨_, e2, e3, _⟩ := py_ok (E := E) h
  unfold rdE rdP rdD rdO rdS
  rw [e, if_neg hb, if_neg hb, if_neg hb, if_neg hb, if_neg hb, if_pos h, if_pos hi, if_pos ⟨h, hi⟩, if_neg (fun h' => h'.2 hi), e2, e3]
  exact ⟨rfl, rfl, rfl, rfl, rfl⟩
theorem rd_ok {Z : List Int} {E : Int} {o : Nat} {err : Int} {s n : Nat} (hs : s ≤ 1099511627776) (hn : n = blkN s) (h : pyOk Z o err n) (hi : ¬ nzI (rdPad Z o s) < (rdPad Z o s).length) : rdE Z E o err s = 0 ∧ rdP Z o err s = o + 512 * n ∧ rdD Z o err s = (Z.drop o).take s ∧ rdO Z o err s = o + 512 * n ∧ rdS Z E o err s = err := by
  subst hn
  have hb := szOk hs
  have e : (s : Int).toNat = s := rfl
  obtain ⟨_, e2, e3, _⟩ := py_ok (E := E) h
  unfold rdE rdP rdD rdO rdS
  rw [e, if_neg hb, if_neg hb, if_neg hb, if_neg hb, if_neg hb, if_pos h, if_neg hi, if_neg (fun h' => hi h'.2), if_pos ⟨h, hi⟩, e2, e3]
  exact ⟨rfl, rfl, rfl, rfl, rfl⟩
theorem rdD_bytes {Z : List Int} (h : Bytes Z) (o : Nat) (err z : Int) : Bytes (rdD Z o err z) := by
  unfold rdD; split
  · exact fun z hz => by simp at hz
  · split
    · exact (h.drop o).take _
    · exact fun z hz => by simp at hz
theorem rdPad_len {Z : List Int} {o s : Nat} {err : Int} (h : pyOk Z o err (blkN s)) : (rdPad Z o s).length = 512 * blkN s - s ∧ ((Z.drop o).take (512 * blkN s)).length = 512 * blkN s := by
  have hl : ((Z.drop o).take (512 * blkN s)).length = 512 * blkN s := by
    rw [List.length_take, List.length_drop]
    rcases h with h | h
    · rw [h]; omega
    · omega
  unfold rdPad
  rw [List.length_drop, hl]
  exact ⟨rfl, rfl⟩
end Go.Proofs.YtbbaleambgaanaaGreatDoor
namespace Go.Proofs.YtbbaleambgaanaaGreatDoor
def padN (o : Nat) : Nat := (512 - o % 512) % 512
end Go.Proofs.YtbbaleambgaanaaGreatDoor
namespace Go.Proofs.YtbbaleambgaanaaGreatDoor
theorem padN_blk (n : Nat) : n + padN n = 512 * blkN n := by unfold padN blkN; omega
end Go.Proofs.YtbbaleambgaanaaGreatDoor
namespace Go.Proofs.YtbbaleambgaanaaGreatDoor.Etr
open Go.Lib Go.RowKit Go.Proofs.YtbbaleambgaanaaGreatDoor.Fit Pxr Pnm
def ez : Ent := ⟨0, emp, 0, emp, 0⟩
abbrev kPax : ByteArray := { data := #[112, 97, 120] }
def hdB (h : Hd) : List Int := Ust.encH h.T h.nm h.pf h.lk h.md h.sz
def ckD (h : Hd) : Int := Ust.ckH h.T h.nm h.pf h.lk h.md h.sz
def hX (n : Nat) : Hd := ⟨120, kPax, emp, emp, 0, n⟩
def padR (l : List Int) : List Int := l ++ zeros (padN l.length)
def enL (e : Ent) : List Int := if (plL e).length = 0 then [] else hdB (hX (fmB (plL e)).length) ++ padR (fmB (plL e))
def enZ (e : Ent) : List Int := if ckE e ≠ 0 then [] else enL e ++ hdB (plH e)
structure DR where
  x : Ent
  p : Nat
  e : Int
  o : Nat
  s : Int
def hdOf (B : List Int) : Hd := ⟨Ust.dT B, Ust.dNm B, Ust.dPf B, Ust.dLk B, Ust.dMd B, Ust.dSz B⟩
def paxOk (h : Hd) : Prop := h.nm = kPax ∧ h.pf = emp ∧ h.lk = emp ∧ h.md = 0 ∧ 1 ≤ h.sz ∧ h.sz ≤ 262144
def zeroB (B : List Int) : Prop := ∀ z ∈ B, z = 0
open Classical in
noncomputable def mgD (h : Hd) (rs : List Rec) (o last o' : Nat) : DR := if mgOk h rs then ⟨cmpE h rs, o, 0, o', 0⟩ else ⟨ez, last, if rs.length = 0 then 6 else 17, o', 0⟩
noncomputable def dc4 (Z : List Int) (o : Nat) (rs : List Rec) (o2 : Nat) : DR :=
  if Ust.deE ((Z.drop o2).take 512) ≠ 0 then ⟨ez, o2, Ust.deE ((Z.drop o2).take 512), o2 + 512, 0⟩ else mgD (hdOf ((Z.drop o2).take 512)) rs o o2 (o2 + 512)
noncomputable def dc3 (Z : List Int) (E : Int) (o : Nat) (P : List Rec × Nat × Int) (o2 : Nat) : DR :=
  if P.2.2 ≠ 0 then ⟨ez, o + 512 + P.2.1, P.2.2, o2, 0⟩ else if nxE Z E o2 0 ≠ 0 then ⟨ez, nxO Z o2 0, if nxE Z E o2 0 = 4 then 5 else nxE Z E o2 0, nxO Z o2 0, nxE Z E o2 0⟩ else dc4 Z o P.1 o2
open Classical in
noncomputable def dc2 (Z : List Int) (E : Int) (o : Nat) (h : Hd) : DR :=
  if ¬ paxOk h then ⟨ez, o, 17, o + 512, 0⟩ else if rdE Z E (o + 512) 0 h.sz ≠ 0 then ⟨ez, rdP Z (o + 512) 0 h.sz, rdE Z E (o + 512) 0 h.sz, rdO Z (o + 512) 0 h.sz, rdS Z E (o + 512) 0 h.sz⟩
    else dc3 Z E o (parZ (rdD Z (o + 512) 0 h.sz)) (rdO Z (o + 512) 0 h.sz)
open Classical in
noncomputable def dc1 (Z : List Int) (E : Int) (o : Nat) (B : List Int) : DR :=
  if zeroB B then ⟨ez, o, 18, o + 512, 0⟩ else if Ust.deE B ≠ 0 then ⟨ez, o, Ust.deE B, o + 512, 0⟩ else if Ust.dT B = 120 then dc2 Z E o (hdOf B) else mgD (hdOf B) [] o o (o + 512)
noncomputable def dcd (Z : List Int) (E : Int) (o : Nat) (err : Int) : DR :=
  if nxE Z E o err ≠ 0 then ⟨ez, nxO Z o err, nxE Z E o err, nxO Z o err, nxE Z E o err⟩ else dc1 Z E o ((Z.drop o).take 512)
theorem hX_ck {n : Nat} (h : n ≤ 8589934591) : ckD (hX n) = 0 := by
  refine Ust.ckH_zero.2 ⟨.inr (.inr (.inr (.inr rfl))), ?_, ?_, ?_, ⟨Int.le_refl _, by show (0 : Int) ≤ 4095; decide⟩, ?_⟩
  · show Cst.ceF (numsOf kPax) 100 = 0; decide
  · show Cst.ceF (numsOf emp) 100 = 0; decide
  · show Cst.ceF (numsOf emp) 155 = 0; decide
  · show 0 ≤ (n : Int) ∧ (n : Int) ≤ 8589934591; omega
theorem hd_dec {h : Hd} (hc : ckD h = 0) : Ust.deE (hdB h) = 0 ∧ hdOf (hdB h) = h ∧ (hdB h).length = 512 ∧ ¬ zeroB (hdB h) ∧ Bytes (hdB h) ∧ Ust.known h.T := by
  obtain ⟨a0, a1, a2, a3, a4, a5, a6⟩ := Ust.dec_enc hc
  have hk := (Ust.ckH_zero.1 hc).1
  have hl : (hdB h).length = 512 := Ust.enc_length hc
  refine ⟨a0, ?_, hl, ?_, Ust.enc_bytes (Ust.known_byte hk) _ _ _ _ _, hk⟩
  · show Hd.mk (Ust.dT _) (Ust.dNm _) (Ust.dPf _) (Ust.dLk _) (Ust.dMd _) (Ust.dSz _) = h
    unfold hdB; rw [a1, a2, a3, a4, a5, a6]
  · intro hz
    have h1 : (hdB h).getD 156 0 = h.T := a1
    have h2 := hz _ (List.getElem_mem (l := hdB h) (n := 156) (by omega))
    rw [List.getD_eq_getElem?_getD, List.getElem?_eq_getElem (by omega)] at h1
    have h3 : h.T = 0 := h1.symm.trans h2
    unfold Ust.known at hk; omega
theorem pl_ck {e : Ent} (h : ckE e = 0) : ckD (plH e) = 0 := (pl_hd (ck_ok.1 h)).2.2.2
theorem fm_len {e : Ent} (h : ckE e = 0) : (fmB (plL e)).length ≤ 196665 := by
  have := fmB_le (pl_good (ck_ok.1 h)) (plL e).length
  rw [List.take_length] at this
  exact this
theorem en_pos (r : Rec) : 1 ≤ (enR r).length := by unfold enR; simp only [List.length_append, List.length_singleton]; omega
theorem fm_pos : ∀ {l : List Rec}, l.length ≠ 0 → 1 ≤ (fmB l).length
  | [], h => absurd rfl h
  | r :: l, _ => by rw [fmB_cons, List.length_append]; have := en_pos r; omega
theorem padR_len (l : List Int) : (padR l).length = 512 * blkN l.length := by unfold padR; rw [List.length_append, zeros_length]; exact padN_blk _
theorem en_len {e : Ent} (h : ckE e = 0) : (enZ e).length = (enL e).length + 512 ∧ (enL e).length = if (plL e).length = 0 then 0 else 512 + 512 * blkN (fmB (plL e)).length := by
  constructor
  · unfold enZ; rw [if_neg (by simpa using h), List.length_append, (hd_dec (pl_ck h)).2.2.1]
  · unfold enL
    split
    · rfl
    · rw [List.length_append, padR_len, (hd_dec (hX_ck (by have := fm_len h; omega))).2.2.1]
theorem fm_bytes (rs : List Rec) : Bytes (fmB rs) := by
  intro z hz
  unfold fmB at hz
  obtain ⟨l, hl, hz⟩ := List.mem_flatten.1 hz
  obtain ⟨r, _, rfl⟩ := List.mem_map.1 hl
  unfold enR at hz
  simp only [List.mem_append, List.mem_singleton] at hz
  have hd : ∀ z ∈ decD (szR r), 0 ≤ z ∧ z ≤ 255 := fun z hz => by
    have := (List.all_eq_true.1 (decD_digs (szR r))) z hz
    rw [digB_iff] at this
    omega
  rcases hz with ((((hz | rfl) | hz) | rfl) | hz) | rfl
  · exact hd z hz
  · decide
  · exact numsOf_bd _ z hz
  · decide
  · exact numsOf_bd _ z hz
  · decide
theorem en_bytes (e : Ent) : Bytes (enZ e) := by
  unfold enZ
  split
  · exact fun z hz => by simp at hz
  · rename_i h
    have h : ckE e = 0 := Decidable.byContradiction h
    refine Bytes.append ?_ (hd_dec (pl_ck h)).2.2.2.2.1
    unfold enL
    split
    · exact fun z hz => by simp at hz
    · exact (hd_dec (hX_ck (by have := fm_len h; omega))).2.2.2.2.1.append ((fm_bytes _).append (zeros_bytes _))
theorem paxOk_hX {n : Nat} (h1 : 1 ≤ n) (h2 : n ≤ 262144) : paxOk (hX n) := ⟨rfl, rfl, rfl, rfl, by show 1 ≤ (n : Int); omega, by show (n : Int) ≤ 262144; omega⟩
end Go.Proofs.YtbbaleambgaanaaGreatDoor.Etr
namespace Go.Proofs.YtbbaleambgaanaaGreatDoor
open Go.RowKit
def ObjT (P : Program) (T : TypeId) (n : Nat) : Prop := (∃ fs, P.underlying T = some (.struct fs)) ∧ (P.info? T).map (·.size) = some n
section
variable {P : Program} {w : World} {ops : Array Oper} {rest : List Oper} {o : Oper} {a : Act} {Q : Exit → Act → World → Prop}
theorem wpList_load_obj (hgd : o.guard = none) (T : TypeId) (n : Nat) (hT : ObjT P T n) (x : Operand) (ho : o.op = .load T x) (g : Nat) (hx : a.eval x = .pointer (some ⟨g, 0, none⟩))
    (T' : TypeId) (vs : List Value) (hg : ObjAt w g T' vs) (hl : vs.length = n) (K : wpList P ops Q rest (a.put o.dst (.agg vs.toArray)) w) : wpList P ops Q (o :: rest) a w := by
  obtain ⟨⟨fs, h1⟩, h2⟩ := hT
  exact wpList_load_row hgd T x ho g hx T' vs.toArray (0, 0) (.struct fs) hg h1 rfl (by rw [h2]; simp [hl]) K
theorem run_load_obj {T : TypeId} {n : Nat} (hT : ObjT P T n) (g : Nat) (T' : TypeId) (vs : List Value) (hg : ObjAt w g T' vs) (hl : vs.length = n) : (loadVar T ⟨g, 0, none⟩).run P w = .ok (.agg vs.toArray) w := by
  obtain ⟨⟨fs, h1⟩, h2⟩ := hT
  exact run_loadVar_row w g T' T vs.toArray (0, 0) (.struct fs) hg h1 rfl (by rw [h2]; simp [hl])
theorem results_obj_tmp {fn : Func} {p q : Tmp} {T : TypeId} {n : Nat} (h : fn.results = #[.cell p T, .tmp q]) (hT : ObjT P T n) (tmps : Array Value) (g : Nat) (hp : tmps.getD p undef = .pointer (some ⟨g, 0, none⟩))
    (T' : TypeId) (vs : List Value) (hg : ObjAt w g T' vs) (hl : vs.length = n) : (results fn tmps).run P w = .ok (.tuple #[.agg vs.toArray, tmps.getD q undef]) w := by
  have hp' : tmps[p]?.getD undef = .pointer (some ⟨g, 0, none⟩) := by simpa using hp
  simp [results, h, hp', asAddr, run_load_obj hT g T' vs hg hl]
theorem results_obj {fn : Func} {p : Tmp} {T : TypeId} {n : Nat} (h : fn.results = #[.cell p T]) (hT : ObjT P T n) (tmps : Array Value) (g : Nat) (hp : tmps.getD p undef = .pointer (some ⟨g, 0, none⟩))
    (T' : TypeId) (vs : List Value) (hg : ObjAt w g T' vs) (hl : vs.length = n) : (results fn tmps).run P w = .ok (.agg vs.toArray) w := by
  have hp' : tmps[p]?.getD undef = .pointer (some ⟨g, 0, none⟩) := by simpa using hp
  simp [results, h, hp', asAddr, run_load_obj hT g T' vs hg hl]
end
end Go.Proofs.YtbbaleambgaanaaGreatDoor
namespace Go.Proofs.YtbbaleambgaanaaGreatDoor.Ust
open Oct Cst Chk
abbrev hd0 : List Go.Value := hdV 0 { data := #[] } { data := #[] } { data := #[] } 0 0
end Go.Proofs.YtbbaleambgaanaaGreatDoor.Ust
namespace Go.Proofs.YtbbaleambgaanaaGreatDoor.Etr
open Go.RowKit Go.Proofs.YtbbaleambgaanaaGreatDoor.Fit Pxr Pnm
theorem hdTq : ObjT Tryz.prog 56 6 := ⟨⟨_, Tryz.underlying56⟩, by kernel_rfl⟩
theorem zHq : (Tryz.prog.info? 56).map (·.zero) = some (some (.agg (Ust.hd0).toArray)) := by kernel_rfl
theorem hd1 (T : Int) (a b c : ByteArray) (m z : Int) : ∀ v ∈ Ust.hdV T a b c m z, v.oneCell' = true := by simp [Value.oneCell']
theorem ext_any (z : Int) (w : World) : Calls Tryz.prog 58 #[.int .i64 z] w fun e w' => e = .returned (.agg (Ust.hdV 120 kPax emp emp 0 z).toArray) ∧ Below w.heap.size w w' := by
  have HO := Lib.hid hdTq; have HZ := Lib.hid zHq
  go_enter Tryz.func58, Tryz.ntmps58
  go_wp2_with (first | (refine wpList_alloc_obj rfl 56 rfl Ust.hd0 HZ.out ?_; intro w1 h1 b1; have G1 := Lib.hid h1; have B1 := Lib.hid b1; clear h1 b1) | (refine wpList_store_obj rfl 56 _ _ rfl w.heap.size rfl (Ust.hdV 120 kPax emp emp 0 z) Ust.hd0 rfl 56 G1.out HO.out.2 rfl (hd1 _ _ _ _ _ _) ?_; intro w2 g2 t2; have G2 := Lib.hid g2; have T2 := Lib.hid t2; clear g2 t2))
  exact bodyPost_ret (results_obj Tryz.results58 HO.out _ w.heap.size rfl _ (Ust.hdV 120 kPax emp emp 0 z) G2.out rfl) rfl ⟨rfl, B1.out.trans (T2.out.below (Nat.le_refl _))⟩
end Go.Proofs.YtbbaleambgaanaaGreatDoor.Etr
namespace Go.Proofs.YtbbaleambgaanaaGreatDoor
open Go.RowKit
structure TurnB (w w' : World) (g : Nat) : Prop where
  below : ∀ {B : Nat}, B ≤ g → Below B w w'
  other : ∀ {k : Nat}, k ≠ g → w'.heap[k]? = w.heap[k]?
  size : w'.heap.size = w.heap.size
theorem ObjAt.turnB {w w' : World} {g k : Nat} {T : TypeId} {vs : List Value} (h : ObjAt w k T vs) (t : TurnB w w' g) (hk : k ≠ g) : ObjAt w' k T vs := (t.other hk).trans h
theorem own_turnB {w w' : World} {base n size g : Nat} {e : TypeId} {v : Value} {xs : List Value} (h : w.ownsRow base e size v n xs) (t : TurnB w w' g) (hb : g < base) : w'.ownsRow base e size v n xs := by
  obtain ⟨h1, h2⟩ := h
  refine ⟨h1, ?_⟩
  rcases h2 with h2 | ⟨g', cap', cur, hv, hb', hh, r⟩
  · exact Or.inl h2
  · exact Or.inr ⟨g', cap', cur, hv, hb', by rw [t.other (by omega)]; exact hh, r⟩
section
variable {P : Program} {w : World} {ops : Array Oper} {rest : List Oper} {o : Oper} {a : Act} {Q : Exit → Act → World → Prop}
theorem wpList_store_cell (hgd : o.guard = none) (T : TypeId) (x y : Operand) (ho : o.op = .store T x y) (g i : Nat) (hx : a.eval x = .pointer (some ⟨g, i, none⟩))
    (v : Value) (hy : a.eval y = v) (h1 : v.oneCell' = true) (hs : (P.info? T).map (·.size) = some 1) (T' : TypeId) (vs : List Value) (hg : ObjAt w g T' vs) (hi : i < vs.length)
    (K : ∀ w', ObjAt w' g T' (vs.set i v) → TurnB w w' g → wpList P ops Q rest (a.put o.dst undef) w') : wpList P ops Q (o :: rest) a w := by
  refine wpList_plain hgd fun K' hK => ?_
  have hc : w.cell? ⟨g, i, none⟩ = some vs[i] := hg.get i (List.getElem?_eq_getElem hi)
  have hf := hg.frozen i
  have hv : v.cells = #[v] := by cases v <;> first | rfl | (simp [Value.oneCell'] at h1)
  cases hq : P.info? T with
  | none => simp [hq] at hs
  | some j =>
    have hj : j.size = 1 := by simpa [hq] using hs
    have ha : (⟨g, i, none⟩ : Addr).add 0 = ⟨g, i, none⟩ := add_plain' g i 0
    have hrun : (storeVar T ⟨g, i, none⟩ v).run P w = .ok () (w.setCell ⟨g, i, none⟩ v) := by
      simp [storeVar, sizeOf, typeInfo, hq, hj, hv, storeCells, run_store P w _ v _ h1, ha, hc, hf]
    unfold Oper.wp execOp
    simp only [ho, hx, hy, Instr.storeAt, Instr.sureAddr, Sem.run_bind, Sem.run_pure, Result.andThen_ok, hrun]
    exact hK _ _ (K _ (hg.set i v) ⟨fun hB => (Below.refl _ _).setCell hB v, fun hk => Below.heap_setCell _ _ _ _ hk, by simp [World.setCell]⟩)
end
end Go.Proofs.YtbbaleambgaanaaGreatDoor
namespace Go.Proofs.YtbbaleambgaanaaGreatDoor.Ust
open Go.RowKit
def hdFs : Array Field := #[{ name := "Type", type := 5, offset := 0, embedded := false, tag := "", pkgPath := "", byteOffset := 0 }, { name := "Name", type := 9, offset := 1, embedded := false, tag := "", pkgPath := "", byteOffset := 8 },
  { name := "Prefix", type := 9, offset := 2, embedded := false, tag := "", pkgPath := "", byteOffset := 24 }, { name := "Linkname", type := 9, offset := 3, embedded := false, tag := "", pkgPath := "", byteOffset := 40 },
  { name := "Mode", type := 3, offset := 4, embedded := false, tag := "", pkgPath := "", byteOffset := 56 }, { name := "Size", type := 2, offset := 5, embedded := false, tag := "", pkgPath := "", byteOffset := 64 }]
theorem bytes_ne {s t : ByteArray} (h : ¬ s = t) : (s.toList == t.toList) = false := by
  rw [beq_eq_false_iff_ne]
  exact fun e => h (by
    apply ByteArray.ext
    apply Array.ext'
    rw [ByteArray.toList_eq, ByteArray.toList_eq] at e
    exact e)
theorem run_eqH (t : TypeId) (ht : Tryz.prog.underlying t = some (.struct hdFs)) (hp : Tryz.prog.stoodInHeld t = false) (T : Int) (nm pf lk : ByteArray) (md sz : Int) (T' : Int) (nm' pf' lk' : ByteArray) (md' sz' : Int) (w : World) :
    (Op.equalIn 10000 t (.agg (hdV T nm pf lk md sz).toArray) (.agg (hdV T' nm' pf' lk' md' sz').toArray)).run Tryz.prog w = .ok (decide (T = T' ∧ nm = nm' ∧ pf = pf' ∧ lk = lk' ∧ md = md' ∧ sz = sz')) w := by
  have hf : Tryz.prog.fieldsOf t = hdFs := by unfold Program.fieldsOf; rw [ht]
  rw [run_equalIn_struct w 9999 t _ _ (by rw [hf]; exact ht) hp, hf]
  have u5 := Tryz.underlying5
  have u9 := Tryz.underlying9
  have u3 := Tryz.underlying3
  have u2 := Tryz.underlying2
  by_cases h1 : T = T'
  · subst h1
    by_cases h2 : nm = nm'
    · subst h2
      by_cases h3 : pf = pf'
      · subst h3
        by_cases h4 : lk = lk'
        · subst h4
          by_cases h5 : md = md'
          · subst h5
            by_cases h6 : sz = sz'
            · subst h6; simp [hdFs, Op.eqFields, part, isAgg, u5, u9, u3, u2, go_sem]
            · simp [hdFs, Op.eqFields, part, isAgg, u5, u9, u3, u2, h6, go_sem]
          · simp [hdFs, Op.eqFields, part, isAgg, u5, u9, u3, u2, h5, go_sem]
        · have := bytes_ne h4
          simp [hdFs, Op.eqFields, part, isAgg, u5, u9, u3, u2, h4, this, go_sem]
      · have := bytes_ne h3
        simp [hdFs, Op.eqFields, part, isAgg, u5, u9, u3, u2, h3, this, go_sem]
    · have := bytes_ne h2
      simp [hdFs, Op.eqFields, part, isAgg, u5, u9, u3, u2, h2, this, go_sem]
  · simp [hdFs, Op.eqFields, part, isAgg, u5, u9, u3, u2, h1, go_sem]
end Go.Proofs.YtbbaleambgaanaaGreatDoor.Ust
namespace Go.Proofs.YtbbaleambgaanaaGreatDoor.Pxr
open Go.RowKit
theorem cells_of_strs {H : Type} {enc : TypeId × Value → H} {P : Program} {w : World} {base : Nat} {sp : Nat → Bool} {held : Bool} {fuel : Nat} {t e : TypeId} {n : Nat} {cs : List Value} {zs : List (List UInt8)} {p : List MemPlace}
    (ht : P.underlying t = some (.array n e)) (he : P.underlying e = some .string) (hce : P.cellsOf e = 1) (hct : P.cellsOf t = n)
    (h : DataW.trod enc P w base sp held fuel t cs = some (.agg (zs.map fun z => .lit (.string z)), p)) : cs = zs.map fun z => Value.string ⟨z.toArray⟩ := by
  cases fuel with
  | zero => simp [DataW.trod] at h
  | succ fuel =>
    simp only [DataW.trod, ht, hce, hct, Nat.mul_one] at h
    split at h
    · rename_i hl
      obtain ⟨xs, hm, hx⟩ := Option.map_eq_some_iff.1 h
      have hxs : xs.map (·.1) = zs.map fun z => (DataW.lit (.string z) : DataW H) := by
        have := congrArg Prod.fst hx
        simpa using this
      have hxl : xs.length = n := by simpa using Lib.mapM_length hm
      have hzl : zs.length = n := by
        have := congrArg List.length hxs
        simp at this
        omega
      apply List.ext_getElem?
      intro i
      by_cases hi : i < n
      · obtain ⟨b, hb, hf⟩ := Lib.mapM_at hm i i (by simp [hi])
        obtain ⟨z, hc, rfl, _⟩ := DataW.trod_string he hf
        have h1 : cs[i]? = some (.string z) := by
          have := congrArg (·[0]?) hc
          simpa [List.getElem?_take, List.getElem?_drop] using this
        have h2 : (xs.map (·.1))[i]? = some (DataW.lit (.string z.data.toList) : DataW H) := by simp [hb]
        rw [hxs] at h2
        simp only [List.getElem?_map, Option.map_eq_some_iff, DataW.lit.injEq, Lit.string.injEq] at h2
        obtain ⟨z', hz', e⟩ := h2
        subst e
        simp [h1, hz']
      · rw [List.getElem?_eq_none (by omega), List.getElem?_eq_none (by simp; omega)]
    · cases h
structure Vars (w : World) : Prop where
  tab : Lib.TabIs Tryz.prog w "internal/strconv.uint64pow10" .u64 Lib.pow10Tab
  k0 : w.cell? ⟨1, 0, none⟩ = some (.string kLink)
  k1 : w.cell? ⟨1, 1, none⟩ = some (.string kPath)
  k2 : w.cell? ⟨1, 2, none⟩ = some (.string kSize)
theorem cell_lt {w : World} {b o : Nat} {v : Value} (h : w.cell? ⟨b, o, none⟩ = some v) : b < w.heap.size := by
  rcases Nat.lt_or_ge b w.heap.size with h' | h'
  · exact h'
  · rw [World.cell?] at h
    simp [Array.getElem?_eq_none h'] at h
theorem tab_lt {w : World} (h : Lib.TabIs Tryz.prog w "internal/strconv.uint64pow10" .u64 Lib.pow10Tab) : 2 < w.heap.size := by
  unfold Lib.TabIs World.var? at h
  rw [show Tryz.prog.globalNamed "internal/strconv.uint64pow10" = some 2 by kernel_rfl] at h
  rcases Nat.lt_or_ge 2 w.heap.size with h' | h'
  · exact h'
  · simp [Array.getElem?_eq_none h'] at h
theorem Vars.below {w w' : World} {B : Nat} (h : Vars w) (hb : Below B w w') (hB : w.heap.size ≤ B) : Vars w' := by
  have l0 := cell_lt h.k0
  have lt := tab_lt h.tab
  have l1 : 1 < B := Nat.lt_of_lt_of_le l0 hB
  refine ⟨?_, (hb.cell (p := ⟨1, 0, none⟩) l1).trans h.k0, (hb.cell (p := ⟨1, 1, none⟩) l1).trans h.k1, (hb.cell (p := ⟨1, 2, none⟩) l1).trans h.k2⟩
  have ht := h.tab
  unfold Lib.TabIs World.var? at ht ⊢
  rw [show Tryz.prog.globalNamed "internal/strconv.uint64pow10" = some 2 by kernel_rfl] at ht ⊢
  rw [← ht]
  simp only [Option.bind_some]
  rw [hb.block 2 (by omega)]
theorem Vars.go {w w' : World} (h : Vars w) (hb : Below w.heap.size w w') : Vars w' := h.below hb (Nat.le_refl _)
end Go.Proofs.YtbbaleambgaanaaGreatDoor.Pxr
