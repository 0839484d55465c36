/-
  The arithmetic of layer 7: the block of a header, what Check, Encode and Decode answer. No memory.
-/
import Derived.Test.YtokjmehecfjhmaaDoorChkMath
import Derived.Test.YtokjmehecfjhmaaDoorCstMath
namespace Go.Proofs.YtokjmehecfjhmaaDoor.Ust
open Oct Cst Chk

/-- a header as a value -/
abbrev hdV (T : Int) (nm pf lk : ByteArray) (md sz : Int) : List Go.Value := [.int .u8 T, .string nm, .string pf, .string lk, .int .i64 md, .int .i64 sz]

def known (T : Int) : Prop := T = 48 ∨ T = 49 ∨ T = 50 ∨ T = 53 ∨ T = 120
instance (T : Int) : Decidable (known T) := by unfold known; infer_instance

/-- the error of Check -/
def ckH (T : Int) (nm pf lk : ByteArray) (md sz : Int) : Int :=
  if ¬ known T then 8 else if ceF (numsOf nm) 100 ≠ 0 then ceF (numsOf nm) 100 else if ceF (numsOf lk) 100 ≠ 0 then ceF (numsOf lk) 100 else if ceF (numsOf pf) 155 ≠ 0 then ceF (numsOf pf) 155 else
    if md < 0 ∨ 4095 < md then 16 else if sz < 0 ∨ 8589934591 < sz then 3 else 0

theorem ckH_zero {T : Int} {nm pf lk : ByteArray} {md sz : Int} : ckH T nm pf lk md sz = 0 ↔ known T ∧ ceF (numsOf nm) 100 = 0 ∧ ceF (numsOf lk) 100 = 0 ∧ ceF (numsOf pf) 155 = 0 ∧ (0 ≤ md ∧ md ≤ 4095) ∧ (0 ≤ sz ∧ sz ≤ 8589934591) := by
  unfold ckH
  constructor
  · intro h
    split at h
    · cases h
    · split at h
      · contradiction
      · split at h
        · contradiction
        · split at h
          · contradiction
          · split at h
            · cases h
            · split at h
              · cases h
              · refine ⟨?_, ?_, ?_, ?_, ?_, ?_⟩ <;> first | omega | (apply Decidable.byContradiction; assumption)
  · rintro ⟨h1, h2, h3, h4, h5, h6⟩
    rw [if_neg (by simpa using h1), if_neg (by simpa using h2), if_neg (by simpa using h3), if_neg (by simpa using h4), if_neg (by omega), if_neg (by omega)]

/-- what stands ahead of the checksum, and behind it -/
def headA (nm : List Int) (md sz : Int) : List Int := fldS nm 100 ++ (fld 7 md ++ (fld 7 0 ++ (fld 7 0 ++ (fld 11 sz ++ fld 11 0))))
def magic : List Int := [117, 115, 116, 97, 114, 0, 48, 48]
def tailB (T : Int) (pf lk : List Int) : List Int := [T] ++ (fldS lk 100 ++ (magic ++ (zeros 32 ++ (zeros 32 ++ (fld 7 0 ++ (fld 7 0 ++ (fldS pf 155 ++ zeros 12)))))))
/-- the block, blanks in the place of the checksum -/
def rawH (T : Int) (nm pf lk : ByteArray) (md sz : Int) : List Int := headA (numsOf nm) md sz ++ (sp8 ++ tailB T (numsOf pf) (numsOf lk))
def encH (T : Int) (nm pf lk : ByteArray) (md sz : Int) : List Int := sealZ (rawH T nm pf lk md sz)

theorem headA_length {nm : List Int} {md sz : Int} (h : nm.length ≤ 100) : (headA nm md sz).length = 148 := by
  unfold headA; simp [fldS_length _ _ h, fld_length]
theorem tailB_length {T : Int} {pf lk : List Int} (h1 : pf.length ≤ 155) (h2 : lk.length ≤ 100) : (tailB T pf lk).length = 356 := by
  unfold tailB; simp [fldS_length _ _ h1, fldS_length _ _ h2, fld_length, zeros_length, magic]
theorem ce_len {s : ByteArray} {k : Nat} (h : ceF (numsOf s) k = 0) : (numsOf s).length ≤ k := by have := (ceF_zero.1 h).2.2.2; omega
theorem numsOf_bytes (s : ByteArray) : Bytes (numsOf s) := numsOf_bd s
theorem fldS_bytes {zs : List Int} (h : Bytes zs) (k : Nat) : Bytes (fldS zs k) := fldS_bd zs k h
theorem fld_bytes (k : Nat) (n : Int) : Bytes (fld k n) := fld_bd k n
theorem known_byte {T : Int} (h : known T) : 0 ≤ T ∧ T ≤ 255 := by unfold known at h; omega
theorem one_byte {T : Int} (h : 0 ≤ T ∧ T ≤ 255) : Bytes [T] := fun z hz => by rw [List.mem_singleton.1 hz]; exact h
theorem headA_bytes {nm : List Int} (h : Bytes nm) (md sz : Int) : Bytes (headA nm md sz) :=
  (fldS_bytes h 100).append ((fld_bytes 7 md).append ((fld_bytes 7 0).append ((fld_bytes 7 0).append ((fld_bytes 11 sz).append (fld_bytes 11 0)))))
theorem tailB_bytes {T : Int} {pf lk : List Int} (hT : 0 ≤ T ∧ T ≤ 255) (h1 : Bytes pf) (h2 : Bytes lk) : Bytes (tailB T pf lk) :=
  (one_byte hT).append ((fldS_bytes h2 100).append (Bytes.append (by unfold magic Bytes; decide) ((zeros_bytes 32).append ((zeros_bytes 32).append ((fld_bytes 7 0).append ((fld_bytes 7 0).append ((fldS_bytes h1 155).append (zeros_bytes 12))))))))
theorem raw_bytes {T : Int} (hT : 0 ≤ T ∧ T ≤ 255) (nm pf lk : ByteArray) (md sz : Int) : Bytes (rawH T nm pf lk md sz) :=
  (headA_bytes (numsOf_bytes nm) md sz).append (sp8_bytes.append (tailB_bytes hT (numsOf_bytes pf) (numsOf_bytes lk)))
theorem enc_bytes {T : Int} (hT : 0 ≤ T ∧ T ≤ 255) (nm pf lk : ByteArray) (md sz : Int) : Bytes (encH T nm pf lk md sz) := seal_bytes (raw_bytes hT nm pf lk md sz)

section
variable {T : Int} {nm pf lk : ByteArray} {md sz : Int}

theorem raw_length (h : ckH T nm pf lk md sz = 0) : (rawH T nm pf lk md sz).length = 512 := by
  obtain ⟨_, h2, h3, h4, _⟩ := ckH_zero.1 h
  unfold rawH
  simp [headA_length (ce_len (k := 100) h2), tailB_length (ce_len (k := 155) h4) (ce_len (k := 100) h3), sp8_length]
theorem enc_length (h : ckH T nm pf lk md sz = 0) : (encH T nm pf lk md sz).length = 512 := seal_length (raw_length h)
theorem enc_sealed (h : ckH T nm pf lk md sz = 0) : sealZ (encH T nm pf lk md sz) = encH T nm pf lk md sz := sealZ_sealZ _ (raw_length h)

theorem app_drop {a b : List Int} {m : Nat} (n k : Nat) (ha : a.length = n) (hm : m = n + k) : (a ++ b).drop m = b.drop k := by
  subst hm; subst ha; rw [List.drop_append]; simp
theorem app_take {a b : List Int} {n : Nat} (ha : a.length = n) : (a ++ b).take n = a := by subst ha; simp

theorem enc_eq (h : ckH T nm pf lk md sz = 0) : ∃ F : List Int, F.length = 8 ∧ encH T nm pf lk md sz = headA (numsOf nm) md sz ++ (F ++ tailB T (numsOf pf) (numsOf lk)) := by
  obtain ⟨_, h2, h3, h4, _⟩ := ckH_zero.1 h
  have la := headA_length (md := md) (sz := sz) (ce_len (k := 100) h2)
  refine ⟨_, fieldZ_length (sumZ (rawH T nm pf lk md sz)), ?_⟩
  unfold encH sealZ lay
  rw [fieldZ_length]
  have e1 : (rawH T nm pf lk md sz).take 148 = headA (numsOf nm) md sz := app_take la
  have e2 : (rawH T nm pf lk md sz).drop (148 + 8) = tailB T (numsOf pf) (numsOf lk) := by
    unfold rawH
    rw [app_drop 148 8 la rfl, app_drop 8 0 sp8_length rfl, List.drop_zero]
  rw [e1, e2]

theorem enc_fields (h : ckH T nm pf lk md sz = 0) : (encH T nm pf lk md sz).take 100 = fldS (numsOf nm) 100 ∧ ((encH T nm pf lk md sz).drop 100).take 8 = fld 7 md ∧ ((encH T nm pf lk md sz).drop 124).take 12 = fld 11 sz ∧
    (encH T nm pf lk md sz).getD 156 0 = T ∧ ((encH T nm pf lk md sz).drop 157).take 100 = fldS (numsOf lk) 100 ∧ ((encH T nm pf lk md sz).drop 345).take 155 = fldS (numsOf pf) 155 := by
  obtain ⟨F, hF, he⟩ := enc_eq h
  obtain ⟨_, h2, h3, h4, _⟩ := ckH_zero.1 h
  have l1 := fldS_length _ _ (ce_len (k := 100) h2)
  have l2 := fldS_length _ _ (ce_len (k := 100) h3)
  have l3 := fldS_length _ _ (ce_len (k := 155) h4)
  have la := headA_length (md := md) (sz := sz) (ce_len (k := 100) h2)
  have f7 := fld_length 7
  have f11 := fld_length 11
  have e1 : ∀ X : List Int, headA (numsOf nm) md sz ++ X = fldS (numsOf nm) 100 ++ (fld 7 md ++ (fld 7 0 ++ (fld 7 0 ++ (fld 11 sz ++ (fld 11 0 ++ X))))) := fun X => by simp only [headA, List.append_assoc]
  have e2 : tailB T (numsOf pf) (numsOf lk) = [T] ++ (fldS (numsOf lk) 100 ++ (magic ++ (zeros 32 ++ (zeros 32 ++ (fld 7 0 ++ (fld 7 0 ++ (fldS (numsOf pf) 155 ++ zeros 12))))))) := rfl
  rw [he]
  refine ⟨?_, ?_, ?_, ?_, ?_, ?_⟩
  · rw [e1]; exact app_take l1
  · rw [e1, app_drop 100 0 l1 rfl, List.drop_zero]; exact app_take (f7 md)
  · rw [e1, app_drop 100 24 l1 rfl, app_drop 8 16 (f7 md) rfl, app_drop 8 8 (f7 0) rfl, app_drop 8 0 (f7 0) rfl, List.drop_zero]; exact app_take (f11 sz)
  · rw [List.getD_eq_getElem?_getD, List.getElem?_append_right (by omega), List.getElem?_append_right (by omega), la, hF, e2]; rfl
  · rw [app_drop 148 9 la rfl, app_drop 8 1 hF rfl, e2, app_drop 1 0 rfl rfl, List.drop_zero]; exact app_take l2
  · rw [app_drop 148 197 la rfl, app_drop 8 189 hF rfl, e2, app_drop 1 188 rfl rfl, app_drop 100 88 l2 rfl, app_drop 8 80 rfl rfl, app_drop 32 48 (zeros_length 32) rfl, app_drop 32 16 (zeros_length 32) rfl, app_drop 8 8 (f7 0) rfl, app_drop 8 0 (f7 0) rfl, List.drop_zero]; exact app_take l3
end

/-- what Decode reads -/
def dT (zs : List Int) : Int := zs.getD 156 0
def dNm (zs : List Int) : ByteArray := strOfNums (cpS (zs.take 100))
def dLk (zs : List Int) : ByteArray := strOfNums (cpS ((zs.drop 157).take 100))
def dPf (zs : List Int) : ByteArray := strOfNums (cpS ((zs.drop 345).take 155))
def dMd (zs : List Int) : Int := pzV ((zs.drop 100).take 8)
def dSz (zs : List Int) : Int := pzV ((zs.drop 124).take 12)
/-- the fields can be read -/
def dFld (zs : List Int) : Prop := cpE (zs.take 100) = 0 ∧ cpE ((zs.drop 157).take 100) = 0 ∧ cpE ((zs.drop 345).take 155) = 0 ∧ pzE ((zs.drop 100).take 8) = 0 ∧ pzE ((zs.drop 124).take 12) = 0
instance (zs : List Int) : Decidable (dFld zs) := by unfold dFld; infer_instance
/-- what was read is the block's header -/
def dOk (zs : List Int) : Prop := dFld zs ∧ ckH (dT zs) (dNm zs) (dPf zs) (dLk zs) (dMd zs) (dSz zs) = 0 ∧ encH (dT zs) (dNm zs) (dPf zs) (dLk zs) (dMd zs) (dSz zs) = zs
instance (zs : List Int) : Decidable (dOk zs) := by unfold dOk; infer_instance
/-- the error of Decode -/
def deE (zs : List Int) : Int := if zs.length ≠ 512 then 2 else if zs ≠ sealZ zs then 9 else if ¬ known (dT zs) then 8 else if dOk zs then 0 else 6

theorem cp_fld {s : ByteArray} {k : Nat} (hk : k ≤ 256) (h : ceF (numsOf s) k = 0) : cpE (fldS (numsOf s) k) = 0 ∧ strOfNums (cpS (fldS (numsOf s) k)) = s := by
  obtain ⟨h1, _, h3, h4⟩ := ceF_zero.1 h
  have hl := fldS_length (numsOf s) k (by omega)
  have ht := trim_fldS k h3
  have e : cpE (fldS (numsOf s) k) = 0 := cpE_zero.2 ⟨by omega, by omega, by rw [ht]; exact h3⟩
  exact ⟨e, by rw [cpS_ok e, ht, strOfNums_numsOf]⟩
theorem pz_fld {k : Nat} {n : Int} (h1 : 1 ≤ k) (h2 : k ≤ 21) (h0 : 0 ≤ n) (hm : n ≤ mx k) : pzE (fld k n) = 0 ∧ pzV (fld k n) = n := by
  have hl := fld_length k n
  have ht : (fld k n).take ((fld k n).length - 1) = oct k n := by rw [hl, Nat.add_sub_cancel]; unfold fld; rw [List.take_left' (oct_length k n)]
  have ok : pzOk (fld k n) := by
    refine ⟨?_, by rw [ht]; exact oct_bd k n⟩
    rw [hl, Nat.add_sub_cancel, List.getD_eq_getElem?_getD]
    unfold fld
    rw [List.getElem?_append_right (by rw [oct_length]; exact Nat.le_refl _), oct_length, Nat.sub_self]; rfl
  have hb : ¬ ((fld k n).length < 2 ∨ 22 < (fld k n).length) := by omega
  exact ⟨by unfold pzE; rw [if_neg hb, if_pos ok], by unfold pzV; rw [if_neg hb, if_pos ok, ht]; exact val_oct k n h0 hm⟩
theorem mx_7 : mx 7 = 2097151 := by decide
theorem mx_11' : mx 11 = 8589934591 := by decide

section
variable {T : Int} {nm pf lk : ByteArray} {md sz : Int}
/-- Decode reads what Encode wrote -/
theorem dec_enc (h : ckH T nm pf lk md sz = 0) : deE (encH T nm pf lk md sz) = 0 ∧ dT (encH T nm pf lk md sz) = T ∧ dNm (encH T nm pf lk md sz) = nm ∧ dPf (encH T nm pf lk md sz) = pf ∧ dLk (encH T nm pf lk md sz) = lk ∧
    dMd (encH T nm pf lk md sz) = md ∧ dSz (encH T nm pf lk md sz) = sz := by
  obtain ⟨f1, f2, f3, f4, f5, f6⟩ := enc_fields h
  obtain ⟨k1, k2, k3, k4, k5, k6⟩ := ckH_zero.1 h
  have e1 : dT (encH T nm pf lk md sz) = T := f4
  have e2 : dNm (encH T nm pf lk md sz) = nm := by unfold dNm; rw [f1]; exact (cp_fld (k := 100) (by decide) k2).2
  have e3 : dPf (encH T nm pf lk md sz) = pf := by unfold dPf; rw [f6]; exact (cp_fld (k := 155) (by decide) k4).2
  have e4 : dLk (encH T nm pf lk md sz) = lk := by unfold dLk; rw [f5]; exact (cp_fld (k := 100) (by decide) k3).2
  have hm := mx_7; have hs := mx_11'
  have p1 := pz_fld (k := 7) (n := md) (by decide) (by decide) k5.1 (by omega)
  have p2 := pz_fld (k := 11) (n := sz) (by decide) (by decide) k6.1 (by omega)
  have e5 : dMd (encH T nm pf lk md sz) = md := by unfold dMd; rw [f2]; exact p1.2
  have e6 : dSz (encH T nm pf lk md sz) = sz := by unfold dSz; rw [f3]; exact p2.2
  have hf : dFld (encH T nm pf lk md sz) := by
    unfold dFld
    rw [f1, f2, f3, f5, f6]
    exact ⟨(cp_fld (k := 100) (by decide) k2).1, (cp_fld (k := 100) (by decide) k3).1, (cp_fld (k := 155) (by decide) k4).1, p1.1, p2.1⟩
  refine ⟨?_, e1, e2, e3, e4, e5, e6⟩
  unfold deE
  rw [if_neg (by rw [enc_length h]; simp), if_neg (by rw [enc_sealed h]; simp), if_neg (by rw [e1]; simpa using k1), if_pos ⟨hf, by rw [e1, e2, e3, e4, e5, e6]; exact ⟨h, rfl⟩⟩]
/-- the code is one to one -/
theorem enc_inj {T' : Int} {nm' pf' lk' : ByteArray} {md' sz' : Int} (h : ckH T nm pf lk md sz = 0) (h' : ckH T' nm' pf' lk' md' sz' = 0) (he : encH T nm pf lk md sz = encH T' nm' pf' lk' md' sz') :
    T = T' ∧ nm = nm' ∧ pf = pf' ∧ lk = lk' ∧ md = md' ∧ sz = sz' := by
  obtain ⟨_, a1, a2, a3, a4, a5, a6⟩ := dec_enc h
  obtain ⟨_, b1, b2, b3, b4, b5, b6⟩ := dec_enc h'
  rw [he] at a1 a2 a3 a4 a5 a6
  exact ⟨a1.symm.trans b1, a2.symm.trans b2, a3.symm.trans b3, a4.symm.trans b4, a5.symm.trans b5, a6.symm.trans b6⟩
end
/-- every accepted block is an encoding -/
theorem dec_ok {zs : List Int} (h : deE zs = 0) : zs.length = 512 ∧ zs = sealZ zs ∧ known (dT zs) ∧ dOk zs := by
  unfold deE at h
  split at h
  · cases h
  · split at h
    · cases h
    · split at h
      · cases h
      · split at h
        · rename_i h1 h2 h3 h4
          exact ⟨by omega, Decidable.byContradiction h2, Decidable.byContradiction h3, h4⟩
        · cases h
theorem deE_cases (zs : List Int) : deE zs = 0 ∨ deE zs = 2 ∨ deE zs = 9 ∨ deE zs = 8 ∨ deE zs = 6 := by
  unfold deE; repeat' split
  all_goals simp
end Go.Proofs.YtokjmehecfjhmaaDoor.Ust
