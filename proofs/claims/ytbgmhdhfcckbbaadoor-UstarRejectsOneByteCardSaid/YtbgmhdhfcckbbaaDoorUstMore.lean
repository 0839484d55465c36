/-
  Layer 7: a block in which one byte is changed; what is the same in every block. No memory.
-/
import Derived.Test.YtbgmhdhfcckbbaaDoorUstMath
namespace Go.Proofs.YtbgmhdhfcckbbaaDoor.Ust
open Oct Cst Chk

theorem sealZ_getD (zs : List Int) (i : Nat) (h : zs.length = 512) (ho : i < 148 ∨ 156 ≤ i) : (sealZ zs).getD i 0 = zs.getD i 0 := by
  unfold sealZ lay
  rw [fieldZ_length]
  have ht : (zs.take 148).length = 148 := by rw [List.length_take, h]; rfl
  simp only [List.getD_eq_getElem?_getD]
  rcases ho with ho | ho
  · rw [List.getElem?_append_left (by omega), List.getElem?_take, if_pos ho]
  · rw [List.getElem?_append_right (by omega), List.getElem?_append_right (by rw [fieldZ_length]; omega), List.getElem?_drop, ht, fieldZ_length, show 148 + 8 + (i - 148 - 8) = i by omega]

section
variable {T : Int} {nm pf lk : ByteArray} {md sz : Int}

/-- one byte outside of the checksum changed: the block is not sealed -/
theorem dec_set (h : ckH T nm pf lk md sz = 0) {i : Nat} {c : Int} (hi : i < 512) (hc : 0 ≤ c ∧ c ≤ 255) (hne : c ≠ (encH T nm pf lk md sz).getD i 0) : deE ((encH T nm pf lk md sz).set i c) = 9 := by
  have hb := enc_bytes (known_byte (ckH_zero.1 h).1) nm pf lk md sz
  have hs := seal_one (encH T nm pf lk md sz) i c (enc_length h) hb (enc_sealed h) hi hc hne
  unfold deE
  rw [if_neg (by rw [List.length_set, enc_length h]; simp), if_pos (fun e => hs e.symm)]

/-- sealed anew -/
theorem dec_seal_set (h : ckH T nm pf lk md sz = 0) {i : Nat} {c : Int} (hi : i < 512) (ho : i < 148 ∨ 156 ≤ i) (hne : c ≠ (encH T nm pf lk md sz).getD i 0) :
    (sealZ ((encH T nm pf lk md sz).set i c)).length = 512 ∧ sealZ (encH T nm pf lk md sz |>.set i c) ≠ encH T nm pf lk md sz ∧
    (i = 156 → ¬ known c → deE (sealZ ((encH T nm pf lk md sz).set i c)) = 8) ∧ (i = 156 → known c → deE (sealZ ((encH T nm pf lk md sz).set i c)) = 0) ∧
    (i ≠ 156 → deE (sealZ ((encH T nm pf lk md sz).set i c)) = 0 ∨ deE (sealZ ((encH T nm pf lk md sz).set i c)) = 6) := by
  have hl : ((encH T nm pf lk md sz).set i c).length = 512 := by rw [List.length_set, enc_length h]
  have hg : ∀ j, j < 148 ∨ 156 ≤ j → (sealZ ((encH T nm pf lk md sz).set i c)).getD j 0 = ((encH T nm pf lk md sz).set i c).getD j 0 := fun j hj => sealZ_getD _ j hl hj
  have hgi : ((encH T nm pf lk md sz).set i c).getD i 0 = c := by
    rw [List.getD_eq_getElem?_getD, List.getElem?_set_self (by rw [enc_length h]; exact hi)]; rfl
  have n2 : ¬ (sealZ ((encH T nm pf lk md sz).set i c)).length ≠ 512 := by rw [seal_length hl]; simp
  have n9 : ¬ sealZ ((encH T nm pf lk md sz).set i c) ≠ sealZ (sealZ ((encH T nm pf lk md sz).set i c)) := by rw [sealZ_sealZ _ hl]; simp
  refine ⟨seal_length hl, ?_, ?_, ?_, ?_⟩
  · intro e
    have := hg i ho
    rw [e, hgi] at this
    exact hne this.symm
  · rintro rfl hk
    have e : dT (sealZ ((encH T nm pf lk md sz).set 156 c)) = c := (hg 156 (.inr (Nat.le_refl _))).trans hgi
    unfold deE
    rw [if_neg n2, if_neg n9, if_pos (by rw [e]; exact hk)]
  · rintro rfl hk
    obtain ⟨k1, k2⟩ := ckH_zero.1 h
    have h' : ckH c nm pf lk md sz = 0 := ckH_zero.2 ⟨hk, k2⟩
    obtain ⟨F, hF, he⟩ := enc_eq h
    have la := headA_length (md := md) (sz := sz) (ce_len (k := 100) k2.1)
    have e1 : (encH T nm pf lk md sz).set 156 c = lay (rawH c nm pf lk md sz) 148 F := by
      rw [he]
      unfold lay
      rw [hF]
      have a1 : (rawH c nm pf lk md sz).take 148 = headA (numsOf nm) md sz := app_take la
      have a2 : (rawH c nm pf lk md sz).drop (148 + 8) = tailB c (numsOf pf) (numsOf lk) := by
        unfold rawH
        rw [app_drop 148 8 la rfl, app_drop 8 0 sp8_length rfl, List.drop_zero]
      rw [a1, a2, List.set_append_right _ _ (by omega), List.set_append_right _ _ (by omega), la, hF]
      rfl
    rw [e1, sealZ_lay _ _ (raw_length h') hF]
    exact (dec_enc h').1
  · intro hn
    have e : dT (sealZ ((encH T nm pf lk md sz).set i c)) = T := by
      refine (hg 156 (.inr (Nat.le_refl _))).trans ?_
      rw [List.getD_eq_getElem?_getD, List.getElem?_set_ne hn, ← List.getD_eq_getElem?_getD]
      exact (enc_fields h).2.2.2.1
    unfold deE
    rw [if_neg n2, if_neg n9, if_neg (by rw [e]; exact not_not_intro (ckH_zero.1 h).1)]
    split <;> simp

/-- what is the same in every block -/
theorem enc_const (h : ckH T nm pf lk md sz = 0) : ((encH T nm pf lk md sz).drop 108).take 16 = fld 7 0 ++ fld 7 0 ∧ ((encH T nm pf lk md sz).drop 136).take 12 = fld 11 0 ∧
    ((encH T nm pf lk md sz).drop 257).take 88 = magic ++ (zeros 32 ++ (zeros 32 ++ (fld 7 0 ++ fld 7 0))) ∧ (encH T nm pf lk md sz).drop 500 = zeros 12 := by
  obtain ⟨F, hF, he⟩ := enc_eq h
  obtain ⟨_, h2, h3, h4, _⟩ := ckH_zero.1 h
  have l1 := fldS_length _ _ (ce_len (k := 100) h2)
  have l2 := fldS_length _ _ (ce_len (k := 100) h3)
  have l3 := fldS_length _ _ (ce_len (k := 155) h4)
  have la := headA_length (md := md) (sz := sz) (ce_len (k := 100) h2)
  have f7 := fld_length 7
  have f11 := fld_length 11
  have e1 : ∀ X : List Int, headA (numsOf nm) md sz ++ X = fldS (numsOf nm) 100 ++ (fld 7 md ++ ((fld 7 0 ++ fld 7 0) ++ (fld 11 sz ++ (fld 11 0 ++ X)))) := fun X => by simp only [headA, List.append_assoc]
  have e2 : tailB T (numsOf pf) (numsOf lk) = [T] ++ (fldS (numsOf lk) 100 ++ ((magic ++ (zeros 32 ++ (zeros 32 ++ (fld 7 0 ++ fld 7 0)))) ++ (fldS (numsOf pf) 155 ++ zeros 12))) := by simp only [tailB, List.append_assoc]
  have lm : (magic ++ (zeros 32 ++ (zeros 32 ++ (fld 7 0 ++ fld 7 0)))).length = 88 := by simp [f7, zeros_length, magic]
  have l77 : (fld 7 0 ++ fld 7 0).length = 16 := by simp [f7]
  rw [he]
  refine ⟨?_, ?_, ?_, ?_⟩
  · rw [e1, app_drop 100 8 l1 rfl, app_drop 8 0 (f7 md) rfl, List.drop_zero]; exact app_take l77
  · rw [e1, app_drop 100 36 l1 rfl, app_drop 8 28 (f7 md) rfl, app_drop 16 12 l77 rfl, app_drop 12 0 (f11 sz) rfl, List.drop_zero]; exact app_take (f11 0)
  · rw [app_drop 148 109 la rfl, app_drop 8 101 hF rfl, e2, app_drop 1 100 rfl rfl, app_drop 100 0 l2 rfl, List.drop_zero]; exact app_take lm
  · rw [app_drop 148 352 la rfl, app_drop 8 344 hF rfl, e2, app_drop 1 343 rfl rfl, app_drop 100 243 l2 rfl, app_drop 88 155 lm rfl, app_drop 155 0 l3 rfl, List.drop_zero]

theorem getD_part (zs : List Int) {a n i : Nat} (h1 : a ≤ i) (h2 : i < a + n) : zs.getD i 0 = ((zs.drop a).take n).getD (i - a) 0 := by
  simp only [List.getD_eq_getElem?_getD]
  rw [List.getElem?_take, if_pos (by omega), List.getElem?_drop, show a + (i - a) = i by omega]

def varyB (i : Nat) : Prop := i < 108 ∨ (124 ≤ i ∧ i < 136) ∨ (148 ≤ i ∧ i < 257) ∨ (345 ≤ i ∧ i < 500)
theorem enc_same {T' : Int} {nm' pf' lk' : ByteArray} {md' sz' : Int} (h : ckH T nm pf lk md sz = 0) (h' : ckH T' nm' pf' lk' md' sz' = 0) {i : Nat} (hi : i < 512) (hv : ¬ varyB i) :
    (encH T nm pf lk md sz).getD i 0 = (encH T' nm' pf' lk' md' sz').getD i 0 := by
  obtain ⟨a1, a2, a3, a4⟩ := enc_const h
  obtain ⟨b1, b2, b3, b4⟩ := enc_const h'
  unfold varyB at hv
  by_cases c1 : 108 ≤ i ∧ i < 124
  · rw [getD_part _ c1.1 (n := 16) (by omega), getD_part (encH T' nm' pf' lk' md' sz') c1.1 (n := 16) (by omega), a1, b1]
  · by_cases c2 : 136 ≤ i ∧ i < 148
    · rw [getD_part _ c2.1 (n := 12) (by omega), getD_part (encH T' nm' pf' lk' md' sz') c2.1 (n := 12) (by omega), a2, b2]
    · by_cases c3 : 257 ≤ i ∧ i < 345
      · rw [getD_part _ c3.1 (n := 88) (by omega), getD_part (encH T' nm' pf' lk' md' sz') c3.1 (n := 88) (by omega), a3, b3]
      · rw [getD_part _ (a := 500) (by omega) (n := 12) (by omega), getD_part (encH T' nm' pf' lk' md' sz') (a := 500) (by omega) (n := 12) (by omega), a4, b4]

/-- a string stands at its field's head -/
theorem take_fldS (s : List Int) (k : Nat) : (fldS s k).take s.length = s := by unfold fldS; simp
theorem enc_text (h : ckH T nm pf lk md sz = 0) : (encH T nm pf lk md sz).take (numsOf nm).length = numsOf nm ∧ ((encH T nm pf lk md sz).drop 157).take (numsOf lk).length = numsOf lk ∧ ((encH T nm pf lk md sz).drop 345).take (numsOf pf).length = numsOf pf := by
  obtain ⟨f1, _, _, _, f5, f6⟩ := enc_fields h
  obtain ⟨_, h2, h3, h4, _⟩ := ckH_zero.1 h
  have l1 := ce_len (k := 100) h2
  have l2 := ce_len (k := 100) h3
  have l3 := ce_len (k := 155) h4
  refine ⟨?_, ?_, ?_⟩
  · have := congrArg (List.take (numsOf nm).length) f1
    rwa [List.take_take, Nat.min_eq_left l1, take_fldS] at this
  · have := congrArg (List.take (numsOf lk).length) f5
    rwa [List.take_take, Nat.min_eq_left l2, take_fldS] at this
  · have := congrArg (List.take (numsOf pf).length) f6
    rwa [List.take_take, Nat.min_eq_left l3, take_fldS] at this
end
end Go.Proofs.YtbgmhdhfcckbbaaDoor.Ust
