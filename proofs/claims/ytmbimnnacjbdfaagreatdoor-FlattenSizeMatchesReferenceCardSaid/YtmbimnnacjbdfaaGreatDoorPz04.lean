/-
  The arithmetic of layer 3: the checksum of a block of bytes, the sealed block.
-/
import Derived.Test.YtmbimnnacjbdfaaGreatDoorPz03
import Derived.Test.YtmbimnnacjbdfaaGreatDoorPz01
import Derived.Test.YtmbimnnacjbdfaaGreatDoorFitMerge
namespace Go.Proofs.YtmbimnnacjbdfaaGreatDoor.Chk
open Oct

theorem sum_bd {zs : List Int} (h : Bytes zs) : 0 ≤ zs.sum ∧ zs.sum ≤ 255 * zs.length := by
  induction zs with
  | nil => simp
  | cons z zs ih =>
    have h1 := h z (by simp)
    have h2 := ih (fun x hx => h x (List.mem_cons_of_mem _ hx))
    simp only [List.sum_cons, List.length_cons]
    omega
theorem sum_take_succ {zs : List Int} {j : Nat} (h : j < zs.length) : (zs.take (j + 1)).sum = (zs.take j).sum + zs.getD j 0 := by
  rw [take_snoc h]; simp
theorem take_sum_bd {zs : List Int} (h : Bytes zs) (j : Nat) : 0 ≤ (zs.take j).sum ∧ (zs.take j).sum ≤ 255 * j := by
  have := sum_bd (h.take j)
  have := List.length_take_le j zs
  omega

/-- eight spaces -/
def sp8 : List Int := List.replicate 8 32
theorem sp8_length : sp8.length = 8 := rfl
/-- the block with a blank checksum field -/
def blankZ (zs : List Int) : List Int := lay zs 148 sp8
/-- the checksum -/
def sumZ (zs : List Int) : Int := (blankZ zs).sum
/-- the checksum field -/
def fieldZ (n : Int) : List Int := fld 6 n ++ [32]
theorem fieldZ_length (n : Int) : (fieldZ n).length = 8 := by simp [fieldZ, fld_length]
/-- the sealed block -/
def sealZ (zs : List Int) : List Int := lay zs 148 (fieldZ (sumZ zs))

theorem blank_length {zs : List Int} (h : zs.length = 512) : (blankZ zs).length = 512 := by rw [blankZ, lay_length _ _ _ (by rw [sp8_length]; omega), h]
theorem seal_length {zs : List Int} (h : zs.length = 512) : (sealZ zs).length = 512 := by rw [sealZ, lay_length _ _ _ (by rw [fieldZ_length]; omega), h]
theorem sp8_bytes : Bytes sp8 := .replicate 8 (by decide)
theorem blank_bytes {zs : List Int} (h : Bytes zs) : Bytes (blankZ zs) := lay_bytes _ h sp8_bytes
theorem field_bytes (n : Int) : Bytes (fieldZ n) := Bytes.append (fld_bd 6 n) (.replicate 1 (by decide))
theorem seal_bytes {zs : List Int} (h : Bytes zs) : Bytes (sealZ zs) := lay_bytes _ h (field_bytes _)

theorem sumZ_eq (zs : List Int) : sumZ zs = (zs.take 148).sum + 256 + (zs.drop 156).sum := by
  simp [sumZ, blankZ, lay, sp8]; omega
theorem sumZ_bd {zs : List Int} (h : Bytes zs) (hl : zs.length = 512) : 256 ≤ sumZ zs ∧ sumZ zs ≤ 128776 := by
  have h1 := sum_bd (h.take 148)
  have h2 := sum_bd (h.drop 156)
  rw [List.length_take] at h1
  rw [List.length_drop] at h2
  rw [sumZ_eq]
  omega
theorem mx_6 : mx 6 = 262143 := by decide
theorem sumZ_fits {zs : List Int} (h : Bytes zs) (hl : zs.length = 512) : 0 ≤ sumZ zs ∧ sumZ zs ≤ mx 6 := by
  have := sumZ_bd h hl
  rw [mx_6]; omega

theorem take_lay (zs : List Int) (ys : List Int) (h : 148 ≤ zs.length) : (lay zs 148 ys).take 148 = zs.take 148 := by
  unfold lay
  rw [List.take_append_of_le_length (by rw [List.length_take]; omega), List.take_take, Nat.min_self]
theorem drop_lay (zs : List Int) (ys : List Int) (h : 148 ≤ zs.length) (hy : ys.length = 8) : (lay zs 148 ys).drop 156 = zs.drop 156 := by
  unfold lay
  rw [List.drop_append, List.drop_eq_nil_of_le (by rw [List.length_take]; omega), List.length_take, Nat.min_eq_left h, List.nil_append, List.drop_append, List.drop_eq_nil_of_le (by omega), hy]
  simp
theorem lay_lay (zs xs ys : List Int) (h : 148 ≤ zs.length) (hx : xs.length = 8) (hy : ys.length = 8) : lay (lay zs 148 xs) 148 ys = lay zs 148 ys := by
  rw [lay, take_lay zs xs h, hy, show 148 + 8 = 156 from rfl, drop_lay zs xs h hx]
  simp [lay, hy]
/-- the field's bytes don't count -/
theorem sumZ_lay (zs ys : List Int) (h : zs.length = 512) (hy : ys.length = 8) : sumZ (lay zs 148 ys) = sumZ zs := by
  rw [sumZ_eq, sumZ_eq, take_lay zs ys (by omega), drop_lay zs ys (by omega) hy]
theorem sealZ_lay (zs ys : List Int) (h : zs.length = 512) (hy : ys.length = 8) : sealZ (lay zs 148 ys) = sealZ zs := by
  unfold sealZ
  rw [sumZ_lay zs ys h hy, lay_lay zs ys _ (by omega) hy (fieldZ_length _)]
theorem sealZ_sealZ (zs : List Int) (h : zs.length = 512) : sealZ (sealZ zs) = sealZ zs := sealZ_lay zs _ h (fieldZ_length _)
theorem sumZ_sealZ (zs : List Int) (h : zs.length = 512) : sumZ (sealZ zs) = sumZ zs := sumZ_lay zs _ h (fieldZ_length _)

/-- what 'sealed' writes: first the spaces, then the digits -/
theorem seal_two (zs : List Int) (h : zs.length = 512) : lay (blankZ zs) 148 (fld 6 (sumZ zs)) = sealZ zs := by
  unfold sealZ fieldZ
  rw [lay, blankZ, take_lay zs _ (by omega), fld_length]
  have : (lay zs 148 sp8).drop (148 + (6 + 1)) = 32 :: zs.drop 156 := by
    unfold lay
    rw [List.drop_append, List.drop_eq_nil_of_le (by rw [List.length_take]; omega), List.length_take, Nat.min_eq_left (by omega), List.nil_append, show 148 + (6 + 1) - 148 = 7 from rfl]
    rfl
  rw [this]
  simp [lay, fld_length]

/-- the eight bytes of the field -/
theorem field_of_lay (zs ys : List Int) (h : 148 ≤ zs.length) (hy : ys.length = 8) : ((lay zs 148 ys).drop 148).take 8 = ys := by
  unfold lay
  rw [List.drop_append, List.drop_eq_nil_of_le (by rw [List.length_take]; omega), List.length_take, Nat.min_eq_left h, Nat.sub_self, List.nil_append, List.drop_zero, ← hy, List.take_left]
theorem fieldZ_inj {m n : Int} (hm : 0 ≤ m ∧ m ≤ mx 6) (hn : 0 ≤ n ∧ n ≤ mx 6) (h : fieldZ m = fieldZ n) : m = n := by
  unfold fieldZ fld at h
  have h1 := List.append_inj_left' h (by simp)
  have h2 := List.append_inj_left' h1 (by simp)
  rw [← val_oct 6 m hm.1 hm.2, ← val_oct 6 n hn.1 hn.2, h2]

theorem sum_set : ∀ (zs : List Int) (i : Nat) (c : Int), i < zs.length → (zs.set i c).sum = zs.sum + (c - zs.getD i 0)
  | [], i, c, h => by simp at h
  | z :: zs, 0, c, h => by simp; omega
  | z :: zs, i + 1, c, h => by
    have := sum_set zs i c (by simpa using h)
    simp only [List.set_cons_succ, List.sum_cons, this, List.getD_cons_succ]
    omega
/-- a byte outside the field is changed -/
theorem sumZ_set (zs : List Int) (i : Nat) (c : Int) (h : zs.length = 512) (hi : i < 512) (ho : i < 148 ∨ 156 ≤ i) : sumZ (zs.set i c) = sumZ zs + (c - zs.getD i 0) := by
  rw [sumZ_eq, sumZ_eq]
  rcases ho with ho | ho
  · rw [List.take_set, sum_set _ _ _ (by rw [List.length_take]; omega), List.drop_set_of_lt (by omega)]
    have : (zs.take 148).getD i 0 = zs.getD i 0 := by simp [List.getD_eq_getElem?_getD, ho]
    rw [this]; omega
  · rw [List.take_set_of_le (by omega), List.drop_set, if_neg (by omega), sum_set _ _ _ (by rw [List.length_drop]; omega)]
    have : (zs.drop 156).getD (i - 156) 0 = zs.getD i 0 := by simp [List.getD_eq_getElem?_getD, List.getElem?_drop, show 156 + (i - 156) = i by omega]
    rw [this]; omega
theorem set_in_lay (zs : List Int) (i : Nat) (c : Int) (h : zs.length = 512) (h1 : 148 ≤ i) (h2 : i < 156) : ∃ ys, ys.length = 8 ∧ zs.set i c = lay zs 148 ys := by
  refine ⟨((zs.set i c).drop 148).take 8, by simp; omega, ?_⟩
  have e1 : zs.take 148 = (zs.set i c).take 148 := by rw [List.take_set_of_le h1]
  have e2 : zs.drop (148 + 8) = ((zs.set i c).drop 148).drop 8 := by rw [List.drop_drop, List.drop_set_of_lt (by omega)]
  unfold lay
  rw [List.length_take, List.length_drop, List.length_set, h, show min 8 (512 - 148) = 8 from rfl, e2, e1, List.take_append_drop, List.take_append_drop]
/-- one byte of a sealed block is changed: it is sealed no more -/
theorem seal_one (zs : List Int) (i : Nat) (c : Int) (h : zs.length = 512) (hb : Bytes zs) (hs : sealZ zs = zs) (hi : i < 512) (hc : 0 ≤ c ∧ c ≤ 255) (hne : c ≠ zs.getD i 0) : sealZ (zs.set i c) ≠ zs.set i c := by
  by_cases hf : 148 ≤ i ∧ i < 156
  · obtain ⟨ys, hy, he⟩ := set_in_lay zs i c h hf.1 hf.2
    rw [he, sealZ_lay zs ys h hy, hs, ← he]
    intro e
    apply hne
    have := congrArg (fun l => l.getD i 0) e
    simp [List.getD_eq_getElem?_getD, h, hi] at this
    simp [List.getD_eq_getElem?_getD, h, hi, this]
  · intro e
    have hbc := hb.set i hc
    have hlc : (zs.set i c).length = 512 := by rw [List.length_set, h]
    have f1 : fieldZ (sumZ (zs.set i c)) = ((zs.set i c).drop 148).take 8 := by
      rw [← e]; unfold sealZ
      rw [sumZ_lay _ _ hlc (fieldZ_length _), field_of_lay _ _ (by omega) (fieldZ_length _)]
    have f2 : fieldZ (sumZ zs) = (zs.drop 148).take 8 := by
      rw [← hs]; unfold sealZ
      rw [sumZ_lay _ _ h (fieldZ_length _), field_of_lay _ _ (by omega) (fieldZ_length _)]
    have f3 : ((zs.set i c).drop 148).take 8 = (zs.drop 148).take 8 := by
      apply List.ext_getElem?
      intro j
      simp only [List.getElem?_take, List.getElem?_drop]
      split
      · rw [List.getElem?_set_ne (by omega)]
      · rfl
    have := fieldZ_inj (sumZ_fits hbc hlc) (sumZ_fits hb h) (by rw [f1, f2, f3])
    rw [sumZ_set zs i c h hi (by omega)] at this
    omega

/-- a byte and another that is not 0, by xor -/
theorem xor_byte (d b : Int) (h0 : 0 ≤ d ∧ d ≤ 255) (h1 : 0 ≤ b ∧ b ≤ 255) (hb : b ≠ 0) : (0 ≤ ((d.toNat ^^^ b.toNat : Nat) : Int) ∧ ((d.toNat ^^^ b.toNat : Nat) : Int) ≤ 255) ∧ ((d.toNat ^^^ b.toNat : Nat) : Int) ≠ d := by
  have hlt : d.toNat ^^^ b.toNat < 2 ^ 8 := Nat.xor_lt_two_pow (by omega) (by omega)
  refine ⟨by omega, fun e => hb ?_⟩
  have e' : d.toNat ^^^ b.toNat = d.toNat := by omega
  have : b.toNat = 0 := by
    have h := congrArg (fun x => d.toNat ^^^ x) e'
    simp only [← Nat.xor_assoc, Nat.xor_self, Nat.zero_xor] at h
    exact h
  omega

/-- a block of 512 bytes made of zs -/
def blkZ (zs : List Int) : List Int := lay (zeros 512) 0 (zs.take 512)
theorem blk_length (zs : List Int) : (blkZ zs).length = 512 := by rw [blkZ, lay_length _ _ _ (by rw [List.length_take, zeros_length]; omega), zeros_length]
theorem blk_bytes {zs : List Int} (h : Bytes zs) : Bytes (blkZ zs) := lay_bytes _ (zeros_bytes 512) (h.take _)

/-- the error of Sum and Seal; what they answer; the answer of Verify -/
def ckE (zs : List Int) : Int := if zs.length = 512 then 0 else 2
def ckN (zs : List Int) : Int := if zs.length = 512 then sumZ zs else 0
def ckV (zs : List Int) : Int := if zs.length = 512 then (if zs = sealZ zs then 0 else 9) else 2
theorem ver_of (zs : List Int) : ∃ v : Int, (zs = sealZ zs ∧ v = 0) ∨ (¬ zs = sealZ zs ∧ v = 9) := by
  by_cases h : zs = sealZ zs
  · exact ⟨0, .inl ⟨h, rfl⟩⟩
  · exact ⟨9, .inr ⟨h, rfl⟩⟩
end Go.Proofs.YtmbimnnacjbdfaaGreatDoor.Chk
/-
  The arithmetic of layer 2: what Format, Fits and Parse answer, on lists of bytes.
-/
namespace Go.Proofs.YtmbimnnacjbdfaaGreatDoor.Cst

/-- the error of Format -/
def ceF (zs : List Int) (wd : Int) : Int := if wd < 1 ∨ 256 < wd then 2 else if (0 : Int) ∈ zs then 6 else if wd < zs.length then 7 else 0
/-- the field of k bytes -/
def fldS (zs : List Int) (k : Nat) : List Int := zs ++ List.replicate (k - zs.length) 0

theorem ceF_zero {zs : List Int} {wd : Int} : ceF zs wd = 0 ↔ 1 ≤ wd ∧ wd ≤ 256 ∧ (0 : Int) ∉ zs ∧ (zs.length : Int) ≤ wd := by
  unfold ceF
  split
  · omega
  · split
    · simp_all
    · split
      · omega
      · simp_all; try omega

theorem fldS_length (zs : List Int) (k : Nat) (h : zs.length ≤ k) : (fldS zs k).length = k := by simp [fldS]; omega
theorem fldS_bd (zs : List Int) (k : Nat) (h : ∀ z ∈ zs, 0 ≤ z ∧ z ≤ 255) : ∀ z ∈ fldS zs k, 0 ≤ z ∧ z ≤ 255 := by
  intro z hz
  rcases List.mem_append.1 hz with hz | hz
  · exact h z hz
  · have := List.eq_of_mem_replicate hz; omega

/-- without the zeros at the end -/
def trimZ (zs : List Int) : List Int := (zs.reverse.dropWhile (· == 0)).reverse

theorem trimZ_snoc_zero (zs : List Int) : trimZ (zs ++ [0]) = trimZ zs := by simp [trimZ]
theorem trimZ_snoc_ne (zs : List Int) {x : Int} (h : x ≠ 0) : trimZ (zs ++ [x]) = zs ++ [x] := by
  have : (x == 0) = false := by simpa using h
  simp [trimZ, this]
theorem trimZ_nil : trimZ [] = [] := rfl
theorem trimZ_zeros (zs : List Int) : ∀ m, trimZ (zs ++ List.replicate m 0) = trimZ zs
  | 0 => by simp
  | m + 1 => by rw [List.replicate_succ', ← List.append_assoc, trimZ_snoc_zero, trimZ_zeros zs m]
theorem trimZ_back (zs : List Int) : ∃ m, zs = trimZ zs ++ List.replicate m 0 := by
  have key : ∀ l : List Int, ∃ m, l.reverse = trimZ l.reverse ++ List.replicate m 0 := by
    intro l
    induction l with
    | nil => exact ⟨0, rfl⟩
    | cons x l ih =>
      rw [List.reverse_cons]
      by_cases hx : x = 0
      · subst hx
        obtain ⟨m, hm⟩ := ih
        exact ⟨m + 1, by rw [trimZ_snoc_zero, List.replicate_succ', ← List.append_assoc, ← hm]⟩
      · exact ⟨0, by rw [trimZ_snoc_ne _ hx]; simp⟩
  simpa using key zs.reverse
theorem trimZ_free {zs : List Int} (h : (0 : Int) ∉ zs) : trimZ zs = zs := by
  obtain ⟨m, hm⟩ := trimZ_back zs
  rcases m with _ | m
  · simpa using hm.symm
  · exfalso; apply h; rw [hm]; simp
theorem trimZ_length (zs : List Int) : (trimZ zs).length ≤ zs.length := by
  obtain ⟨m, hm⟩ := trimZ_back zs
  have := congrArg List.length hm
  simp at this; omega
theorem trimZ_bd (zs : List Int) (h : ∀ z ∈ zs, 0 ≤ z ∧ z ≤ 255) : ∀ z ∈ trimZ zs, 0 ≤ z ∧ z ≤ 255 := by
  intro z hz
  obtain ⟨m, hm⟩ := trimZ_back zs
  exact h z (by rw [hm]; exact List.mem_append_left _ hz)

/-- what Parse answers: the bytes of the string, the error -/
def cpS (zs : List Int) : List Int := if zs.length < 1 ∨ 256 < zs.length then [] else if (0 : Int) ∈ trimZ zs then [] else trimZ zs
def cpE (zs : List Int) : Int := if zs.length < 1 ∨ 256 < zs.length then 2 else if (0 : Int) ∈ trimZ zs then 6 else 0

theorem cpE_zero {zs : List Int} : cpE zs = 0 ↔ 1 ≤ zs.length ∧ zs.length ≤ 256 ∧ (0 : Int) ∉ trimZ zs := by
  unfold cpE
  split
  · omega
  · split
    · simp_all
    · rename_i h1 h2; exact ⟨fun _ => ⟨by omega, by omega, h2⟩, fun _ => rfl⟩
theorem cpS_ok {zs : List Int} (h : cpE zs = 0) : cpS zs = trimZ zs := by
  have := cpE_zero.1 h
  unfold cpS; rw [if_neg (by omega), if_neg this.2.2]
theorem cpS_err {zs : List Int} (h : cpE zs ≠ 0) : cpS zs = [] := by
  unfold cpS
  split
  · rfl
  · rename_i h1
    split
    · rfl
    · rename_i h2
      exact absurd (cpE_zero.2 ⟨by omega, by omega, h2⟩) h
theorem cpS_bd (zs : List Int) (h : ∀ z ∈ zs, 0 ≤ z ∧ z ≤ 255) : ∀ z ∈ cpS zs, 0 ≤ z ∧ z ≤ 255 := by
  unfold cpS
  split
  · simp
  · split
    · simp
    · exact trimZ_bd zs h

theorem fldS_trim {zs : List Int} : fldS (trimZ zs) zs.length = zs := by
  obtain ⟨m, hm⟩ := trimZ_back zs
  have := congrArg List.length hm
  simp at this
  unfold fldS
  rw [show zs.length - (trimZ zs).length = m by omega]
  exact hm.symm
theorem trim_fldS {zs : List Int} (k : Nat) (h : (0 : Int) ∉ zs) : trimZ (fldS zs k) = zs := by
  unfold fldS; rw [trimZ_zeros, trimZ_free h]
theorem take_snoc' {zs : List Int} {j : Nat} (h : j < zs.length) : zs.take (j + 1) = zs.take j ++ [zs.getD j 0] := by
  rw [List.take_add_one, List.getD_eq_getElem?_getD, List.getElem?_eq_getElem h]; rfl

end Go.Proofs.YtmbimnnacjbdfaaGreatDoor.Cst
/-
  The arithmetic of layer 7: the block of a header, what Check, Encode and Decode answer. No memory.
-/
namespace Go.Proofs.YtmbimnnacjbdfaaGreatDoor.Ust
open Oct Cst Chk

/-- a header as a value -/
abbrev hdV (T : Int) (nm pf lk : ByteArray) (md sz : Int) : List Go.Value := [.int .u8 T, .string nm, .string pf, .string lk, .int .i64 md, .int .i64 sz]

def known (T : Int) : Prop := T = 48 ∨ T = 49 ∨ T = 50 ∨ T = 53 ∨ T = 120
instance (T : Int) : Decidable (known T) := by unfold known; infer_instance

/-- the error of Check -/
def ckH (T : Int) (nm pf lk : ByteArray) (md sz : Int) : Int :=
  if ¬ known T then 8 else if ceF (numsOf nm) 100 ≠ 0 then ceF (numsOf nm) 100 else if ceF (numsOf lk) 100 ≠ 0 then ceF (numsOf lk) 100 else if ceF (numsOf pf) 155 ≠ 0 then ceF (numsOf pf) 155 else
    if md < 0 ∨ 4095 < md then 16 else if sz < 0 ∨ 8589934591 < sz then 3 else 0

theorem ckH_zero {T : Int} {nm pf lk : ByteArray} {md sz : Int} : ckH T nm pf lk md sz = 0 ↔ known T ∧ ceF (numsOf nm) 100 = 0 ∧ ceF (numsOf lk) 100 = 0 ∧ ceF (numsOf pf) 155 = 0 ∧ (0 ≤ md ∧ md ≤ 4095) ∧ (0 ≤ sz ∧ sz ≤ 8589934591) := by
  unfold ckH
  constructor
  · intro h
    split at h
    · cases h
    · split at h
      · contradiction
      · split at h
        · contradiction
        · split at h
          · contradiction
          · split at h
            · cases h
            · split at h
              · cases h
              · refine ⟨?_, ?_, ?_, ?_, ?_, ?_⟩ <;> first | omega | (apply Decidable.byContradiction; assumption)
  · rintro ⟨h1, h2, h3, h4, h5, h6⟩
    rw [if_neg (by simpa using h1), if_neg (by simpa using h2), if_neg (by simpa using h3), if_neg (by simpa using h4), if_neg (by omega), if_neg (by omega)]

/-- what stands ahead of the checksum, and behind it -/
def headA (nm : List Int) (md sz : Int) : List Int := fldS nm 100 ++ (fld 7 md ++ (fld 7 0 ++ (fld 7 0 ++ (fld 11 sz ++ fld 11 0))))
def magic : List Int := [117, 115, 116, 97, 114, 0, 48, 48]
def tailB (T : Int) (pf lk : List Int) : List Int := [T] ++ (fldS lk 100 ++ (magic ++ (zeros 32 ++ (zeros 32 ++ (fld 7 0 ++ (fld 7 0 ++ (fldS pf 155 ++ zeros 12)))))))
/-- the block, blanks in the place of the checksum -/
def rawH (T : Int) (nm pf lk : ByteArray) (md sz : Int) : List Int := headA (numsOf nm) md sz ++ (sp8 ++ tailB T (numsOf pf) (numsOf lk))
def encH (T : Int) (nm pf lk : ByteArray) (md sz : Int) : List Int := sealZ (rawH T nm pf lk md sz)

theorem headA_length {nm : List Int} {md sz : Int} (h : nm.length ≤ 100) : (headA nm md sz).length = 148 := by
  unfold headA; simp [fldS_length _ _ h, fld_length]
theorem tailB_length {T : Int} {pf lk : List Int} (h1 : pf.length ≤ 155) (h2 : lk.length ≤ 100) : (tailB T pf lk).length = 356 := by
  unfold tailB; simp [fldS_length _ _ h1, fldS_length _ _ h2, fld_length, zeros_length, magic]
theorem ce_len {s : ByteArray} {k : Nat} (h : ceF (numsOf s) k = 0) : (numsOf s).length ≤ k := by have := (ceF_zero.1 h).2.2.2; omega
theorem numsOf_bytes (s : ByteArray) : Bytes (numsOf s) := numsOf_bd s
theorem fldS_bytes {zs : List Int} (h : Bytes zs) (k : Nat) : Bytes (fldS zs k) := fldS_bd zs k h
theorem fld_bytes (k : Nat) (n : Int) : Bytes (fld k n) := fld_bd k n
theorem known_byte {T : Int} (h : known T) : 0 ≤ T ∧ T ≤ 255 := by unfold known at h; omega
theorem one_byte {T : Int} (h : 0 ≤ T ∧ T ≤ 255) : Bytes [T] := fun z hz => by rw [List.mem_singleton.1 hz]; exact h
theorem headA_bytes {nm : List Int} (h : Bytes nm) (md sz : Int) : Bytes (headA nm md sz) :=
  (fldS_bytes h 100).append ((fld_bytes 7 md).append ((fld_bytes 7 0).append ((fld_bytes 7 0).append ((fld_bytes 11 sz).append (fld_bytes 11 0)))))
theorem tailB_bytes {T : Int} {pf lk : List Int} (hT : 0 ≤ T ∧ T ≤ 255) (h1 : Bytes pf) (h2 : Bytes lk) : Bytes (tailB T pf lk) :=
  (one_byte hT).append ((fldS_bytes h2 100).append (Bytes.append (by unfold magic Bytes; decide) ((zeros_bytes 32).append ((zeros_bytes 32).append ((fld_bytes 7 0).append ((fld_bytes 7 0).append ((fldS_bytes h1 155).append (zeros_bytes 12))))))))
theorem raw_bytes {T : Int} (hT : 0 ≤ T ∧ T ≤ 255) (nm pf lk : ByteArray) (md sz : Int) : Bytes (rawH T nm pf lk md sz) :=
  (headA_bytes (numsOf_bytes nm) md sz).append (sp8_bytes.append (tailB_bytes hT (numsOf_bytes pf) (numsOf_bytes lk)))
theorem enc_bytes {T : Int} (hT : 0 ≤ T ∧ T ≤ 255) (nm pf lk : ByteArray) (md sz : Int) : Bytes (encH T nm pf lk md sz) := seal_bytes (raw_bytes hT nm pf lk md sz)

section
variable {T : Int} {nm pf lk : ByteArray} {md sz : Int}

theorem raw_length (h : ckH T nm pf lk md sz = 0) : (rawH T nm pf lk md sz).length = 512 := by
  obtain ⟨_, h2, h3, h4, _⟩ := ckH_zero.1 h
  unfold rawH
  simp [headA_length (ce_len (k := 100) h2), tailB_length (ce_len (k := 155) h4) (ce_len (k := 100) h3), sp8_length]
theorem enc_length (h : ckH T nm pf lk md sz = 0) : (encH T nm pf lk md sz).length = 512 := seal_length (raw_length h)
theorem enc_sealed (h : ckH T nm pf lk md sz = 0) : sealZ (encH T nm pf lk md sz) = encH T nm pf lk md sz := sealZ_sealZ _ (raw_length h)

theorem app_drop {a b : List Int} {m : Nat} (n k : Nat) (ha : a.length = n) (hm : m = n + k) : (a ++ b).drop m = b.drop k := by
  subst hm; subst ha; rw [List.drop_append]; simp
theorem app_take {a b : List Int} {n : Nat} (ha : a.length = n) : (a ++ b).take n = a := by subst ha; simp

theorem enc_eq (h : ckH T nm pf lk md sz = 0) : ∃ F : List Int, F.length = 8 ∧ encH T nm pf lk md sz = headA (numsOf nm) md sz ++ (F ++ tailB T (numsOf pf) (numsOf lk)) := by
  obtain ⟨_, h2, h3, h4, _⟩ := ckH_zero.1 h
  have la := headA_length (md := md) (sz := sz) (ce_len (k := 100) h2)
  refine ⟨_, fieldZ_length (sumZ (rawH T nm pf lk md sz)), ?_⟩
  unfold encH sealZ lay
  rw [fieldZ_length]
  have e1 : (rawH T nm pf lk md sz).take 148 = headA (numsOf nm) md sz := app_take la
  have e2 : (rawH T nm pf lk md sz).drop (148 + 8) = tailB T (numsOf pf) (numsOf lk) := by
    unfold rawH
    rw [app_drop 148 8 la rfl, app_drop 8 0 sp8_length rfl, List.drop_zero]
  rw [e1, e2]

theorem enc_fields (h : ckH T nm pf lk md sz = 0) : (encH T nm pf lk md sz).take 100 = fldS (numsOf nm) 100 ∧ ((encH T nm pf lk md sz).drop 100).take 8 = fld 7 md ∧ ((encH T nm pf lk md sz).drop 124).take 12 = fld 11 sz ∧
    (encH T nm pf lk md sz).getD 156 0 = T ∧ ((encH T nm pf lk md sz).drop 157).take 100 = fldS (numsOf lk) 100 ∧ ((encH T nm pf lk md sz).drop 345).take 155 = fldS (numsOf pf) 155 := by
  obtain ⟨F, hF, he⟩ := enc_eq h
  obtain ⟨_, h2, h3, h4, _⟩ := ckH_zero.1 h
  have l1 := fldS_length _ _ (ce_len (k := 100) h2)
  have l2 := fldS_length _ _ (ce_len (k := 100) h3)
  have l3 := fldS_length _ _ (ce_len (k := 155) h4)
  have la := headA_length (md := md) (sz := sz) (ce_len (k := 100) h2)
  have f7 := fld_length 7
  have f11 := fld_length 11
  have e1 : ∀ X : List Int, headA (numsOf nm) md sz ++ X = fldS (numsOf nm) 100 ++ (fld 7 md ++ (fld 7 0 ++ (fld 7 0 ++ (fld 11 sz ++ (fld 11 0 ++ X))))) := fun X => by simp only [headA, List.append_assoc]
  have e2 : tailB T (numsOf pf) (numsOf lk) = [T] ++ (fldS (numsOf lk) 100 ++ (magic ++ (zeros 32 ++ (zeros 32 ++ (fld 7 0 ++ (fld 7 0 ++ (fldS (numsOf pf) 155 ++ zeros 12))))))) := rfl
  rw [he]
  refine ⟨?_, ?_, ?_, ?_, ?_, ?_⟩
  · rw [e1]; exact app_take l1
  · rw [e1, app_drop 100 0 l1 rfl, List.drop_zero]; exact app_take (f7 md)
  · rw [e1, app_drop 100 24 l1 rfl, app_drop 8 16 (f7 md) rfl, app_drop 8 8 (f7 0) rfl, app_drop 8 0 (f7 0) rfl, List.drop_zero]; exact app_take (f11 sz)
  · rw [List.getD_eq_getElem?_getD, List.getElem?_append_right (by omega), List.getElem?_append_right (by omega), la, hF, e2]; rfl
  · rw [app_drop 148 9 la rfl, app_drop 8 1 hF rfl, e2, app_drop 1 0 rfl rfl, List.drop_zero]; exact app_take l2
  · rw [app_drop 148 197 la rfl, app_drop 8 189 hF rfl, e2, app_drop 1 188 rfl rfl, app_drop 100 88 l2 rfl, app_drop 8 80 rfl rfl, app_drop 32 48 (zeros_length 32) rfl, app_drop 32 16 (zeros_length 32) rfl, app_drop 8 8 (f7 0) rfl, app_drop 8 0 (f7 0) rfl, List.drop_zero]; exact app_take l3
end

/-- what Decode reads -/
def dT (zs : List Int) : Int := zs.getD 156 0
def dNm (zs : List Int) : ByteArray := strOfNums (cpS (zs.take 100))
def dLk (zs : List Int) : ByteArray := strOfNums (cpS ((zs.drop 157).take 100))
def dPf (zs : List Int) : ByteArray := strOfNums (cpS ((zs.drop 345).take 155))
def dMd (zs : List Int) : Int := pzV ((zs.drop 100).take 8)
def dSz (zs : List Int) : Int := pzV ((zs.drop 124).take 12)
/-- the fields can be read -/
def dFld (zs : List Int) : Prop := cpE (zs.take 100) = 0 ∧ cpE ((zs.drop 157).take 100) = 0 ∧ cpE ((zs.drop 345).take 155) = 0 ∧ pzE ((zs.drop 100).take 8) = 0 ∧ pzE ((zs.drop 124).take 12) = 0
instance (zs : List Int) : Decidable (dFld zs) := by unfold dFld; infer_instance
/-- what was read is the block's header -/
def dOk (zs : List Int) : Prop := dFld zs ∧ ckH (dT zs) (dNm zs) (dPf zs) (dLk zs) (dMd zs) (dSz zs) = 0 ∧ encH (dT zs) (dNm zs) (dPf zs) (dLk zs) (dMd zs) (dSz zs) = zs
instance (zs : List Int) : Decidable (dOk zs) := by unfold dOk; infer_instance
/-- the error of Decode -/
def deE (zs : List Int) : Int := if zs.length ≠ 512 then 2 else if zs ≠ sealZ zs then 9 else if ¬ known (dT zs) then 8 else if dOk zs then 0 else 6

theorem cp_fld {s : ByteArray} {k : Nat} (hk : k ≤ 256) (h : ceF (numsOf s) k = 0) : cpE (fldS (numsOf s) k) = 0 ∧ strOfNums (cpS (fldS (numsOf s) k)) = s := by
  obtain ⟨h1, _, h3, h4⟩ := ceF_zero.1 h
  have hl := fldS_length (numsOf s) k (by omega)
  have ht := trim_fldS k h3
  have e : cpE (fldS (numsOf s) k) = 0 := cpE_zero.2 ⟨by omega, by omega, by rw [ht]; exact h3⟩
  exact ⟨e, by rw [cpS_ok e, ht, strOfNums_numsOf]⟩
theorem pz_fld {k : Nat} {n : Int} (h1 : 1 ≤ k) (h2 : k ≤ 21) (h0 : 0 ≤ n) (hm : n ≤ mx k) : pzE (fld k n) = 0 ∧ pzV (fld k n) = n := by
  have hl := fld_length k n
  have ht : (fld k n).take ((fld k n).length - 1) = oct k n := by rw [hl, Nat.add_sub_cancel]; unfold fld; rw [List.take_left' (oct_length k n)]
  have ok : pzOk (fld k n) := by
    refine ⟨?_, by rw [ht]; exact oct_bd k n⟩
    rw [hl, Nat.add_sub_cancel, List.getD_eq_getElem?_getD]
    unfold fld
    rw [List.getElem?_append_right (by rw [oct_length]; exact Nat.le_refl _), oct_length, Nat.sub_self]; rfl
  have hb : ¬ ((fld k n).length < 2 ∨ 22 < (fld k n).length) := by omega
  exact ⟨by unfold pzE; rw [if_neg hb, if_pos ok], by unfold pzV; rw [if_neg hb, if_pos ok, ht]; exact val_oct k n h0 hm⟩
theorem mx_7 : mx 7 = 2097151 := by decide
theorem mx_11' : mx 11 = 8589934591 := by decide

section
variable {T : Int} {nm pf lk : ByteArray} {md sz : Int}
/-- Decode reads what Encode wrote -/
theorem dec_enc (h : ckH T nm pf lk md sz = 0) : deE (encH T nm pf lk md sz) = 0 ∧ dT (encH T nm pf lk md sz) = T ∧ dNm (encH T nm pf lk md sz) = nm ∧ dPf (encH T nm pf lk md sz) = pf ∧ dLk (encH T nm pf lk md sz) = lk ∧
    dMd (encH T nm pf lk md sz) = md ∧ dSz (encH T nm pf lk md sz) = sz := by
  obtain ⟨f1, f2, f3, f4, f5, f6⟩ := enc_fields h
  obtain ⟨k1, k2, k3, k4, k5, k6⟩ := ckH_zero.1 h
  have e1 : dT (encH T nm pf lk md sz) = T := f4
  have e2 : dNm (encH T nm pf lk md sz) = nm := by unfold dNm; rw [f1]; exact (cp_fld (k := 100) (by decide) k2).2
  have e3 : dPf (encH T nm pf lk md sz) = pf := by unfold dPf; rw [f6]; exact (cp_fld (k := 155) (by decide) k4).2
  have e4 : dLk (encH T nm pf lk md sz) = lk := by unfold dLk; rw [f5]; exact (cp_fld (k := 100) (by decide) k3).2
  have hm := mx_7; have hs := mx_11'
  have p1 := pz_fld (k := 7) (n := md) (by decide) (by decide) k5.1 (by omega)
  have p2 := pz_fld (k := 11) (n := sz) (by decide) (by decide) k6.1 (by omega)
  have e5 : dMd (encH T nm pf lk md sz) = md := by unfold dMd; rw [f2]; exact p1.2
  have e6 : dSz (encH T nm pf lk md sz) = sz := by unfold dSz; rw [f3]; exact p2.2
  have hf : dFld (encH T nm pf lk md sz) := by
    unfold dFld
    rw [f1, f2, f3, f5, f6]
    exact ⟨(cp_fld (k := 100) (by decide) k2).1, (cp_fld (k := 100) (by decide) k3).1, (cp_fld (k := 155) (by decide) k4).1, p1.1, p2.1⟩
  refine ⟨?_, e1, e2, e3, e4, e5, e6⟩
  unfold deE
  rw [if_neg (by rw [enc_length h]; simp), if_neg (by rw [enc_sealed h]; simp), if_neg (by rw [e1]; simpa using k1), if_pos ⟨hf, by rw [e1, e2, e3, e4, e5, e6]; exact ⟨h, rfl⟩⟩]
/-- the code is one to one -/
theorem enc_inj {T' : Int} {nm' pf' lk' : ByteArray} {md' sz' : Int} (h : ckH T nm pf lk md sz = 0) (h' : ckH T' nm' pf' lk' md' sz' = 0) (he : encH T nm pf lk md sz = encH T' nm' pf' lk' md' sz') :
    T = T' ∧ nm = nm' ∧ pf = pf' ∧ lk = lk' ∧ md = md' ∧ sz = sz' := by
  obtain ⟨_, a1, a2, a3, a4, a5, a6⟩ := dec_enc h
  obtain ⟨_, b1, b2, b3, b4, b5, b6⟩ := dec_enc h'
  rw [he] at a1 a2 a3 a4 a5 a6
  exact ⟨a1.symm.trans b1, a2.symm.trans b2, a3.symm.trans b3, a4.symm.trans b4, a5.symm.trans b5, a6.symm.trans b6⟩
end
/-- every accepted block is an encoding -/
theorem dec_ok {zs : List Int} (h : deE zs = 0) : zs.length = 512 ∧ zs = sealZ zs ∧ known (dT zs) ∧ dOk zs := by
  unfold deE at h
  split at h
  · cases h
  · split at h
    · cases h
    · split at h
      · cases h
      · split at h
        · rename_i h1 h2 h3 h4
          exact ⟨by omega, Decidable.byContradiction h2, Decidable.byContradiction h3, h4⟩
        · cases h
theorem deE_cases (zs : List Int) : deE zs = 0 ∨ deE zs = 2 ∨ deE zs = 9 ∨ deE zs = 8 ∨ deE zs = 6 := by
  unfold deE; repeat' split
  all_goals simp
end Go.Proofs.YtmbimnnacjbdfaaGreatDoor.Ust
/-
  Layer 10: the header of a plan is valid. No memory.
-/
namespace Go.Proofs.YtmbimnnacjbdfaaGreatDoor.Fit
open Go.Lib Go.RowKit Pxr Pnm

theorem str_sz (zs : List Int) : (strOfNums zs).size = zs.length := by
  rw [Lib.size_eq, strOfNums_data, List.length_map]
theorem pl_hd {e : Ent} (h : Ok e) : (plH e).nm.size ≤ 100 ∧ (plH e).pf.size ≤ 155 ∧ (plH e).lk.size ≤ 100 ∧ Ust.ckH (plH e).T (plH e).nm (plH e).pf (plH e).lk (plH e).md (plH e).sz = 0 := by
  have hp := path_pos h.path
  have h0 := path_nozero (chE_zero.1 h.path).2
  have hs := spl_nums e.p
  have hN : (0 : Int) ∉ splN (numsOf e.p) ∧ (splN (numsOf e.p)).length ≤ 100 ∧ (0 : Int) ∉ splP (numsOf e.p) ∧ (splP (numsOf e.p)).length ≤ 155 := by
    rcases spl_cases e.p with ⟨_, a, b, c⟩ | ⟨_, _, _, d, e1, e2, _⟩ | ⟨_, a, b, _⟩
    · rw [a, b]; exact ⟨h0, by rw [numsOf_length]; exact c, by simp, by simp⟩
    · refine ⟨fun hm => h0 (by rw [d]; exact List.mem_append_right _ (List.mem_cons_of_mem _ hm)), e2, fun hm => h0 (by rw [d]; exact List.mem_append_left _ hm), e1⟩
    · rw [a, b]; exact ⟨by simp, by simp, by simp, by simp⟩
  have hl : (plH e).lk.size ≤ 100 ∧ (0 : Int) ∉ numsOf (plH e).lk := by
    show (if e.t.size ≤ 100 then e.t else emp).size ≤ 100 ∧ (0 : Int) ∉ numsOf (if e.t.size ≤ 100 then e.t else emp)
    by_cases hc : e.t.size ≤ 100
    · rw [if_pos hc]
      refine ⟨hc, ?_⟩
      rcases (tg_cases h.tg).2.2 with ht | ht
      · rw [ht]; decide
      · intro hm
        unfold chkT at ht
        rw [if_neg (by omega), if_pos (.inr hm)] at ht
        cases ht
    · rw [if_neg hc]; decide
  obtain ⟨s0, s1, _⟩ := sz_cases h.sz
  refine ⟨by show (strOfNums (splN (numsOf e.p))).size ≤ 100; rw [str_sz]; exact hN.2.1, by show (strOfNums (splP (numsOf e.p))).size ≤ 155; rw [str_sz]; exact hN.2.2.2, hl.1, Ust.ckH_zero.2 ⟨?_, ?_, ?_, ?_, ⟨h.m0, h.m1⟩, ?_⟩⟩
  · have := ty_known h.k0 h.k4
    show Ust.known (tyZ e.k)
    unfold Ust.known; omega
  · refine Cst.ceF_zero.2 ⟨by decide, by decide, ?_, ?_⟩
    · show (0 : Int) ∉ numsOf (strOfNums (splN (numsOf e.p))); rw [hs.2]; exact hN.1
    · show ((numsOf (strOfNums (splN (numsOf e.p)))).length : Int) ≤ 100; rw [hs.2]; have := hN.2.1; omega
  · refine Cst.ceF_zero.2 ⟨by decide, by decide, hl.2, ?_⟩
    rw [numsOf_length]; have := hl.1; omega
  · refine Cst.ceF_zero.2 ⟨by decide, by decide, ?_, ?_⟩
    · show (0 : Int) ∉ numsOf (strOfNums (splP (numsOf e.p))); rw [hs.1]; exact hN.2.2.1
    · show ((numsOf (strOfNums (splP (numsOf e.p)))).length : Int) ≤ 155; rw [hs.1]; have := hN.2.2.2; omega
  · show 0 ≤ (if e.s ≤ 8589934591 then e.s else 0) ∧ (if e.s ≤ 8589934591 then e.s else 0) ≤ 8589934591
    split <;> omega
theorem pl_vals {e : Ent} (h : Ok e) : ∀ r ∈ plL e, r.2.size ≤ 65536 := fun r hr => (good_of (pl_chk h r hr)).val
end Go.Proofs.YtmbimnnacjbdfaaGreatDoor.Fit
