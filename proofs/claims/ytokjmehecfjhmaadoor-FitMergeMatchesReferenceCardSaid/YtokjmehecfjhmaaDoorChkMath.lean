/-
  The arithmetic of layer 3: the checksum of a block of bytes, the sealed block.
-/
import Derived.Test.YtokjmehecfjhmaaDoorArr
import Derived.Test.YtokjmehecfjhmaaDoorOctMath
namespace Go.Proofs.YtokjmehecfjhmaaDoor.Chk
open Oct

theorem sum_bd {zs : List Int} (h : Bytes zs) : 0 ≤ zs.sum ∧ zs.sum ≤ 255 * zs.length := by
  induction zs with
  | nil => simp
  | cons z zs ih =>
    have h1 := h z (by simp)
    have h2 := ih (fun x hx => h x (List.mem_cons_of_mem _ hx))
    simp only [List.sum_cons, List.length_cons]
    omega
theorem sum_take_succ {zs : List Int} {j : Nat} (h : j < zs.length) : (zs.take (j + 1)).sum = (zs.take j).sum + zs.getD j 0 := by
  rw [take_snoc h]; simp
theorem take_sum_bd {zs : List Int} (h : Bytes zs) (j : Nat) : 0 ≤ (zs.take j).sum ∧ (zs.take j).sum ≤ 255 * j := by
  have := sum_bd (h.take j)
  have := List.length_take_le j zs
  omega

/-- eight spaces -/
def sp8 : List Int := List.replicate 8 32
theorem sp8_length : sp8.length = 8 := rfl
/-- the block with a blank checksum field -/
def blankZ (zs : List Int) : List Int := lay zs 148 sp8
/-- the checksum -/
def sumZ (zs : List Int) : Int := (blankZ zs).sum
/-- the checksum field -/
def fieldZ (n : Int) : List Int := fld 6 n ++ [32]
theorem fieldZ_length (n : Int) : (fieldZ n).length = 8 := by simp [fieldZ, fld_length]
/-- the sealed block -/
def sealZ (zs : List Int) : List Int := lay zs 148 (fieldZ (sumZ zs))

theorem blank_length {zs : List Int} (h : zs.length = 512) : (blankZ zs).length = 512 := by rw [blankZ, lay_length _ _ _ (by rw [sp8_length]; omega), h]
theorem seal_length {zs : List Int} (h : zs.length = 512) : (sealZ zs).length = 512 := by rw [sealZ, lay_length _ _ _ (by rw [fieldZ_length]; omega), h]
theorem sp8_bytes : Bytes sp8 := .replicate 8 (by decide)
theorem blank_bytes {zs : List Int} (h : Bytes zs) : Bytes (blankZ zs) := lay_bytes _ h sp8_bytes
theorem field_bytes (n : Int) : Bytes (fieldZ n) := Bytes.append (fld_bd 6 n) (.replicate 1 (by decide))
theorem seal_bytes {zs : List Int} (h : Bytes zs) : Bytes (sealZ zs) := lay_bytes _ h (field_bytes _)

theorem sumZ_eq (zs : List Int) : sumZ zs = (zs.take 148).sum + 256 + (zs.drop 156).sum := by
  simp [sumZ, blankZ, lay, sp8]; omega
theorem sumZ_bd {zs : List Int} (h : Bytes zs) (hl : zs.length = 512) : 256 ≤ sumZ zs ∧ sumZ zs ≤ 128776 := by
  have h1 := sum_bd (h.take 148)
  have h2 := sum_bd (h.drop 156)
  rw [List.length_take] at h1
  rw [List.length_drop] at h2
  rw [sumZ_eq]
  omega
theorem mx_6 : mx 6 = 262143 := by decide
theorem sumZ_fits {zs : List Int} (h : Bytes zs) (hl : zs.length = 512) : 0 ≤ sumZ zs ∧ sumZ zs ≤ mx 6 := by
  have := sumZ_bd h hl
  rw [mx_6]; omega

theorem take_lay (zs : List Int) (ys : List Int) (h : 148 ≤ zs.length) : (lay zs 148 ys).take 148 = zs.take 148 := by
  unfold lay
  rw [List.take_append_of_le_length (by rw [List.length_take]; omega), List.take_take, Nat.min_self]
theorem drop_lay (zs : List Int) (ys : List Int) (h : 148 ≤ zs.length) (hy : ys.length = 8) : (lay zs 148 ys).drop 156 = zs.drop 156 := by
  unfold lay
  rw [List.drop_append, List.drop_eq_nil_of_le (by rw [List.length_take]; omega), List.length_take, Nat.min_eq_left h, List.nil_append, List.drop_append, List.drop_eq_nil_of_le (by omega), hy]
  simp
theorem lay_lay (zs xs ys : List Int) (h : 148 ≤ zs.length) (hx : xs.length = 8) (hy : ys.length = 8) : lay (lay zs 148 xs) 148 ys = lay zs 148 ys := by
  rw [lay, take_lay zs xs h, hy, show 148 + 8 = 156 from rfl, drop_lay zs xs h hx]
  simp [lay, hy]
/-- the field's bytes don't count -/
theorem sumZ_lay (zs ys : List Int) (h : zs.length = 512) (hy : ys.length = 8) : sumZ (lay zs 148 ys) = sumZ zs := by
  rw [sumZ_eq, sumZ_eq, take_lay zs ys (by omega), drop_lay zs ys (by omega) hy]
theorem sealZ_lay (zs ys : List Int) (h : zs.length = 512) (hy : ys.length = 8) : sealZ (lay zs 148 ys) = sealZ zs := by
  unfold sealZ
  rw [sumZ_lay zs ys h hy, lay_lay zs ys _ (by omega) hy (fieldZ_length _)]
theorem sealZ_sealZ (zs : List Int) (h : zs.length = 512) : sealZ (sealZ zs) = sealZ zs := sealZ_lay zs _ h (fieldZ_length _)
theorem sumZ_sealZ (zs : List Int) (h : zs.length = 512) : sumZ (sealZ zs) = sumZ zs := sumZ_lay zs _ h (fieldZ_length _)

/-- what 'sealed' writes: first the spaces, then the digits -/
theorem seal_two (zs : List Int) (h : zs.length = 512) : lay (blankZ zs) 148 (fld 6 (sumZ zs)) = sealZ zs := by
  unfold sealZ fieldZ
  rw [lay, blankZ, take_lay zs _ (by omega), fld_length]
  have : (lay zs 148 sp8).drop (148 + (6 + 1)) = 32 :: zs.drop 156 := by
    unfold lay
    rw [List.drop_append, List.drop_eq_nil_of_le (by rw [List.length_take]; omega), List.length_take, Nat.min_eq_left (by omega), List.nil_append, show 148 + (6 + 1) - 148 = 7 from rfl]
    rfl
  rw [this]
  simp [lay, fld_length]

/-- the eight bytes of the field -/
theorem field_of_lay (zs ys : List Int) (h : 148 ≤ zs.length) (hy : ys.length = 8) : ((lay zs 148 ys).drop 148).take 8 = ys := by
  unfold lay
  rw [List.drop_append, List.drop_eq_nil_of_le (by rw [List.length_take]; omega), List.length_take, Nat.min_eq_left h, Nat.sub_self, List.nil_append, List.drop_zero, ← hy, List.take_left]
theorem fieldZ_inj {m n : Int} (hm : 0 ≤ m ∧ m ≤ mx 6) (hn : 0 ≤ n ∧ n ≤ mx 6) (h : fieldZ m = fieldZ n) : m = n := by
  unfold fieldZ fld at h
  have h1 := List.append_inj_left' h (by simp)
  have h2 := List.append_inj_left' h1 (by simp)
  rw [← val_oct 6 m hm.1 hm.2, ← val_oct 6 n hn.1 hn.2, h2]

theorem sum_set : ∀ (zs : List Int) (i : Nat) (c : Int), i < zs.length → (zs.set i c).sum = zs.sum + (c - zs.getD i 0)
  | [], i, c, h => by simp at h
  | z :: zs, 0, c, h => by simp; omega
  | z :: zs, i + 1, c, h => by
    have := sum_set zs i c (by simpa using h)
    simp only [List.set_cons_succ, List.sum_cons, this, List.getD_cons_succ]
    omega
/-- a byte outside the field is changed -/
theorem sumZ_set (zs : List Int) (i : Nat) (c : Int) (h : zs.length = 512) (hi : i < 512) (ho : i < 148 ∨ 156 ≤ i) : sumZ (zs.set i c) = sumZ zs + (c - zs.getD i 0) := by
  rw [sumZ_eq, sumZ_eq]
  rcases ho with ho | ho
  · rw [List.take_set, sum_set _ _ _ (by rw [List.length_take]; omega), List.drop_set_of_lt (by omega)]
    have : (zs.take 148).getD i 0 = zs.getD i 0 := by simp [List.getD_eq_getElem?_getD, ho]
    rw [this]; omega
  · rw [List.take_set_of_le (by omega), List.drop_set, if_neg (by omega), sum_set _ _ _ (by rw [List.length_drop]; omega)]
    have : (zs.drop 156).getD (i - 156) 0 = zs.getD i 0 := by simp [List.getD_eq_getElem?_getD, List.getElem?_drop, show 156 + (i - 156) = i by omega]
    rw [this]; omega
theorem set_in_lay (zs : List Int) (i : Nat) (c : Int) (h : zs.length = 512) (h1 : 148 ≤ i) (h2 : i < 156) : ∃ ys, ys.length = 8 ∧ zs.set i c = lay zs 148 ys := by
  refine ⟨((zs.set i c).drop 148).take 8, by simp; omega, ?_⟩
  have e1 : zs.take 148 = (zs.set i c).take 148 := by rw [List.take_set_of_le h1]
  have e2 : zs.drop (148 + 8) = ((zs.set i c).drop 148).drop 8 := by rw [List.drop_drop, List.drop_set_of_lt (by omega)]
  unfold lay
  rw [List.length_take, List.length_drop, List.length_set, h, show min 8 (512 - 148) = 8 from rfl, e2, e1, List.take_append_drop, List.take_append_drop]
/-- one byte of a sealed block is changed: it is sealed no more -/
theorem seal_one (zs : List Int) (i : Nat) (c : Int) (h : zs.length = 512) (hb : Bytes zs) (hs : sealZ zs = zs) (hi : i < 512) (hc : 0 ≤ c ∧ c ≤ 255) (hne : c ≠ zs.getD i 0) : sealZ (zs.set i c) ≠ zs.set i c := by
  by_cases hf : 148 ≤ i ∧ i < 156
  · obtain ⟨ys, hy, he⟩ := set_in_lay zs i c h hf.1 hf.2
    rw [he, sealZ_lay zs ys h hy, hs, ← he]
    intro e
    apply hne
    have := congrArg (fun l => l.getD i 0) e
    simp [List.getD_eq_getElem?_getD, h, hi] at this
    simp [List.getD_eq_getElem?_getD, h, hi, this]
  · intro e
    have hbc := hb.set i hc
    have hlc : (zs.set i c).length = 512 := by rw [List.length_set, h]
    have f1 : fieldZ (sumZ (zs.set i c)) = ((zs.set i c).drop 148).take 8 := by
      rw [← e]; unfold sealZ
      rw [sumZ_lay _ _ hlc (fieldZ_length _), field_of_lay _ _ (by omega) (fieldZ_length _)]
    have f2 : fieldZ (sumZ zs) = (zs.drop 148).take 8 := by
      rw [← hs]; unfold sealZ
      rw [sumZ_lay _ _ h (fieldZ_length _), field_of_lay _ _ (by omega) (fieldZ_length _)]
    have f3 : ((zs.set i c).drop 148).take 8 = (zs.drop 148).take 8 := by
      apply List.ext_getElem?
      intro j
      simp only [List.getElem?_take, List.getElem?_drop]
      split
      · rw [List.getElem?_set_ne (by omega)]
      · rfl
    have := fieldZ_inj (sumZ_fits hbc hlc) (sumZ_fits hb h) (by rw [f1, f2, f3])
    rw [sumZ_set zs i c h hi (by omega)] at this
    omega

/-- a byte and another that is not 0, by xor -/
theorem xor_byte (d b : Int) (h0 : 0 ≤ d ∧ d ≤ 255) (h1 : 0 ≤ b ∧ b ≤ 255) (hb : b ≠ 0) : (0 ≤ ((d.toNat ^^^ b.toNat : Nat) : Int) ∧ ((d.toNat ^^^ b.toNat : Nat) : Int) ≤ 255) ∧ ((d.toNat ^^^ b.toNat : Nat) : Int) ≠ d := by
  have hlt : d.toNat ^^^ b.toNat < 2 ^ 8 := Nat.xor_lt_two_pow (by omega) (by omega)
  refine ⟨by omega, fun e => hb ?_⟩
  have e' : d.toNat ^^^ b.toNat = d.toNat := by omega
  have : b.toNat = 0 := by
    have h := congrArg (fun x => d.toNat ^^^ x) e'
    simp only [← Nat.xor_assoc, Nat.xor_self, Nat.zero_xor] at h
    exact h
  omega

/-- a block of 512 bytes made of zs -/
def blkZ (zs : List Int) : List Int := lay (zeros 512) 0 (zs.take 512)
theorem blk_length (zs : List Int) : (blkZ zs).length = 512 := by rw [blkZ, lay_length _ _ _ (by rw [List.length_take, zeros_length]; omega), zeros_length]
theorem blk_bytes {zs : List Int} (h : Bytes zs) : Bytes (blkZ zs) := lay_bytes _ (zeros_bytes 512) (h.take _)

/-- the error of Sum and Seal; what they answer; the answer of Verify -/
def ckE (zs : List Int) : Int := if zs.length = 512 then 0 else 2
def ckN (zs : List Int) : Int := if zs.length = 512 then sumZ zs else 0
def ckV (zs : List Int) : Int := if zs.length = 512 then (if zs = sealZ zs then 0 else 9) else 2
theorem ver_of (zs : List Int) : ∃ v : Int, (zs = sealZ zs ∧ v = 0) ∨ (¬ zs = sealZ zs ∧ v = 9) := by
  by_cases h : zs = sealZ zs
  · exact ⟨0, .inl ⟨h, rfl⟩⟩
  · exact ⟨9, .inr ⟨h, rfl⟩⟩
end Go.Proofs.YtokjmehecfjhmaaDoor.Chk
