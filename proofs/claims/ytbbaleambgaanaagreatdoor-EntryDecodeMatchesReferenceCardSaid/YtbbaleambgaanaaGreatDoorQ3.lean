/- OctMath ChkMath CstMath UstMath FitPlHd -/
import Derived.Test.YtbbaleambgaanaaGreatDoorQ2
import Derived.Test.YtbbaleambgaanaaGreatDoorQ0
namespace Go.Proofs.YtbbaleambgaanaaGreatDoor.Oct
def mx (k : Nat) : Int := 8 ^ k - 1
theorem mx_succ (k : Nat) : mx (k + 1) = mx k * 8 + 7 := by unfold mx; rw [Int.pow_succ]; omega
theorem mx_nonneg (k : Nat) : 0 ≤ mx k := by
  induction k with
  | zero => exact Int.le_refl 0
  | succ k ih => rw [mx_succ]; omega
theorem mx_mono {j k : Nat} (h : j ≤ k) : mx j ≤ mx k := by
  induction h with
  | refl => exact Int.le_refl _
  | step _ ih => rw [mx_succ]; have := mx_nonneg (by assumption); omega
theorem mx_20 : mx 20 = 1152921504606846975 := by decide
theorem mx_21 : mx 21 = 9223372036854775807 := by decide
theorem mx_small {k : Nat} (h : k < 21) : mx k ≤ 1152921504606846975 := by have := mx_mono (show k ≤ 20 by omega); rw [mx_20] at this; exact this
theorem mx_le {k : Nat} (h : k ≤ 21) : mx k ≤ 9223372036854775807 := by have := mx_mono h; rw [mx_21] at this; exact this
def sh (n : Int) (j : Nat) : Int := n / 8 ^ j
theorem sh_zero (n : Int) : sh n 0 = n := by simp [sh]
theorem sh_succ (n : Int) (j : Nat) : sh n (j + 1) = sh n j / 8 := by
  unfold sh; rw [Int.pow_succ, Int.ediv_ediv_of_nonneg (Int.pow_nonneg (by decide))]
theorem sh_nonneg {n : Int} (h : 0 ≤ n) (j : Nat) : 0 ≤ sh n j := Int.ediv_nonneg h (Int.pow_nonneg (by decide))
theorem sh_le {n : Int} (h : 0 ≤ n) (j : Nat) : sh n j ≤ n := Int.ediv_le_self _ h
def oct : Nat → Int → List Int
  | 0, _ => []
  | j + 1, n => (48 + sh n j % 8) :: oct j n
theorem oct_length (j : Nat) (n : Int) : (oct j n).length = j := by induction j with
  | zero => rfl
  | succ j ih => simp [oct, ih]
def fld (k : Nat) (n : Int) : List Int := oct k n ++ [0]
theorem fld_length (k : Nat) (n : Int) : (fld k n).length = k + 1 := by simp [fld, oct_length]
def part (k j : Nat) (n : Int) : List Int := List.replicate (k - j) 0 ++ (oct j n ++ [0])
theorem part_zero (k : Nat) (n : Int) : part k 0 n = List.replicate (k + 1) 0 := by
  simp [part, oct, List.replicate_succ']
theorem part_full (k : Nat) (n : Int) : part k k n = fld k n := by simp [part, fld]
theorem part_step {k j : Nat} (n : Int) (h : j < k) : (part k j n).set (k - 1 - j) (48 + sh n j % 8) = part k (j + 1) n := by
  unfold part
  have e : k - j = (k - 1 - j) + 1 := by omega
  rw [e, List.replicate_succ', List.append_assoc, List.set_append_right _ _ (by simp)]
  simp [oct, show k - (j + 1) = k - 1 - j by omega]
theorem part_at {k j : Nat} (n : Int) (h : j < k) : (part k j n)[k - 1 - j]? = some 0 := by
  unfold part
  rw [List.getElem?_append_left (by rw [List.length_replicate]; omega), List.getElem?_replicate, if_pos (by omega)]
def val (ds : List Int) : Int := ds.foldl (fun a c => a * 8 + (c - 48)) 0
theorem val_snoc (ds : List Int) (c : Int) : val (ds ++ [c]) = val ds * 8 + (c - 48) := by simp [val, List.foldl_append]
def OctD (ds : List Int) : Prop := ∀ d ∈ ds, 48 ≤ d ∧ d ≤ 55
theorem take_snoc {ds : List Int} {j : Nat} (h : j < ds.length) : ds.take (j + 1) = ds.take j ++ [ds.getD j 0] := by
  rw [List.take_succ_eq_append_getElem h]; simp [h]
theorem val_bd : ∀ (j : Nat) (ds : List Int), ds.length = j → OctD ds → 0 ≤ val ds ∧ val ds ≤ mx j
  | 0, ds, h, _ => by
    obtain rfl : ds = [] := List.length_eq_zero_iff.1 h
    exact ⟨Int.le_refl 0, Int.le_refl 0⟩
  | j + 1, ds, h, hd => by
    have hne : ds ≠ [] := by intro e; rw [e] at h; simp at h
    obtain ⟨xs, c, rfl⟩ : ∃ xs c, ds = xs ++ [c] := ⟨ds.dropLast, ds.getLast hne, (List.dropLast_concat_getLast hne).symm⟩
    have ih := val_bd j xs (by simpa using h) (fun d m => hd d (by simp [m]))
    have := hd c (by simp)
    rw [val_snoc, mx_succ]
    omega
theorem oct_bd (j : Nat) (n : Int) : OctD (oct j n) := by
  induction j with
  | zero => intro d h; simp [oct] at h
  | succ j ih =>
    intro d h
    rcases List.mem_cons.1 h with rfl | h
    · omega
    · exact ih d h
theorem fld_bd (k : Nat) (n : Int) : ∀ z ∈ fld k n, 0 ≤ z ∧ z ≤ 255 := by
  intro z h
  rcases List.mem_append.1 h with h | h
  · have := oct_bd k n z h; omega
  · obtain rfl : z = 0 := by simpa using h
    omega
instance (ds : List Int) : Decidable (OctD ds) := by unfold OctD; infer_instance
def pzOk (zs : List Int) : Prop := zs.getD (zs.length - 1) 0 = 0 ∧ OctD (zs.take (zs.length - 1))
instance (zs : List Int) : Decidable (pzOk zs) := by unfold pzOk; infer_instance
def pzE (zs : List Int) : Int := if zs.length < 2 ∨ 22 < zs.length then 2 else if pzOk zs then 0 else 6
def pzV (zs : List Int) : Int := if zs.length < 2 ∨ 22 < zs.length then 0 else if pzOk zs then val (zs.take (zs.length - 1)) else 0
theorem foldl_from (ds : List Int) : ∀ a : Int, ds.foldl (fun a c => a * 8 + (c - 48)) a = a * 8 ^ ds.length + ds.foldl (fun a c => a * 8 + (c - 48)) 0 := by
  induction ds with
  | nil => intro a; simp
  | cons d ds ih =>
    intro a
    simp only [List.foldl_cons, List.length_cons]
    rw [ih (a * 8 + (d - 48)), ih (0 * 8 + (d - 48)), Int.pow_succ]
    grind
theorem val_cons (c : Int) (ds : List Int) : val (c :: ds) = (c - 48) * 8 ^ ds.length + val ds := by
  unfold val; rw [List.foldl_cons, foldl_from]; simp
theorem oct_sum (n : Int) : ∀ k : Nat, n = sh n k * 8 ^ k + val (oct k n)
  | 0 => by rw [sh_zero]; simp [oct, val]
  | k + 1 => by
    have ih := oct_sum n k
    have e : sh n k = 8 * sh n (k + 1) + sh n k % 8 := by rw [sh_succ]; omega
    rw [oct, val_cons, oct_length, Int.pow_succ]
    generalize val (oct k n) = v at *
    generalize sh n (k + 1) = s at *
    generalize sh n k % 8 = r at *
    generalize (8 : Int) ^ k = p at *
    rw [e] at ih
    grind
theorem val_oct (k : Nat) (n : Int) (h0 : 0 ≤ n) (hm : n ≤ mx k) : val (oct k n) = n := by
  have h := oct_sum n k
  have hz : sh n k = 0 := by unfold sh; exact Int.ediv_eq_zero_of_lt h0 (by unfold mx at hm; omega)
  rw [hz] at h
  omega
end Go.Proofs.YtbbaleambgaanaaGreatDoor.Oct
namespace Go.Proofs.YtbbaleambgaanaaGreatDoor.Chk
open Oct
theorem sum_bd {zs : List Int} (h : Bytes zs) : 0 ≤ zs.sum ∧ zs.sum ≤ 255 * zs.length := by
  induction zs with
  | nil => simp
  | cons z zs ih =>
    have h1 := h z (by simp)
    have h2 := ih (fun x hx => h x (List.mem_cons_of_mem _ hx))
    simp only [List.sum_cons, List.length_cons]
    omega
theorem sum_take_succ {zs : List Int} {j : Nat} (h : j < zs.length) : (zs.take (j + 1)).sum = (zs.take j).sum + zs.getD j 0 := by
  rw [take_snoc h]; simp
theorem take_sum_bd {zs : List Int} (h : Bytes zs) (j : Nat) : 0 ≤ (zs.take j).sum ∧ (zs.take j).sum ≤ 255 * j := by
  have := sum_bd (h.take j)
  have := List.length_take_le j zs
  omega
def sp8 : List Int := List.replicate 8 32
theorem sp8_length : sp8.length = 8 := rfl
def blankZ (zs : List Int) : List Int := lay zs 148 sp8
def sumZ (zs : List Int) : Int := (blankZ zs).sum
def fieldZ (n : Int) : List Int := fld 6 n ++ [32]
theorem fieldZ_length (n : Int) : (fieldZ n).length = 8 := by simp [fieldZ, fld_length]
def sealZ (zs : List Int) : List Int := lay zs 148 (fieldZ (sumZ zs))
theorem blank_length {zs : List Int} (h : zs.length = 512) : (blankZ zs).length = 512 := by rw [blankZ, lay_length _ _ _ (by rw [sp8_length]; omega), h]
theorem seal_length {zs : List Int} (h : zs.length = 512) : (sealZ zs).length = 512 := by rw [sealZ, lay_length _ _ _ (by rw [fieldZ_length]; omega), h]
theorem sp8_bytes : Bytes sp8 := .replicate 8 (by decide)
theorem blank_bytes {zs : List Int} (h : Bytes zs) : Bytes (blankZ zs) := lay_bytes _ h sp8_bytes
theorem field_bytes (n : Int) : Bytes (fieldZ n) := Bytes.append (fld_bd 6 n) (.replicate 1 (by decide))
theorem seal_bytes {zs : List Int} (h : Bytes zs) : Bytes (sealZ zs) := lay_bytes _ h (field_bytes _)
theorem sumZ_eq (zs : List Int) : sumZ zs = (zs.take 148).sum + 256 + (zs.drop 156).sum := by
  simp [sumZ, blankZ, lay, sp8]; omega
theorem sumZ_bd {zs : List Int} (h : Bytes zs) (hl : zs.length = 512) : 256 ≤ sumZ zs ∧ sumZ zs ≤ 128776 := by
  have h1 := sum_bd (h.take 148)
  have h2 := sum_bd (h.drop 156)
  rw [List.length_take] at h1
  rw [List.length_drop] at h2
  rw [sumZ_eq]
  omega
theorem mx_6 : mx 6 = 262143 := by decide
theorem sumZ_fits {zs : List Int} (h : Bytes zs) (hl : zs.length = 512) : 0 ≤ sumZ zs ∧ sumZ zs ≤ mx 6 := by
  have := sumZ_bd h hl
  rw [mx_6]; omega
theorem take_lay (zs : List Int) (ys : List Int) (h : 148 ≤ zs.length) : (lay zs 148 ys).take 148 = zs.take 148 := by
  unfold lay
  rw [List.take_append_of_le_length (by rw [List.length_take]; omega), List.take_take, Nat.min_self]
theorem drop_lay (zs : List Int) (ys : List Int) (h : 148 ≤ zs.length) (hy : ys.length = 8) : (lay zs 148 ys).drop 156 = zs.drop 156 := by
  unfold lay
  rw [List.drop_append, List.drop_eq_nil_of_le (by rw [List.length_take]; omega), List.length_take, Nat.min_eq_left h, List.nil_append, List.drop_append, List.drop_eq_nil_of_le (by omega), hy]
  simp
theorem lay_lay (zs xs ys : List Int) (h : 148 ≤ zs.length) (hx : xs.length = 8) (hy : ys.length = 8) : lay (lay zs 148 xs) 148 ys = lay zs 148 ys := by
  rw [lay, take_lay zs xs h, hy, show 148 + 8 = 156 from rfl, drop_lay zs xs h hx]
  simp [lay, hy]
theorem sumZ_lay (zs ys : List Int) (h : zs.length = 512) (hy : ys.length = 8) : sumZ (lay zs 148 ys) = sumZ zs := by
  rw [sumZ_eq, sumZ_eq, take_lay zs ys (by omega), drop_lay zs ys (by omega) hy]
theorem sealZ_lay (zs ys : List Int) (h : zs.length = 512) (hy : ys.length = 8) : sealZ (lay zs 148 ys) = sealZ zs := by
  unfold sealZ
  rw [sumZ_lay zs ys h hy, lay_lay zs ys _ (by omega) hy (fieldZ_length _)]
theorem sealZ_sealZ (zs : List Int) (h : zs.length = 512) : sealZ (sealZ zs) = sealZ zs := sealZ_lay zs _ h (fieldZ_length _)
theorem seal_two (zs : List Int) (h : zs.length = 512) : lay (blankZ zs) 148 (fld 6 (sumZ zs)) = sealZ zs := by
  unfold sealZ fieldZ
  rw [lay, blankZ, take_lay zs _ (by omega), fld_length]
  have : (lay zs 148 sp8).drop (148 + (6 + 1)) = 32 :: zs.drop 156 := by
    unfold lay
    rw [List.drop_append, List.drop_eq_nil_of_le (by rw [List.length_take]; omega), List.length_take, Nat.min_eq_left (by omega), List.nil_append, show 148 + (6 + 1) - 148 = 7 from rfl]
    rfl
  rw [this]
  simp [lay, fld_length]
def ckE (zs : List Int) : Int := if zs.length = 512 then 0 else 2
theorem ver_of (zs : List Int) : ∃ v : Int, (zs = sealZ zs ∧ v = 0) ∨ (¬ zs = sealZ zs ∧ v = 9) := by
  by_cases h : zs = sealZ zs
  · exact ⟨0, .inl ⟨h, rfl⟩⟩
  · exact ⟨9, .inr ⟨h, rfl⟩⟩
end Go.Proofs.YtbbaleambgaanaaGreatDoor.Chk
namespace Go.Proofs.YtbbaleambgaanaaGreatDoor.Cst
def ceF (zs : List Int) (wd : Int) : Int := if wd < 1 ∨ 256 < wd then 2 else if (0 : Int) ∈ zs then 6 else if wd < zs.length then 7 else 0
def fldS (zs : List Int) (k : Nat) : List Int := zs ++ List.replicate (k - zs.length) 0
theorem ceF_zero {zs : List Int} {wd : Int} : ceF zs wd = 0 ↔ 1 ≤ wd ∧ wd ≤ 256 ∧ (0 : Int) ∉ zs ∧ (zs.length : Int) ≤ wd := by
  unfold ceF
  split
  · omega
  · split
    · simp_all
    · split
      · omega
      · simp_all; try omega
theorem fldS_length (zs : List Int) (k : Nat) (h : zs.length ≤ k) : (fldS zs k).length = k := by simp [fldS]; omega
theorem fldS_bd (zs : List Int) (k : Nat) (h : ∀ z ∈ zs, 0 ≤ z ∧ z ≤ 255) : ∀ z ∈ fldS zs k, 0 ≤ z ∧ z ≤ 255 := by
  intro z hz
  rcases List.mem_append.1 hz with hz | hz
  · exact h z hz
  · have := List.eq_of_mem_replicate hz; omega
def trimZ (zs : List Int) : List Int := (zs.reverse.dropWhile (· == 0)).reverse
theorem trimZ_snoc_zero (zs : List Int) : trimZ (zs ++ [0]) = trimZ zs := by simp [trimZ]
theorem trimZ_snoc_ne (zs : List Int) {x : Int} (h : x ≠ 0) : trimZ (zs ++ [x]) = zs ++ [x] := by
  have : (x == 0) = false := by simpa using h
  simp [trimZ, this]
theorem trimZ_zeros (zs : List Int) : ∀ m, trimZ (zs ++ List.replicate m 0) = trimZ zs
  | 0 => by simp
  | m + 1 => by rw [List.replicate_succ', ← List.append_assoc, trimZ_snoc_zero, trimZ_zeros zs m]
theorem trimZ_back (zs : List Int) : ∃ m, zs = trimZ zs ++ List.replicate m 0 := by
  have key : ∀ l : List Int, ∃ m, l.reverse = trimZ l.reverse ++ List.replicate m 0 := by
    intro l
    induction l with
    | nil => exact ⟨0, rfl⟩
    | cons x l ih =>
      rw [List.reverse_cons]
      by_cases hx : x = 0
      · subst hx
        obtain ⟨m, hm⟩ := ih
        exact ⟨m + 1, by rw [trimZ_snoc_zero, List.replicate_succ', ← List.append_assoc, ← hm]⟩
      · exact ⟨0, by rw [trimZ_snoc_ne _ hx]; simp⟩
  simpa using key zs.reverse
theorem trimZ_free {zs : List Int} (h : (0 : Int) ∉ zs) : trimZ zs = zs := by
  obtain ⟨m, hm⟩ := trimZ_back zs
  rcases m with _ | m
  · simpa using hm.symm
  · exfalso; apply h; rw [hm]; simp
theorem trimZ_length (zs : List Int) : (trimZ zs).length ≤ zs.length := by
  obtain ⟨m, hm⟩ := trimZ_back zs
  have := congrArg List.length hm
  simp at this; omega
theorem trimZ_bd (zs : List Int) (h : ∀ z ∈ zs, 0 ≤ z ∧ z ≤ 255) : ∀ z ∈ trimZ zs, 0 ≤ z ∧ z ≤ 255 := by
  intro z hz
  obtain ⟨m, hm⟩ := trimZ_back zs
  exact h z (by rw [hm]; exact List.mem_append_left _ hz)
def cpS (zs : List Int) : List Int := if zs.length < 1 ∨ 256 < zs.length then [] else if (0 : Int) ∈ trimZ zs then [] else trimZ zs
def cpE (zs : List Int) : Int := if zs.length < 1 ∨ 256 < zs.length then 2 else if (0 : Int) ∈ trimZ zs then 6 else 0
theorem cpE_zero {zs : List Int} : cpE zs = 0 ↔ 1 ≤ zs.length ∧ zs.length ≤ 256 ∧ (0 : Int) ∉ trimZ zs := by
  unfold cpE
  split
  · omega
  · split
    · simp_all
    · rename_i h1 h2; exact ⟨fun _ => ⟨by omega, by omega, h2⟩, fun _ => rfl⟩
theorem cpS_ok {zs : List Int} (h : cpE zs = 0) : cpS zs = trimZ zs := by
  have := cpE_zero.1 h
  unfold cpS; rw [if_neg (by omega), if_neg this.2.2]
theorem cpS_bd (zs : List Int) (h : ∀ z ∈ zs, 0 ≤ z ∧ z ≤ 255) : ∀ z ∈ cpS zs, 0 ≤ z ∧ z ≤ 255 := by
  unfold cpS
  split
  · simp
  · split
    · simp
    · exact trimZ_bd zs h
theorem trim_fldS {zs : List Int} (k : Nat) (h : (0 : Int) ∉ zs) : trimZ (fldS zs k) = zs := by
  unfold fldS; rw [trimZ_zeros, trimZ_free h]
theorem take_snoc' {zs : List Int} {j : Nat} (h : j < zs.length) : zs.take (j + 1) = zs.take j ++ [zs.getD j 0] := by
  rw [List.take_add_one, List.getD_eq_getElem?_getD, List.getElem?_eq_getElem h]; rfl
end Go.Proofs.YtbbaleambgaanaaGreatDoor.Cst
namespace Go.Proofs.YtbbaleambgaanaaGreatDoor.Ust
open Oct Cst Chk
abbrev hdV (T : Int) (nm pf lk : ByteArray) (md sz : Int) : List Go.Value := [.int .u8 T, .string nm, .string pf, .string lk, .int .i64 md, .int .i64 sz]
def known (T : Int) : Prop := T = 48 ∨ T = 49 ∨ T = 50 ∨ T = 53 ∨ T = 120
instance (T : Int) : Decidable (known T) := by unfold known; infer_instance
def ckH (T : Int) (nm pf lk : ByteArray) (md sz : Int) : Int :=
  if ¬ known T then 8 else if ceF (numsOf nm) 100 ≠ 0 then ceF (numsOf nm) 100 else if ceF (numsOf lk) 100 ≠ 0 then ceF (numsOf lk) 100 else if ceF (numsOf pf) 155 ≠ 0 then ceF (numsOf pf) 155 else
    if md < 0 ∨ 4095 < md then 16 else if sz < 0 ∨ 8589934591 < sz then 3 else 0
theorem ckH_zero {T : Int} {nm pf lk : ByteArray} {md sz : Int} : ckH T nm pf lk md sz = 0 ↔ known T ∧ ceF (numsOf nm) 100 = 0 ∧ ceF (numsOf lk) 100 = 0 ∧ ceF (numsOf pf) 155 = 0 ∧ (0 ≤ md ∧ md ≤ 4095) ∧ (0 ≤ sz ∧ sz ≤ 8589934591) := by
  unfold ckH
  constructor
  · intro h
    split at h
    · cases h
    · split at h
      · contradiction
      · split at h
        · contradiction
        · split at h
          · contradiction
          · split at h
            · cases h
            · split at h
              · cases h
              · refine ⟨?_, ?_, ?_, ?_, ?_, ?_⟩ <;> first | omega | (apply Decidable.byContradiction; assumption)
  · rintro ⟨h1, h2, h3, h4, h5, h6⟩
    rw [if_neg (by simpa using h1), if_neg (by simpa using h2), if_neg (by simpa using h3), if_neg (by simpa using h4), if_neg (by omega), if_neg (by omega)]
def headA (nm : List Int) (md sz : Int) : List Int := fldS nm 100 ++ (fld 7 md ++ (fld 7 0 ++ (fld 7 0 ++ (fld 11 sz ++ fld 11 0))))
def magic : List Int := [117, 115, 116, 97, 114, 0, 48, 48]
def tailB (T : Int) (pf lk : List Int) : List Int := [T] ++ (fldS lk 100 ++ (magic ++ (zeros 32 ++ (zeros 32 ++ (fld 7 0 ++ (fld 7 0 ++ (fldS pf 155 ++ zeros 12)))))))
def rawH (T : Int) (nm pf lk : ByteArray) (md sz : Int) : List Int := headA (numsOf nm) md sz ++ (sp8 ++ tailB T (numsOf pf) (numsOf lk))
def encH (T : Int) (nm pf lk : ByteArray) (md sz : Int) : List Int := sealZ (rawH T nm pf lk md sz)
theorem headA_length {nm : List Int} {md sz : Int} (h : nm.length ≤ 100) : (headA nm md sz).length = 148 := by
  unfold headA; simp [fldS_length _ _ h, fld_length]
theorem tailB_length {T : Int} {pf lk : List Int} (h1 : pf.length ≤ 155) (h2 : lk.length ≤ 100) : (tailB T pf lk).length = 356 := by
  unfold tailB; simp [fldS_length _ _ h1, fldS_length _ _ h2, fld_length, zeros_length, magic]
theorem ce_len {s : ByteArray} {k : Nat} (h : ceF (numsOf s) k = 0) : (numsOf s).length ≤ k := by have := (ceF_zero.1 h).2.2.2; omega
theorem numsOf_bytes (s : ByteArray) : Bytes (numsOf s) := numsOf_bd s
theorem fldS_bytes {zs : List Int} (h : Bytes zs) (k : Nat) : Bytes (fldS zs k) := fldS_bd zs k h
theorem fld_bytes (k : Nat) (n : Int) : Bytes (fld k n) := fld_bd k n
theorem known_byte {T : Int} (h : known T) : 0 ≤ T ∧ T ≤ 255 := by unfold known at h; omega
theorem one_byte {T : Int} (h : 0 ≤ T ∧ T ≤ 255) : Bytes [T] := fun z hz => by rw [List.mem_singleton.1 hz]; exact h
theorem headA_bytes {nm : List Int} (h : Bytes nm) (md sz : Int) : Bytes (headA nm md sz) :=
  (fldS_bytes h 100).append ((fld_bytes 7 md).append ((fld_bytes 7 0).append ((fld_bytes 7 0).append ((fld_bytes 11 sz).append (fld_bytes 11 0)))))
theorem tailB_bytes {T : Int} {pf lk : List Int} (hT : 0 ≤ T ∧ T ≤ 255) (h1 : Bytes pf) (h2 : Bytes lk) : Bytes (tailB T pf lk) :=
  (one_byte hT).append ((fldS_bytes h2 100).append (Bytes.append (by unfold magic Bytes; decide) ((zeros_bytes 32).append ((zeros_bytes 32).append ((fld_bytes 7 0).append ((fld_bytes 7 0).append ((fldS_bytes h1 155).append (zeros_bytes 12))))))))
theorem raw_bytes {T : Int} (hT : 0 ≤ T ∧ T ≤ 255) (nm pf lk : ByteArray) (md sz : Int) : Bytes (rawH T nm pf lk md sz) :=
  (headA_bytes (numsOf_bytes nm) md sz).append (sp8_bytes.append (tailB_bytes hT (numsOf_bytes pf) (numsOf_bytes lk)))
theorem enc_bytes {T : Int} (hT : 0 ≤ T ∧ T ≤ 255) (nm pf lk : ByteArray) (md sz : Int) : Bytes (encH T nm pf lk md sz) := seal_bytes (raw_bytes hT nm pf lk md sz)
section
variable {T : Int} {nm pf lk : ByteArray} {md sz : Int}
theorem raw_length (h : ckH T nm pf lk md sz = 0) : (rawH T nm pf lk md sz).length = 512 := by
  obtain ⟨_, h2, h3, h4, _⟩ := ckH_zero.1 h
  unfold rawH
  simp [headA_length (ce_len (k := 100) h2), tailB_length (ce_len (k := 155) h4) (ce_len (k := 100) h3), sp8_length]
theorem enc_length (h : ckH T nm pf lk md sz = 0) : (encH T nm pf lk md sz).length = 512 := seal_length (raw_length h)
theorem enc_sealed (h : ckH T nm pf lk md sz = 0) : sealZ (encH T nm pf lk md sz) = encH T nm pf lk md sz := sealZ_sealZ _ (raw_length h)
theorem app_drop {a b : List Int} {m : Nat} (n k : Nat) (ha : a.length = n) (hm : m = n + k) : (a ++ b).drop m = b.drop k := by
  subst hm; subst ha; rw [List.drop_append]; simp
theorem app_take {a b : List Int} {n : Nat} (ha : a.length = n) : (a ++ b).take n = a := by subst ha; simp
theorem enc_eq (h : ckH T nm pf lk md sz = 0) : ∃ F : List Int, F.length = 8 ∧ encH T nm pf lk md sz = headA (numsOf nm) md sz ++ (F ++ tailB T (numsOf pf) (numsOf lk)) := by
  obtain ⟨_, h2, h3, h4, _⟩ := ckH_zero.1 h
  have la := headA_length (md := md) (sz := sz) (ce_len (k := 100) h2)
  refine ⟨_, fieldZ_length (sumZ (rawH T nm pf lk md sz)), ?_⟩
  unfold encH sealZ lay
  rw [fieldZ_length]
  have e1 : (rawH T nm pf lk md sz).take 148 = headA (numsOf nm) md sz := app_take la
  have e2 : (rawH T nm pf lk md sz).drop (148 + 8) = tailB T (numsOf pf) (numsOf lk) := by
    unfold rawH
    rw [app_drop 148 8 la rfl, app_drop 8 0 sp8_length rfl, List.drop_zero]
  rw [e1, e2]
theorem enc_fields (h : ckH T nm pf lk md sz = 0) : (encH T nm pf lk md sz).take 100 = fldS (numsOf nm) 100 ∧ ((encH T nm pf lk md sz).drop 100).take 8 = fld 7 md ∧ ((encH T nm pf lk md sz).drop 124).take 12 = fld 11 sz ∧
    (encH T nm pf lk md sz).getD 156 0 = T ∧ ((encH T nm pf lk md sz).drop 157).take 100 = fldS (numsOf lk) 100 ∧ ((encH T nm pf lk md sz).drop 345).take 155 = fldS (numsOf pf) 155 := by
  obtain ⟨F, hF, he⟩ := enc_eq h
  obtain ⟨_, h2, h3, h4, _⟩ := ckH_zero.1 h
  have l1 := fldS_length _ _ (ce_len (k := 100) h2)
  have l2 := fldS_length _ _ (ce_len (k := 100) h3)
  have l3 := fldS_length _ _ (ce_len (k := 155) h4)
  have la := headA_length (md := md) (sz := sz) (ce_len (k := 100) h2)
  have f7 := fld_length 7
  have f11 := fld_length 11
  have e1 : ∀ X : List Int, headA (numsOf nm) md sz ++ X = fldS (numsOf nm) 100 ++ (fld 7 md ++ (fld 7 0 ++ (fld 7 0 ++ (fld 11 sz ++ (fld 11 0 ++ X))))) := fun X => by simp only [headA, List.append_assoc]
  have e2 : tailB T (numsOf pf) (numsOf lk) = [T] ++ (fldS (numsOf lk) 100 ++ (magic ++ (zeros 32 ++ (zeros 32 ++ (fld 7 0 ++ (fld 7 0 ++ (fldS (numsOf pf) 155 ++ zeros 12))))))) := rfl
  rw [he]
  refine ⟨?_, ?_, ?_, ?_, ?_, ?_⟩
  · rw [e1]; exact app_take l1
  · rw [e1, app_drop 100 0 l1 rfl, List.drop_zero]; exact app_take (f7 md)
  · rw [e1, app_drop 100 24 l1 rfl, app_drop 8 16 (f7 md) rfl, app_drop 8 8 (f7 0) rfl, app_drop 8 0 (f7 0) rfl, List.drop_zero]; exact app_take (f11 sz)
  · rw [List.getD_eq_getElem?_getD, List.getElem?_append_right (by omega), List.getElem?_append_right (by omega), la, hF, e2]; rfl
  · rw [app_drop 148 9 la rfl, app_drop 8 1 hF rfl, e2, app_drop 1 0 rfl rfl, List.drop_zero]; exact app_take l2
  · rw [app_drop 148 197 la rfl, app_drop 8 189 hF rfl, e2, app_drop 1 188 rfl rfl, app_drop 100 88 l2 rfl, app_drop 8 80 rfl rfl, app_drop 32 48 (zeros_length 32) rfl, app_drop 32 16 (zeros_length 32) rfl, app_drop 8 8 (f7 0) rfl, app_drop 8 0 (f7 0) rfl, List.drop_zero]; exact app_take l3
end
def dT (zs : List Int) : Int := zs.getD 156 0
def dNm (zs : List Int) : ByteArray := strOfNums (cpS (zs.take 100))
def dLk (zs : List Int) : ByteArray := strOfNums (cpS ((zs.drop 157).take 100))
def dPf (zs : List Int) : ByteArray := strOfNums (cpS ((zs.drop 345).take 155))
def dMd (zs : List Int) : Int := pzV ((zs.drop 100).take 8)
def dSz (zs : List Int) : Int := pzV ((zs.drop 124).take 12)
def dFld (zs : List Int) : Prop := cpE (zs.take 100) = 0 ∧ cpE ((zs.drop 157).take 100) = 0 ∧ cpE ((zs.drop 345).take 155) = 0 ∧ pzE ((zs.drop 100).take 8) = 0 ∧ pzE ((zs.drop 124).take 12) = 0
instance (zs : List Int) : Decidable (dFld zs) := by unfold dFld; infer_instance
def dOk (zs : List Int) : Prop := dFld zs ∧ ckH (dT zs) (dNm zs) (dPf zs) (dLk zs) (dMd zs) (dSz zs) = 0 ∧ encH (dT zs) (dNm zs) (dPf zs) (dLk zs) (dMd zs) (dSz zs) = zs
instance (zs : List Int) : Decidable (dOk zs) := by unfold dOk; infer_instance
def deE (zs : List Int) : Int := if zs.length ≠ 512 then 2 else if zs ≠ sealZ zs then 9 else if ¬ known (dT zs) then 8 else if dOk zs then 0 else 6
theorem cp_fld {s : ByteArray} {k : Nat} (hk : k ≤ 256) (h : ceF (numsOf s) k = 0) : cpE (fldS (numsOf s) k) = 0 ∧ strOfNums (cpS (fldS (numsOf s) k)) = s := by
  obtain ⟨h1, _, h3, h4⟩ := ceF_zero.1 h
  have hl := fldS_length (numsOf s) k (by omega)
  have ht := trim_fldS k h3
  have e : cpE (fldS (numsOf s) k) = 0 := cpE_zero.2 ⟨by omega, by omega, by rw [ht]; exact h3⟩
  exact ⟨e, by rw [cpS_ok e, ht, strOfNums_numsOf]⟩
theorem pz_fld {k : Nat} {n : Int} (h1 : 1 ≤ k) (h2 : k ≤ 21) (h0 : 0 ≤ n) (hm : n ≤ mx k) : pzE (fld k n) = 0 ∧ pzV (fld k n) = n := by
  have hl := fld_length k n
  have ht : (fld k n).take ((fld k n).length - 1) = oct k n := by rw [hl, Nat.add_sub_cancel]; unfold fld; rw [List.take_left' (oct_length k n)]
  have ok : pzOk (fld k n) := by
    refine ⟨?_, by rw [ht]; exact oct_bd k n⟩
    rw [hl, Nat.add_sub_cancel, List.getD_eq_getElem?_getD]
    unfold fld
    rw [List.getElem?_append_right (by rw [oct_length]; exact Nat.le_refl _), oct_length, Nat.sub_self]; rfl
  have hb : ¬ ((fld k n).length < 2 ∨ 22 < (fld k n).length) := by omega
  exact ⟨by unfold pzE; rw [if_neg hb, if_pos ok], by unfold pzV; rw [if_neg hb, if_pos ok, ht]; exact val_oct k n h0 hm⟩
theorem mx_7 : mx 7 = 2097151 := by decide
theorem mx_11' : mx 11 = 8589934591 := by decide
section
variable {T : Int} {nm pf lk : ByteArray} {md sz : Int}
theorem dec_enc (h : ckH T nm pf lk md sz = 0) : deE (encH T nm pf lk md sz) = 0 ∧ dT (encH T nm pf lk md sz) = T ∧ dNm (encH T nm pf lk md sz) = nm ∧ dPf (encH T nm pf lk md sz) = pf ∧ dLk (encH T nm pf lk md sz) = lk ∧
    dMd (encH T nm pf lk md sz) = md ∧ dSz (encH T nm pf lk md sz) = sz := by
  obtain ⟨f1, f2, f3, f4, f5, f6⟩ := enc_fields h
  obtain ⟨k1, k2, k3, k4, k5, k6⟩ := ckH_zero.1 h
  have e1 : dT (encH T nm pf lk md sz) = T := f4
  have e2 : dNm (encH T nm pf lk md sz) = nm := by unfold dNm; rw [f1]; exact (cp_fld (k := 100) (by decide) k2).2
  have e3 : dPf (encH T nm pf lk md sz) = pf := by unfold dPf; rw [f6]; exact (cp_fld (k := 155) (by decide) k4).2
  have e4 : dLk (encH T nm pf lk md sz) = lk := by unfold dLk; rw [f5]; exact (cp_fld (k := 100) (by decide) k3).2
  have hm := mx_7; have hs := mx_11'
  have p1 := pz_fld (k := 7) (n := md) (by decide) (by decide) k5.1 (by omega)
  have p2 := pz_fld (k := 11) (n := sz) (by decide) (by decide) k6.1 (by omega)
  have e5 : dMd (encH T nm pf lk md sz) = md := by unfold dMd; rw [f2]; exact p1.2
  have e6 : dSz (encH T nm pf lk md sz) = sz := by unfold dSz; rw [f3]; exact p2.2
  have hf : dFld (encH T nm pf lk md sz) := by
    unfold dFld
    rw [f1, f2, f3, f5, f6]
    exact ⟨(cp_fld (k := 100) (by decide) k2).1, (cp_fld (k := 100) (by decide) k3).1, (cp_fld (k := 155) (by decide) k4).1, p1.1, p2.1⟩
  refine ⟨?_, e1, e2, e3, e4, e5, e6⟩
  unfold deE
  rw [if_neg (by rw [enc_length h]; simp), if_neg (by rw [enc_sealed h]; simp), if_neg (by rw [e1]; simpa using k1), if_pos ⟨hf, by rw [e1, e2, e3, e4, e5, e6]; exact ⟨h, rfl⟩⟩]
end
theorem dec_ok {zs : List Int} (h : deE zs = 0) : zs.length = 512 ∧ zs = sealZ zs ∧ known (dT zs) ∧ dOk zs := by
  unfold deE at h
  split at h
  · cases h
  · split at h
    · cases h
    · split at h
      · cases h
      · split at h
        · rename_i h1 h2 h3 h4
          exact ⟨by omega, Decidable.byContradiction h2, Decidable.byContradiction h3, h4⟩
        · cases h
end Go.Proofs.YtbbaleambgaanaaGreatDoor.Ust
namespace Go.Proofs.YtbbaleambgaanaaGreatDoor.Fit
open Go.Lib Go.RowKit Pxr Pnm
theorem str_sz (zs : List Int) : (strOfNums zs).size = zs.length := by
  rw [Lib.size_eq, strOfNums_data, List.length_map]
theorem pl_hd {e : Ent} (h : Ok e) : (plH e).nm.size ≤ 100 ∧ (plH e).pf.size ≤ 155 ∧ (plH e).lk.size ≤ 100 ∧ Ust.ckH (plH e).T (plH e).nm (plH e).pf (plH e).lk (plH e).md (plH e).sz = 0 := by
  have hp := path_pos h.path
  have h0 := path_nozero (chE_zero.1 h.path).2
  have hs := spl_nums e.p
  have hN : (0 : Int) ∉ splN (numsOf e.p) ∧ (splN (numsOf e.p)).length ≤ 100 ∧ (0 : Int) ∉ splP (numsOf e.p) ∧ (splP (numsOf e.p)).length ≤ 155 := by
    rcases spl_cases e.p with ⟨_, a, b, c⟩ | ⟨_, _, _, d, e1, e2, _⟩ | ⟨_, a, b, _⟩
    · rw [a, b]; exact ⟨h0, by rw [numsOf_length]; exact c, by simp, by simp⟩
    · refine ⟨fun hm => h0 (by rw [d]; exact List.mem_append_right _ (List.mem_cons_of_mem _ hm)), e2, fun hm => h0 (by rw [d]; exact List.mem_append_left _ hm), e1⟩
    · rw [a, b]; exact ⟨by simp, by simp, by simp, by simp⟩
  have hl : (plH e).lk.size ≤ 100 ∧ (0 : Int) ∉ numsOf (plH e).lk := by
    show (if e.t.size ≤ 100 then e.t else emp).size ≤ 100 ∧ (0 : Int) ∉ numsOf (if e.t.size ≤ 100 then e.t else emp)
    by_cases hc : e.t.size ≤ 100
    · rw [if_pos hc]
      refine ⟨hc, ?_⟩
      rcases (tg_cases h.tg).2.2 with ht | ht
      · rw [ht]; decide
      · intro hm
        unfold chkT at ht
        rw [if_neg (by omega), if_pos (.inr hm)] at ht
        cases ht
    · rw [if_neg hc]; decide
  obtain ⟨s0, s1, _⟩ := sz_cases h.sz
  refine ⟨by show (strOfNums (splN (numsOf e.p))).size ≤ 100; rw [str_sz]; exact hN.2.1, by show (strOfNums (splP (numsOf e.p))).size ≤ 155; rw [str_sz]; exact hN.2.2.2, hl.1, Ust.ckH_zero.2 ⟨?_, ?_, ?_, ?_, ⟨h.m0, h.m1⟩, ?_⟩⟩
  · have := ty_known h.k0 h.k4
    show Ust.known (tyZ e.k)
    unfold Ust.known; omega
  · refine Cst.ceF_zero.2 ⟨by decide, by decide, ?_, ?_⟩
    · show (0 : Int) ∉ numsOf (strOfNums (splN (numsOf e.p))); rw [hs.2]; exact hN.1
    · show ((numsOf (strOfNums (splN (numsOf e.p)))).length : Int) ≤ 100; rw [hs.2]; have := hN.2.1; omega
  · refine Cst.ceF_zero.2 ⟨by decide, by decide, hl.2, ?_⟩
    rw [numsOf_length]; have := hl.1; omega
  · refine Cst.ceF_zero.2 ⟨by decide, by decide, ?_, ?_⟩
    · show (0 : Int) ∉ numsOf (strOfNums (splP (numsOf e.p))); rw [hs.1]; exact hN.2.2.1
    · show ((numsOf (strOfNums (splP (numsOf e.p)))).length : Int) ≤ 155; rw [hs.1]; have := hN.2.2.2; omega
  · show 0 ≤ (if e.s ≤ 8589934591 then e.s else 0) ∧ (if e.s ≤ 8589934591 then e.s else 0) ≤ 8589934591
    split <;> omega
theorem pl_vals {e : Ent} (h : Ok e) : ∀ r ∈ plL e, r.2.size ≤ 65536 := fun r hr => (good_of (pl_chk h r hr)).val
end Go.Proofs.YtbbaleambgaanaaGreatDoor.Fit
