/-
  Strings as numbers: small laws. Nothing of the program.
-/
import Derived.Test.YtmbimnnacjbdfaaGreatDoorPz01
import GoSem.Op.String
import Derived.Lib.ParseIntBTie
import Derived.Lib.AtoiTie
namespace Go.Proofs.YtmbimnnacjbdfaaGreatDoor
open Go.RowKit

theorem wrapP {z : Int} (h1 : 0 ≤ z) (h2 : z ≤ 9223372036854775807) : IntKind.i64.wrap z = z := by
  have hb : IntKind.i64.bits = 64 := rfl
  have hs : IntKind.i64.signed = true := rfl
  unfold IntKind.wrap
  simp only [hb, hs, Bool.true_and]
  have e : (2 : Int) ^ 64 = 18446744073709551616 := by decide
  have e' : (2 : Int) ^ (64 - 1) = 9223372036854775808 := by decide
  rw [e, e', Int.emod_eq_of_lt h1 (by omega), if_neg (by simp; omega)]
theorem bytes_neq {s t : ByteArray} (h : ¬ s = t) : (s.toList == t.toList) = false := by
  rw [beq_eq_false_iff_ne]
  exact fun e => h (by
    apply ByteArray.ext
    apply Array.ext'
    rw [ByteArray.toList_eq, ByteArray.toList_eq] at e
    exact e)
theorem empty_no {s : ByteArray} (h : ¬ s = { data := #[] }) : s.toList.isEmpty = false := by
  have h1 := bytes_neq h
  have e : ({ data := #[] } : ByteArray).toList = [] := by rw [ByteArray.toList_eq]
  rw [e] at h1
  cases hl : s.toList with
  | nil => rw [hl] at h1; simp at h1
  | cons x xs => rfl
theorem nums_cat (s t : ByteArray) : numsOf (s ++ t) = numsOf s ++ numsOf t := by
  unfold numsOf
  rw [ByteArray.data_append, Array.toList_append, List.map_append]
theorem num_at (s : ByteArray) (j : Nat) (h : j < s.size) : (numsOf s).getD j 0 = (s[j].toNat : Int) := by
  have h1 : (numsOf s)[j]? = some (s[j].toNat : Int) := by
    unfold numsOf
    rw [List.getElem?_map, Array.getElem?_toList, Array.getElem?_eq_getElem (by exact h)]
    rfl
  rw [List.getD_eq_getElem?_getD, h1]; rfl

theorem nums_ext (s : ByteArray) (a b : Nat) : numsOf (s.extract a b) = ((numsOf s).drop a).take (b - a) := by
  unfold numsOf
  rw [ByteArray.data_extract, Array.toList_extract, List.extract_eq_take_drop, List.map_take, List.map_drop]
theorem ext_str (s : ByteArray) (a b : Nat) : s.extract a b = strOfNums (((numsOf s).drop a).take (b - a)) := by
  rw [← nums_ext, strOfNums_numsOf]

theorem nums_inj {s t : ByteArray} (h : numsOf s = numsOf t) : s = t := by rw [← strOfNums_numsOf s, ← strOfNums_numsOf t, h]
theorem idx_byte (s : ByteArray) (c : UInt8) : 0 ≤ Lib.indexByte s.data.toList c ↔ (c.toNat : Int) ∈ numsOf s := by
  constructor
  · intro h
    obtain ⟨o, ho⟩ : ∃ o : Nat, Lib.indexByte s.data.toList c = o := ⟨(Lib.indexByte s.data.toList c).toNat, by omega⟩
    have h1 := (Lib.indexByte_some ho).1
    rw [numsOf_eq, List.mem_map]
    exact ⟨c, List.mem_of_getElem? h1, rfl⟩
  · intro h
    rw [numsOf_eq, List.mem_map] at h
    obtain ⟨b, hb, h0⟩ := h
    obtain rfl : b = c := by
      apply UInt8.toNat_inj.1
      omega
    rcases Int.lt_or_le (Lib.indexByte s.data.toList b) 0 with h | h
    · exfalso
      have h1 := Lib.indexByte_ge s.data.toList b
      obtain ⟨k, hk⟩ := List.getElem?_of_mem hb
      exact Lib.indexByte_none (c := b) (by omega) k hk
    · exact h

/-- the first place of a byte, as the search answers -/
theorem idx_first (s : ByteArray) (c : UInt8) : (((c.toNat : Int) ∉ numsOf s) → Lib.indexByte s.data.toList c = -1) ∧
    ((c.toNat : Int) ∈ numsOf s → Lib.indexByte s.data.toList c = (((numsOf s).takeWhile (fun z => z != (c.toNat : Int))).length : Int)) := by
  rw [numsOf_eq]
  generalize s.data.toList = l
  induction l with
  | nil => exact ⟨fun _ => rfl, fun h => by simp at h⟩
  | cons b l ih =>
    by_cases hb : b = c
    · subst hb
      refine ⟨fun h => absurd (List.mem_cons_self ..) h, fun _ => ?_⟩
      simp [Lib.indexByte]
    · have hb' : ¬ ((b.toNat : Int) = (c.toNat : Int)) := fun e => hb (by apply UInt8.toNat_inj.1; omega)
      have hbb : (b == c) = false := by simpa using hb
      have hge := Lib.indexByte_ge l c
      constructor
      · intro h
        rw [List.map_cons, List.mem_cons, not_or] at h
        unfold Lib.indexByte
        rw [hbb, ih.1 h.2]; rfl
      · intro h
        rw [List.map_cons, List.mem_cons] at h
        have h2 := h.resolve_left (fun e => hb' e.symm)
        have e := ih.2 h2
        unfold Lib.indexByte
        rw [hbb, List.map_cons, List.takeWhile_cons]
        have e1 : ((b.toNat : Int) != (c.toNat : Int)) = true := by simpa using hb'
        rw [e1, e]
        have e2 : (((List.takeWhile (fun z => z != (c.toNat : Int)) (List.map (fun b : UInt8 => (b.toNat : Int)) l)).length : Int) == -1) = false := by
          rw [beq_eq_false_iff_ne]; omega
        rw [e2]
        simp
end Go.Proofs.YtmbimnnacjbdfaaGreatDoor
/-
  Layer 9: plain mathematics of records: Check, the encoding, one record off the front.
-/
namespace Go.Proofs.YtmbimnnacjbdfaaGreatDoor.Pxr
open Go.Lib Go.RowKit

/-- a record: key, value -/
abbrev Rec := ByteArray × ByteArray
abbrev kLink : ByteArray := { data := #[108, 105, 110, 107, 112, 97, 116, 104] }
abbrev kPath : ByteArray := { data := #[112, 97, 116, 104] }
abbrev kSize : ByteArray := { data := #[115, 105, 122, 101] }

/-- the value of linkpath and path -/
def chkT (v : ByteArray) : Int := if 65536 < v.size then 7 else if v.size = 0 ∨ (0 : Int) ∈ numsOf v then 6 else 0
/-- the value of size -/
def chkS (v : ByteArray) : Int := if decOk (numsOf v) = false then 6 else if 1099511627776 < decV (numsOf v) then 3 else 0
def chk (r : Rec) : Int := if r.1 = kLink ∨ r.1 = kPath then chkT r.2 else if r.1 = kSize then chkS r.2 else 17
def keyLe (a b : ByteArray) : Bool := Op.bytesLess a.toList b.toList || a.toList == b.toList
/-- the key is not greater than that of the last of them -/
def prevLe (before : List Rec) (k : ByteArray) : Bool := match before.getLast? with
  | none => false
  | some q => keyLe k q.1
def chkN (before : List Rec) (r : Rec) : Int := if chk r ≠ 0 then chk r else if prevLe before r.1 = true then 12 else 0
def fmE : List Rec → List Rec → Int
  | _, [] => 0
  | before, r :: rs => if chkN before r ≠ 0 then chkN before r else fmE (before ++ [r]) rs
theorem fmE_cons (before : List Rec) (r : Rec) (rs : List Rec) : fmE before (r :: rs) = if chkN before r ≠ 0 then chkN before r else fmE (before ++ [r]) rs := rfl
def oth (r : Rec) : Nat := r.1.size + r.2.size + 3
def szR (r : Rec) : Nat := szN (oth r)
def enR (r : Rec) : List Int := decD (szR r) ++ [32] ++ numsOf r.1 ++ [61] ++ numsOf r.2 ++ [10]
def fmB (rs : List Rec) : List Int := (rs.map enR).flatten

theorem fmB_nil : fmB [] = [] := rfl
theorem fmB_snoc (rs : List Rec) (r : Rec) : fmB (rs ++ [r]) = fmB rs ++ enR r := by unfold fmB; simp
theorem fmB_cons (r : Rec) (rs : List Rec) : fmB (r :: rs) = enR r ++ fmB rs := by unfold fmB; simp
theorem fmB_append (a b : List Rec) : fmB (a ++ b) = fmB a ++ fmB b := by unfold fmB; simp

/-! what a good record is -/
structure Good (r : Rec) : Prop where
  key : r.1.size ≤ 8
  val : r.2.size ≤ 65536
  eq : (61 : Int) ∉ numsOf r.1
  idx : r.1 = kLink ∨ r.1 = kPath ∨ r.1 = kSize
theorem dec_len13 {zs : List Int} (h : decOk zs = true) (hv : decV zs ≤ 1099511627776) : zs.length ≤ 13 := by
  rw [← decD_decV zs h, decD_len]
  refine nDigits_le 12 _ ?_
  have : (10 : Nat) ^ (12 + 1) = 10000000000000 := by decide
  omega
theorem good_of {r : Rec} (h : chk r = 0) : Good r := by
  obtain ⟨k, v⟩ := r
  unfold chk at h
  dsimp only at h
  by_cases h1 : k = kLink ∨ k = kPath
  · rw [if_pos h1] at h
    unfold chkT at h
    have hv : v.size ≤ 65536 := by
      by_cases hv : 65536 < v.size
      · rw [if_pos hv] at h; omega
      · omega
    rcases h1 with rfl | rfl
    · exact ⟨(by decide : kLink.size ≤ 8), hv, (by decide : (61 : Int) ∉ numsOf kLink), .inl rfl⟩
    · exact ⟨(by decide : kPath.size ≤ 8), hv, (by decide : (61 : Int) ∉ numsOf kPath), .inr (.inl rfl)⟩
  · rw [if_neg h1] at h
    by_cases h2 : k = kSize
    · rw [if_pos h2] at h
      subst h2
      unfold chkS at h
      by_cases h3 : decOk (numsOf v) = false
      · rw [if_pos h3] at h; omega
      · rw [if_neg h3] at h
        by_cases h4 : 1099511627776 < decV (numsOf v)
        · rw [if_pos h4] at h; omega
        · have := dec_len13 (by simpa using h3) (by omega : decV (numsOf v) ≤ 1099511627776)
          rw [numsOf_length] at this
          exact ⟨(by decide : kSize.size ≤ 8), by show v.size ≤ 65536; omega, (by decide : (61 : Int) ∉ numsOf kSize), .inr (.inr rfl)⟩
    · rw [if_neg h2] at h; omega

theorem Good.oth {r : Rec} (h : Good r) : oth r ≤ 65547 := by have := h.key; have := h.val; unfold Pxr.oth; omega
theorem Good.sz {r : Rec} (h : Good r) : szR r ≤ 65555 := by
  have := szN_bd (rest := Pxr.oth r) (by have := h.oth; omega); have := h.oth; unfold szR; omega

theorem enR_len {r : Rec} (h : oth r ≤ 1000000) : (enR r).length = szR r := by
  unfold enR
  have := szN_fix h
  have e : nDigits (szR r) + oth r = szR r := this
  simp only [List.length_append, List.length_singleton, decD_len, numsOf_length]
  unfold oth at e
  omega

/-! the keys' order -/
theorem chkN_good {b : List Rec} {r : Rec} (h : chkN b r = 0) : chk r = 0 ∧ prevLe b r.1 = false := by
  unfold chkN at h
  by_cases h1 : chk r ≠ 0
  · rw [if_pos h1] at h; exact absurd h h1
  · rw [if_neg h1] at h
    refine ⟨by simpa using h1, ?_⟩
    by_cases h2 : prevLe b r.1 = true
    · rw [if_pos h2] at h; omega
    · simpa using h2
def kix (k : ByteArray) : Nat := if k = kLink then 0 else if k = kPath then 1 else if k = kSize then 2 else 3
theorem keyLe_ix {a b : ByteArray} (ha : a = kLink ∨ a = kPath ∨ a = kSize) (hb : b = kLink ∨ b = kPath ∨ b = kSize) : keyLe a b = decide (kix a ≤ kix b) := by
  have l1 : kLink.toList = [108, 105, 110, 107, 112, 97, 116, 104] := by rw [ByteArray.toList_eq]
  have l2 : kPath.toList = [112, 97, 116, 104] := by rw [ByteArray.toList_eq]
  have l3 : kSize.toList = [115, 105, 122, 101] := by rw [ByteArray.toList_eq]
  rcases ha with rfl | rfl | rfl <;> rcases hb with rfl | rfl | rfl <;> unfold keyLe <;> simp only [l1, l2, l3] <;> decide
/-- a chain of good records: at most as many as keys are left -/
theorem fmE_len : ∀ (rs before : List Rec), fmE before rs = 0 → (∀ q, before.getLast? = some q → Good q) → rs.length ≤ 3 - (match before.getLast? with | none => 0 | some q => kix q.1 + 1)
  | [], _, _, _ => Nat.zero_le _
  | r :: rs, before, h, hb => by
    unfold fmE at h
    by_cases h1 : chkN before r ≠ 0
    · rw [if_pos h1] at h; exact absurd h h1
    · rw [if_neg h1] at h
      obtain ⟨g1, g2⟩ := chkN_good (by simpa using h1)
      have G := good_of g1
      have ih := fmE_len rs (before ++ [r]) h (fun q hq => by
        rw [List.getLast?_append, List.getLast?_singleton, Option.some_or] at hq; cases hq; exact G)
      rw [List.getLast?_append, List.getLast?_singleton, Option.some_or] at ih
      dsimp only at ih
      rw [List.length_cons]
      have k2 : kix r.1 ≤ 2 := by
        rcases G.idx with e | e | e <;> rw [e] <;> decide
      unfold prevLe at g2
      cases hl : before.getLast? with
      | none => dsimp only; omega
      | some q =>
        rw [hl] at g2
        dsimp only at g2 ⊢
        rw [keyLe_ix G.idx (hb q hl).idx, decide_eq_false_iff_not] at g2
        omega
theorem fmE_three {rs : List Rec} (h : fmE [] rs = 0) : rs.length ≤ 3 := fmE_len rs [] h (fun _ h => by cases h)
theorem fmE_good : ∀ (rs before : List Rec), fmE before rs = 0 → ∀ r ∈ rs, Good r ∧ chk r = 0
  | [], _, _, r, hr => by cases hr
  | a :: rs, before, h, r, hr => by
    unfold fmE at h
    by_cases h1 : chkN before a ≠ 0
    · rw [if_pos h1] at h; exact absurd h h1
    · rw [if_neg h1] at h
      obtain ⟨g1, g2⟩ := chkN_good (by simpa using h1)
      rcases List.mem_cons.1 hr with rfl | hr
      · exact ⟨good_of g1, g1⟩
      · exact fmE_good rs _ h r hr
theorem fmE_app : ∀ (a b before : List Rec), fmE before (a ++ b) = 0 ↔ fmE before a = 0 ∧ fmE (before ++ a) b = 0
  | [], b, before => by rw [List.append_nil, List.nil_append]; exact ⟨fun h => ⟨rfl, h⟩, fun h => h.2⟩
  | r :: a, b, before => by
    rw [List.cons_append, fmE_cons, fmE_cons]
    by_cases h1 : chkN before r ≠ 0
    · rw [if_pos h1, if_pos h1]; exact ⟨fun h => absurd h h1, fun h => absurd h.1 h1⟩
    · rw [if_neg h1, if_neg h1, fmE_app a b (before ++ [r]), List.append_assoc, List.singleton_append]
theorem fmB_le {rs : List Rec} (h : fmE [] rs = 0) (k : Nat) : (fmB (rs.take k)).length ≤ 65555 * 3 := by
  have h3 := fmE_three h
  have key : ∀ l : List Rec, (∀ r ∈ l, Good r) → (fmB l).length ≤ 65555 * l.length := by
    intro l
    induction l with
    | nil => intro _; rw [fmB_nil]; exact Nat.zero_le _
    | cons a l ih =>
      intro hl
      rw [fmB_cons, List.length_append, List.length_cons]
      have := ih (fun r hr => hl r (List.mem_cons_of_mem _ hr))
      have hG := hl a (List.mem_cons_self ..)
      rw [enR_len (by have := hG.oth; omega)]
      have := hG.sz
      omega
  have := key (rs.take k) (fun r hr => (fmE_good rs [] h r (List.mem_of_mem_take hr)).1)
  rw [List.length_take] at this
  have : min k rs.length ≤ 3 := by omega
  omega
end Go.Proofs.YtmbimnnacjbdfaaGreatDoor.Pxr
/-
  The arithmetic of layer 8: paths as lists of bytes. No memory.
-/
namespace Go.Proofs.YtmbimnnacjbdfaaGreatDoor.Pnm

/-- the components of a path -/
def comps : List Int → List (List Int)
  | [] => [[]]
  | z :: zs => if z = 47 then [] :: comps zs else match comps zs with
    | c :: cs => (z :: c) :: cs
    | [] => [[z]]
theorem comps_ne (zs : List Int) : comps zs ≠ [] := by
  induction zs with
  | nil => simp [comps]
  | cons z zs ih =>
    unfold comps
    split
    · simp
    · split <;> simp
theorem comps_one {c : List Int} (h : (47 : Int) ∉ c) : comps c = [c] := by
  induction c with
  | nil => rfl
  | cons z zs ih =>
    have h1 : ¬ z = 47 := fun e => h (by simp [e])
    have h2 : (47 : Int) ∉ zs := fun e => h (List.mem_cons_of_mem _ e)
    unfold comps
    rw [if_neg h1, ih h2]
theorem comps_app (a c : List Int) : comps (a ++ 47 :: c) = comps a ++ comps c := by
  induction a with
  | nil => simp [comps]
  | cons z zs ih =>
    rw [List.cons_append]
    by_cases hz : z = 47
    · rw [comps, if_pos hz, ih]
      conv => rhs; rw [comps, if_pos hz]
      rfl
    · rw [comps, if_neg hz, ih]
      conv => rhs; rw [comps, if_neg hz]
      cases h : comps zs with
      | nil => exact absurd h (comps_ne zs)
      | cons x xs => rfl
theorem comps_cut {c rest : List Int} (h : (47 : Int) ∉ c) : comps (c ++ 47 :: rest) = c :: comps rest := by
  rw [comps_app, comps_one h]; rfl
theorem comps_noslash (zs : List Int) : ∀ c ∈ comps zs, (47 : Int) ∉ c := by
  induction zs with
  | nil => intro c hc; simp [comps] at hc; subst hc; simp
  | cons z zs ih =>
    intro c hc
    unfold comps at hc
    split at hc
    · rcases List.mem_cons.1 hc with rfl | hc
      · simp
      · exact ih c hc
    · rename_i hz
      split at hc
      · rename_i x xs hx
        rcases List.mem_cons.1 hc with rfl | hc
        · have := ih x (by rw [hx]; simp)
          intro hm
          rcases List.mem_cons.1 hm with e | hm
          · exact hz e.symm
          · exact this hm
        · exact ih c (by rw [hx]; exact List.mem_cons_of_mem _ hc)
      · rename_i hx; exact absurd hx (comps_ne zs)

/-- a component is valid -/
def partOk (c : List Int) : Prop := c ≠ [] ∧ c ≠ [46] ∧ c ≠ [46, 46] ∧ (0 : Int) ∉ c
instance (c : List Int) : Decidable (partOk c) := by unfold partOk; infer_instance
def pathOk (zs : List Int) : Prop := ∀ c ∈ comps zs, partOk c
instance (zs : List Int) : Decidable (pathOk zs) := by unfold pathOk; infer_instance
/-- the error of Check -/
def chE (zs : List Int) : Int := if 65536 < zs.length then 7 else if pathOk zs then 0 else 6
theorem chE_zero {zs : List Int} : chE zs = 0 ↔ zs.length ≤ 65536 ∧ pathOk zs := by
  unfold chE
  by_cases h : 65536 < zs.length
  · rw [if_pos h]; constructor
    · intro e; cases e
    · rintro ⟨h1, _⟩; omega
  · rw [if_neg h]
    by_cases h2 : pathOk zs
    · rw [if_pos h2]; exact ⟨fun _ => ⟨by omega, h2⟩, fun _ => rfl⟩
    · rw [if_neg h2]; exact ⟨fun e => (by cases e), fun h' => absurd h'.2 h2⟩
theorem pathOk_app (a c : List Int) : pathOk (a ++ 47 :: c) ↔ pathOk a ∧ pathOk c := by
  unfold pathOk
  rw [comps_app]
  constructor
  · exact fun h => ⟨fun x hx => h x (List.mem_append_left _ hx), fun x hx => h x (List.mem_append_right _ hx)⟩
  · exact fun h x hx => (List.mem_append.1 hx).elim (h.1 x) (h.2 x)
theorem pathOk_one {c : List Int} (h : (47 : Int) ∉ c) : pathOk c ↔ partOk c := by
  unfold pathOk; rw [comps_one h]; simp

/-- the index of the last slash among the first n bytes, or -1 -/
def lastF (zs : List Int) : Nat → Int
  | 0 => -1
  | n + 1 => if zs.getD n 0 = 47 then n else lastF zs n
def lastZ (zs : List Int) : Int := lastF zs zs.length
theorem lastF_bd (zs : List Int) : ∀ n, -1 ≤ lastF zs n ∧ lastF zs n < n
  | 0 => by simp [lastF]
  | n + 1 => by
    have := lastF_bd zs n
    unfold lastF
    split <;> omega
theorem lastF_none (zs : List Int) : ∀ n, lastF zs n = -1 → ∀ i, i < n → zs.getD i 0 ≠ 47
  | 0, _, i, hi => by omega
  | n + 1, h, i, hi => by
    unfold lastF at h
    split at h
    · omega
    · rename_i hn
      by_cases e : i = n
      · subst e; exact hn
      · exact lastF_none zs n h i (by omega)
theorem lastF_some (zs : List Int) : ∀ (n k : Nat), lastF zs n = k → zs.getD k 0 = 47 ∧ k < n ∧ ∀ i, k < i → i < n → zs.getD i 0 ≠ 47
  | 0, k, h => by exfalso; unfold lastF at h; omega
  | n + 1, k, h => by
    unfold lastF at h
    split at h
    · rename_i hn
      obtain rfl : n = k := by omega
      exact ⟨hn, by omega, fun i h1 h2 => by omega⟩
    · rename_i hn
      obtain ⟨h1, h2, h3⟩ := lastF_some zs n k h
      refine ⟨h1, by omega, fun i hi hi2 => ?_⟩
      by_cases e : i = n
      · subst e; exact hn
      · exact h3 i hi (by omega)
def parZ (zs : List Int) : List Int := if lastZ zs < 0 then [] else zs.take (lastZ zs).toNat
def basZ (zs : List Int) : List Int := zs.drop (lastZ zs + 1).toNat
/-- a path is its base, or its parent, a slash and its base -/
theorem par_bas (zs : List Int) : (47 : Int) ∉ basZ zs ∧ ((lastZ zs < 0 ∧ parZ zs = [] ∧ basZ zs = zs) ∨ (0 ≤ lastZ zs ∧ zs = parZ zs ++ 47 :: basZ zs)) := by
  have mem : ∀ {l : List Int} {x : Int}, x ∈ l → ∃ i, i < l.length ∧ l.getD i 0 = x := fun {l x} h => by
    obtain ⟨i, hi, e⟩ := List.getElem_of_mem h
    exact ⟨i, hi, by rw [List.getD_eq_getElem?_getD, List.getElem?_eq_getElem hi]; exact e⟩
  have hb := lastF_bd zs zs.length
  by_cases h : lastZ zs < 0
  · have e : lastF zs zs.length = -1 := by unfold lastZ at h; omega
    have e' : basZ zs = zs := by unfold basZ lastZ; rw [e]; rfl
    refine ⟨?_, .inl ⟨h, if_pos h, e'⟩⟩
    rw [e']
    intro hm
    obtain ⟨i, hi, hx⟩ := mem hm
    exact lastF_none zs zs.length e i hi hx
  · obtain ⟨k, hk⟩ : ∃ k : Nat, lastF zs zs.length = k := ⟨(lastF zs zs.length).toNat, by unfold lastZ at h; omega⟩
    obtain ⟨h1, h2, h3⟩ := lastF_some zs _ k hk
    have e1 : parZ zs = zs.take k := by unfold parZ; rw [if_neg h]; unfold lastZ; rw [hk]; rfl
    have e2 : basZ zs = zs.drop (k + 1) := by unfold basZ lastZ; rw [hk]; rfl
    refine ⟨?_, .inr ⟨by omega, ?_⟩⟩
    · rw [e2]
      intro hm
      obtain ⟨i, hi, hx⟩ := mem hm
      rw [List.length_drop] at hi
      rw [List.getD_eq_getElem?_getD, List.getElem?_drop, ← List.getD_eq_getElem?_getD] at hx
      exact h3 (k + 1 + i) (by omega) (by omega) hx
    · rw [e1, e2]
      have hg : zs[k] = 47 := by rw [List.getD_eq_getElem?_getD, List.getElem?_eq_getElem h2] at h1; exact h1
      rw [← hg, ← List.drop_eq_getElem_cons h2, List.take_append_drop]

/-- bytewise order -/
def cmpZ : List Int → List Int → Int
  | [], [] => 0
  | [], _ :: _ => -1
  | _ :: _, [] => 1
  | a :: as, b :: bs => if a < b then -1 else if b < a then 1 else cmpZ as bs
theorem cmp_cases : ∀ as bs : List Int, cmpZ as bs = -1 ∨ cmpZ as bs = 0 ∨ cmpZ as bs = 1
  | [], [] => by simp [cmpZ]
  | [], _ :: _ => by simp [cmpZ]
  | _ :: _, [] => by simp [cmpZ]
  | a :: as, b :: bs => by
    unfold cmpZ
    split
    · simp
    · split
      · simp
      · exact cmp_cases as bs
theorem cmp_neg : ∀ as bs : List Int, cmpZ as bs = - cmpZ bs as
  | [], [] => rfl
  | [], _ :: _ => rfl
  | _ :: _, [] => rfl
  | a :: as, b :: bs => by
    have ih := cmp_neg as bs
    unfold cmpZ
    by_cases h1 : a < b
    · rw [if_pos h1, if_neg (by omega), if_pos h1]
    · by_cases h2 : b < a
      · rw [if_neg h1, if_pos h2, if_pos h2]; rfl
      · rw [if_neg h1, if_neg h2, if_neg h2, if_neg h1]; exact ih
theorem cmp_eq : ∀ as bs : List Int, cmpZ as bs = 0 ↔ as = bs
  | [], [] => by simp [cmpZ]
  | [], _ :: _ => by simp [cmpZ]
  | _ :: _, [] => by simp [cmpZ]
  | a :: as, b :: bs => by
    have ih := cmp_eq as bs
    unfold cmpZ
    by_cases h1 : a < b
    · rw [if_pos h1]; constructor
      · intro e; cases e
      · intro e; simp at e; omega
    · by_cases h2 : b < a
      · rw [if_neg h1, if_pos h2]; constructor
        · intro e; cases e
        · intro e; simp at e; omega
      · rw [if_neg h1, if_neg h2, ih]
        obtain rfl : a = b := by omega
        simp
theorem cmp_trans : ∀ as bs cs : List Int, cmpZ as bs ≤ 0 → cmpZ bs cs ≤ 0 → cmpZ as cs ≤ 0
  | [], _, [], _, _ => by simp [cmpZ]
  | [], _, _ :: _, _, _ => by simp [cmpZ]
  | _ :: _, [], _, h, _ => by simp [cmpZ] at h
  | _ :: _, _ :: _, [], _, h => by simp [cmpZ] at h
  | a :: as, b :: bs, c :: cs, h1, h2 => by
    unfold cmpZ at h1 h2 ⊢
    by_cases l1 : a < b
    · by_cases l2 : b < c
      · rw [if_pos (by omega)]; decide
      · rw [if_neg l2] at h2
        by_cases l3 : c < b
        · rw [if_pos l3] at h2; omega
        · rw [if_pos (by omega)]; decide
    · rw [if_neg l1] at h1
      by_cases l4 : b < a
      · rw [if_pos l4] at h1; omega
      · rw [if_neg l4] at h1
        obtain rfl : a = b := by omega
        by_cases l2 : a < c
        · rw [if_pos l2]; decide
        · rw [if_neg l2] at h2 ⊢
          by_cases l3 : c < a
          · rw [if_pos l3] at h2; omega
          · rw [if_neg l3] at h2 ⊢
            exact cmp_trans as bs cs h1 h2
/-- a proper beginning precedes -/
theorem cmp_pre : ∀ (as : List Int) (b : Int) (bs : List Int), cmpZ as (as ++ b :: bs) = -1
  | [], _, _ => rfl
  | a :: as, b, bs => by
    rw [List.cons_append]
    unfold cmpZ
    rw [if_neg (by omega), if_neg (by omega)]
    exact cmp_pre as b bs

def joinZ (a b : List Int) : List Int := if a = [] then b else a ++ 47 :: b
/-- a suitable slash -/
def sufS (zs : List Int) (i : Nat) : Prop := 1 ≤ i ∧ i ≤ 155 ∧ i + 1 < zs.length ∧ zs.length - i - 1 ≤ 100 ∧ zs.getD i 0 = 47
instance (zs : List Int) (i : Nat) : Decidable (sufS zs i) := by unfold sufS; infer_instance
def splI (zs : List Int) : Option Nat := (List.range 156).find? fun i => decide (sufS zs i)
theorem splI_some {zs : List Int} {i : Nat} (h : splI zs = some i) : sufS zs i ∧ ∀ j, j < i → ¬ sufS zs j := by
  unfold splI at h
  have h1 := List.find?_some h
  refine ⟨by simpa using h1, fun j hj hs => ?_⟩
  have := List.find?_range_eq_some.1 h
  have := this.2.2 j hj
  simp [hs] at this
theorem splI_none {zs : List Int} (h : splI zs = none) : ∀ i, ¬ sufS zs i := by
  intro i hs
  unfold splI at h
  rw [List.find?_eq_none] at h
  exact h i (List.mem_range.2 (by have := hs.2.1; omega)) (by simp [hs])
theorem splI_first {zs : List Int} {j : Nat} (h : sufS zs j) (hn : ∀ k, k < j → ¬ sufS zs k) : splI zs = some j := by
  unfold splI
  rw [List.find?_range_eq_some]
  exact ⟨by simpa using h, List.mem_range.2 (by have := h.2.1; omega), fun k hk => by simp [hn k hk]⟩
theorem splI_no {zs : List Int} (h : ∀ k, ¬ sufS zs k) : splI zs = none := by
  unfold splI
  rw [List.find?_eq_none]
  intro k _
  simp [h k]
def splP (zs : List Int) : List Int := if zs.length ≤ 100 then [] else match splI zs with | some i => zs.take i | none => []
def splN (zs : List Int) : List Int := if zs.length ≤ 100 then zs else match splI zs with | some i => zs.drop (i + 1) | none => []
def splB (zs : List Int) : Bool := if zs.length ≤ 100 then true else (splI zs).isSome
theorem spl_short {zs : List Int} (h : zs.length ≤ 100) : splP zs = [] ∧ splN zs = zs ∧ splB zs = true := by
  unfold splP splN splB; rw [if_pos h, if_pos h, if_pos h]; exact ⟨rfl, rfl, rfl⟩
theorem spl_long {zs : List Int} (h : ¬ zs.length ≤ 100) : (∃ i, splI zs = some i ∧ sufS zs i ∧ (∀ j, j < i → ¬ sufS zs j) ∧ splP zs = zs.take i ∧ splN zs = zs.drop (i + 1) ∧ splB zs = true ∧ zs = zs.take i ++ 47 :: zs.drop (i + 1)) ∨
    ((∀ i, ¬ sufS zs i) ∧ splP zs = [] ∧ splN zs = [] ∧ splB zs = false) := by
  unfold splP splN splB
  rw [if_neg h, if_neg h, if_neg h]
  cases hs : splI zs with
  | none => exact .inr ⟨splI_none hs, rfl, rfl, rfl⟩
  | some i =>
    obtain ⟨h1, h2⟩ := splI_some hs
    refine .inl ⟨i, rfl, h1, h2, rfl, rfl, rfl, ?_⟩
    have hi : i < zs.length := by have := h1.2.2.1; omega
    have hg : zs[i] = 47 := by have := h1.2.2.2.2; rw [List.getD_eq_getElem?_getD, List.getElem?_eq_getElem hi] at this; exact this
    rw [← hg, ← List.drop_eq_getElem_cons hi, List.take_append_drop]
end Go.Proofs.YtmbimnnacjbdfaaGreatDoor.Pnm
/-
  Layer 10: plain mathematics: entries, where their values are placed, what Merge composes. No memory.
-/
namespace Go.Proofs.YtmbimnnacjbdfaaGreatDoor.Fit
open Go.Lib Go.RowKit Pxr Pnm

/-- an entry -/
structure Ent where
  k : Int
  p : ByteArray
  m : Int
  t : ByteArray
  s : Int
/-- a header -/
structure Hd where
  T : Int
  nm : ByteArray
  pf : ByteArray
  lk : ByteArray
  md : Int
  sz : Int
abbrev emp : ByteArray := { data := #[] }

def tyZ (k : Int) : Int := if k = 0 then 53 else if k = 1 then 48 else if k = 2 then 50 else 49
def kdZ (T : Int) : Int := if T = 53 then 0 else if T = 48 then 1 else if T = 50 then 2 else if T = 49 then 3 else -1
theorem kd_ty {k : Int} (h0 : 0 ≤ k) (h4 : k < 4) : kdZ (tyZ k) = k := by
  rcases (show k = 0 ∨ k = 1 ∨ k = 2 ∨ k = 3 by omega) with rfl | rfl | rfl | rfl <;> decide
theorem ty_known {k : Int} (h0 : 0 ≤ k) (h4 : k < 4) : tyZ k = 53 ∨ tyZ k = 48 ∨ tyZ k = 50 ∨ tyZ k = 49 := by
  rcases (show k = 0 ∨ k = 1 ∨ k = 2 ∨ k = 3 by omega) with rfl | rfl | rfl | rfl <;> decide

/-! Check -/
def tgE (k : Int) (t : ByteArray) : Int := if k = 2 then chkT t else if k = 3 then chE (numsOf t) else if t = emp then 0 else 2
def szE (k s : Int) : Int := if k = 1 then (if s < 0 ∨ 1099511627776 < s then 3 else 0) else if s = 0 then 0 else 2
def ckE (e : Ent) : Int :=
  if e.k < 0 ∨ 4 ≤ e.k then 8 else if chE (numsOf e.p) ≠ 0 then chE (numsOf e.p) else if e.m < 0 ∨ 4095 < e.m ∨ (e.k = 2 ∧ e.m ≠ 0) then 16 else
    if tgE e.k e.t ≠ 0 then tgE e.k e.t else szE e.k e.s

structure Ok (e : Ent) : Prop where
  k0 : 0 ≤ e.k
  k4 : e.k < 4
  path : chE (numsOf e.p) = 0
  m0 : 0 ≤ e.m
  m1 : e.m ≤ 4095
  mS : e.k = 2 → e.m = 0
  tg : tgE e.k e.t = 0
  sz : szE e.k e.s = 0
theorem ck_ok {e : Ent} : ckE e = 0 ↔ Ok e := by
  unfold ckE
  constructor
  · intro h
    by_cases h1 : e.k < 0 ∨ 4 ≤ e.k
    · rw [if_pos h1] at h; omega
    · rw [if_neg h1] at h
      by_cases h2 : chE (numsOf e.p) ≠ 0
      · rw [if_pos h2] at h; exact absurd h h2
      · rw [if_neg h2] at h
        by_cases h3 : e.m < 0 ∨ 4095 < e.m ∨ (e.k = 2 ∧ e.m ≠ 0)
        · rw [if_pos h3] at h; omega
        · rw [if_neg h3] at h
          by_cases h4 : tgE e.k e.t ≠ 0
          · rw [if_pos h4] at h; exact absurd h h4
          · rw [if_neg h4] at h
            exact ⟨by omega, by omega, Decidable.byContradiction h2, by omega, by omega, by omega, Decidable.byContradiction h4, h⟩
  · intro h
    have := h.k0; have := h.k4; have := h.m0; have := h.m1; have := h.mS
    rw [if_neg (by omega), if_neg (by rw [h.path]; simp), if_neg (by omega), if_neg (by rw [h.tg]; simp)]
    exact h.sz

theorem emp_size {t : ByteArray} : t = emp ↔ t.size = 0 := by
  constructor
  · rintro rfl; rfl
  · intro h; exact ByteArray.ext (Array.eq_empty_of_size_eq_zero h)
theorem path_pos {p : ByteArray} (h : chE (numsOf p) = 0) : p ≠ emp ∧ p.size ≤ 65536 := by
  obtain ⟨h1, h2⟩ := chE_zero.1 h
  rw [numsOf_length] at h1
  refine ⟨?_, h1⟩
  rintro rfl
  have := (h2 [] (by rw [show numsOf emp = [] from rfl]; exact List.mem_cons_self)).1
  exact this rfl
theorem first_at {x : Int} : ∀ {zs : List Int}, x ∈ zs → ∃ a c, zs = a ++ x :: c ∧ x ∉ a
  | [], h => by cases h
  | y :: r, h => by
    by_cases hy : y = x
    · exact ⟨[], r, by rw [hy]; rfl, by simp⟩
    · rcases List.mem_cons.1 h with e | h'
      · exact absurd e.symm hy
      · obtain ⟨a, c, e, ha⟩ := first_at h'
        refine ⟨y :: a, c, by rw [e]; rfl, ?_⟩
        rw [List.mem_cons]
        rintro (e' | e')
        · exact hy e'.symm
        · exact ha e'
theorem path_nozero : ∀ {zs : List Int}, pathOk zs → (0 : Int) ∉ zs := by
  intro zs
  induction hn : zs.length using Nat.strongRecOn generalizing zs with
  | _ n ih =>
    intro h
    by_cases h47 : (47 : Int) ∈ zs
    · obtain ⟨a, c, rfl, ha⟩ := first_at h47
      obtain ⟨p1, p2⟩ := (pathOk_app a c).1 h
      have i1 := ((pathOk_one ha).1 p1).2.2.2
      have i2 := ih c.length (by rw [← hn, List.length_append, List.length_cons]; omega) rfl p2
      rw [List.mem_append, List.mem_cons]
      rintro (h' | h' | h')
      · exact i1 h'
      · omega
      · exact i2 h'
    · exact ((pathOk_one h47).1 h).2.2.2
/-- what a target can be -/
theorem tg_cases {k : Int} {t : ByteArray} (h : tgE k t = 0) : t.size ≤ 65536 ∧ ((k ≠ 2 ∧ k ≠ 3 ∧ t = emp) ∨ ((k = 2 ∨ k = 3) ∧ t ≠ emp)) ∧ (t = emp ∨ chkT t = 0) := by
  unfold tgE at h
  by_cases h2 : k = 2
  · rw [if_pos h2] at h
    have h' := h
    unfold chkT at h
    by_cases hv : 65536 < t.size
    · rw [if_pos hv] at h; omega
    · rw [if_neg hv] at h
      by_cases he : t.size = 0 ∨ (0 : Int) ∈ numsOf t
      · rw [if_pos he] at h; omega
      · exact ⟨by omega, .inr ⟨.inl h2, fun e => he (.inl (emp_size.1 e))⟩, .inr h'⟩
  · rw [if_neg h2] at h
    by_cases h3 : k = 3
    · rw [if_pos h3] at h
      obtain ⟨a, b⟩ := path_pos h
      refine ⟨b, .inr ⟨.inr h3, a⟩, .inr ?_⟩
      unfold chkT
      rw [if_neg (by omega), if_neg]
      rintro (e | e)
      · exact a (emp_size.2 e)
      · exact absurd e (path_nozero (chE_zero.1 h).2)
    · rw [if_neg h3] at h
      by_cases ht : t = emp
      · subst ht; exact ⟨by decide, .inl ⟨h2, h3, rfl⟩, .inl rfl⟩
      · rw [if_neg ht] at h; omega
theorem sz_cases {k s : Int} (h : szE k s = 0) : 0 ≤ s ∧ s ≤ 1099511627776 ∧ (k ≠ 1 → s = 0) := by
  unfold szE at h
  by_cases h1 : k = 1
  · rw [if_pos h1] at h
    by_cases h2 : s < 0 ∨ 1099511627776 < s
    · rw [if_pos h2] at h; omega
    · omega
  · rw [if_neg h1] at h
    by_cases h2 : s = 0
    · omega
    · rw [if_neg h2] at h; omega
/-! Plan -/
def plH (e : Ent) : Hd := ⟨tyZ e.k, strOfNums (splN (numsOf e.p)), strOfNums (splP (numsOf e.p)), if e.t.size ≤ 100 then e.t else emp, e.m, if e.s ≤ 8589934591 then e.s else 0⟩
def plT (e : Ent) : List Rec := if e.t.size ≤ 100 then [] else [(kLink, e.t)]
def plP (e : Ent) : List Rec := if splB (numsOf e.p) = true then [] else [(kPath, e.p)]
def plS (e : Ent) : List Rec := if e.s ≤ 8589934591 then [] else [(kSize, strOfNums (decD e.s.toNat))]
def plL (e : Ent) : List Rec := plT e ++ (plP e ++ plS e)

theorem numsOf_sub {s : ByteArray} {zs : List Int} (h : ∀ z ∈ zs, z ∈ numsOf s) : numsOf (strOfNums zs) = zs := numsOf_strOfNums fun z hz => numsOf_bd s z (h z hz)
/-- the two halves, where there are two -/
theorem spl_cases (p : ByteArray) : (splB (numsOf p) = true ∧ splP (numsOf p) = [] ∧ splN (numsOf p) = numsOf p ∧ p.size ≤ 100) ∨
    (splB (numsOf p) = true ∧ splP (numsOf p) ≠ [] ∧ splN (numsOf p) ≠ [] ∧ numsOf p = splP (numsOf p) ++ 47 :: splN (numsOf p) ∧ (splP (numsOf p)).length ≤ 155 ∧ (splN (numsOf p)).length ≤ 100 ∧ 100 < p.size) ∨
    (splB (numsOf p) = false ∧ splP (numsOf p) = [] ∧ splN (numsOf p) = [] ∧ 100 < p.size) := by
  by_cases h : (numsOf p).length ≤ 100
  · obtain ⟨a, b, c⟩ := spl_short h
    rw [numsOf_length] at h
    exact .inl ⟨c, a, b, h⟩
  · rcases spl_long h with ⟨i, _, ⟨h1, h2, h3, h4, _⟩, _, a, b, c, d⟩ | ⟨_, a, b, c⟩
    · refine .inr (.inl ⟨c, ?_, ?_, ?_, ?_, ?_, by rw [numsOf_length] at h; omega⟩)
      · rw [a]; intro e; have := congrArg List.length e; rw [List.length_take, List.length_nil] at this; omega
      · rw [b]; intro e; have := congrArg List.length e; rw [List.length_drop, List.length_nil] at this; omega
      · rw [a, b]; exact d
      · rw [a, List.length_take]; omega
      · rw [b, List.length_drop]; omega
    · exact .inr (.inr ⟨c, a, b, by rw [numsOf_length] at h; omega⟩)
theorem spl_nums (p : ByteArray) : numsOf (strOfNums (splP (numsOf p))) = splP (numsOf p) ∧ numsOf (strOfNums (splN (numsOf p))) = splN (numsOf p) := by
  rcases spl_cases p with ⟨_, a, b, _⟩ | ⟨_, _, _, d, _⟩ | ⟨_, a, b, _⟩
  · rw [a, b, strOfNums_numsOf]; exact ⟨rfl, rfl⟩
  · exact ⟨numsOf_sub (s := p) fun z hz => by rw [d]; exact List.mem_append_left _ hz, numsOf_sub (s := p) fun z hz => by rw [d]; exact List.mem_append_right _ (List.mem_cons_of_mem _ hz)⟩
  · rw [a, b]; exact ⟨rfl, rfl⟩
theorem spl_join {p : ByteArray} (h : splB (numsOf p) = true) : strOfNums (joinZ (numsOf (strOfNums (splP (numsOf p)))) (numsOf (strOfNums (splN (numsOf p))))) = p := by
  rw [(spl_nums p).1, (spl_nums p).2]
  unfold joinZ
  rcases spl_cases p with ⟨_, a, b, _⟩ | ⟨_, a, _, d, _⟩ | ⟨a, _⟩
  · rw [if_pos a, b, strOfNums_numsOf]
  · rw [if_neg a, ← d, strOfNums_numsOf]
  · rw [h] at a; cases a
theorem str_emp {zs : List Int} : strOfNums zs = emp ↔ zs = [] := by
  constructor
  · intro h
    have := congrArg (fun s : ByteArray => s.data.toList.length) h
    simp only [strOfNums_data, List.length_map] at this
    exact List.eq_nil_of_length_eq_zero this
  · rintro rfl; rfl

/-! what Merge composes -/
/-- what strconv.ParseInt hands back -/
def pzI (v : ByteArray) : Int := match parseIntB 64 v.data.toList with
  | .ok n => n
  | .range => intSat 64 v.data.toList
  | _ => 0
def setR (e : Ent) (r : Rec) : Ent := if r.1 = kLink then { e with t := r.2 } else if r.1 = kPath then { e with p := r.2 } else if r.1 = kSize then { e with s := pzI r.2 } else e
def cmp0 (h : Hd) : Ent := ⟨kdZ h.T, strOfNums (joinZ (numsOf h.pf) (numsOf h.nm)), h.md, h.lk, h.sz⟩
def cmpE (h : Hd) (l : List Rec) : Ent := l.foldl setR (cmp0 h)
def mgOk (h : Hd) (l : List Rec) : Prop := ckE (cmpE h l) = 0 ∧ plH (cmpE h l) = h ∧ plL (cmpE h l) = l

theorem set_link (e : Ent) (v : ByteArray) : setR e (kLink, v) = { e with t := v } := by unfold setR; rw [if_pos rfl]
theorem set_path (e : Ent) (v : ByteArray) : setR e (kPath, v) = { e with p := v } := by unfold setR; rw [if_neg (show ¬ kPath = kLink by decide), if_pos rfl]
theorem set_size (e : Ent) (v : ByteArray) : setR e (kSize, v) = { e with s := pzI v } := by unfold setR; rw [if_neg (show ¬ kSize = kLink by decide), if_neg (show ¬ kSize = kPath by decide), if_pos rfl]

theorem decFrom_digs : ∀ (l : List UInt8) (acc : Nat), (∀ b ∈ l, 48 ≤ b.toNat ∧ b.toNat ≤ 57) → decFrom acc l = some ((l.map fun b => (b.toNat : Int)).foldl (fun n z => 10 * n + (z - 48).toNat) acc)
  | [], _, _ => rfl
  | b :: r, acc, h => by
    have hb := h b List.mem_cons_self
    unfold decFrom digitVal
    rw [if_pos hb]
    dsimp only
    rw [decFrom_digs r _ fun c hc => h c (List.mem_cons_of_mem _ hc), List.map_cons, List.foldl_cons]
    congr 2
    omega
/-- a numeral of a size, read by ParseInt -/
theorem pz_num {v : ByteArray} (h : decOk (numsOf v) = true) (hv : decV (numsOf v) ≤ 1099511627776) : pzI v = decV (numsOf v) := by
  have hl := dec_len13 h hv
  have hd := (decOk_iff _).1 h
  have hlen : v.data.toList.length ≤ 18 := by rw [show numsOf v = v.data.toList.map fun b => (b.toNat : Int) from rfl, List.length_map] at hl; omega
  have hg : ∀ b ∈ v.data.toList, 48 ≤ b.toNat ∧ b.toNat ≤ 57 := by
    intro b hb
    have := (List.all_eq_true.1 (by
      have h' := h
      unfold decOk at h'
      rw [Bool.and_eq_true, Bool.and_eq_true] at h'
      exact h'.1.2)) (b.toNat : Int) (List.mem_map.2 ⟨b, hb, rfl⟩)
    rw [digB_iff] at this
    omega
  have hne : v.data.toList ≠ [] := by
    intro e
    exact hd.1 (by unfold numsOf; rw [e]; rfl)
  have key : parseIntB 64 v.data.toList = .ok (decV (numsOf v) : Int) := by
    rw [parseIntB_64, atoiAll_short _ hlen]
    have e1 : decNat v.data.toList = some (decV (numsOf v)) := by
      unfold decNat
      rw [if_neg (by simpa using hne), decFrom_digs _ _ hg]
      rfl
    obtain ⟨b, r, hbr⟩ : ∃ b r, v.data.toList = b :: r := List.exists_cons_of_ne_nil hne
    have hb := hg b (by rw [hbr]; exact List.mem_cons_self)
    rw [hbr] at e1 ⊢
    unfold atoi
    dsimp only
    rw [if_neg (by simp; intro e; rw [e] at hb; exact absurd hb (by decide)), if_neg (by simp; intro e; rw [e] at hb; exact absurd hb (by decide)), e1]
    rfl
  unfold pzI
  rw [key]
theorem dec_bytes (n : Nat) : numsOf (strOfNums (decD n)) = decD n := numsOf_strOfNums fun z hz => by
  have := (List.all_eq_true.1 (decD_digs n)) z hz
  rw [digB_iff] at this
  omega
theorem pz_dec {n : Nat} (h : n ≤ 1099511627776) : pzI (strOfNums (decD n)) = n := by
  have e := pz_num (v := strOfNums (decD n)) (by rw [dec_bytes]; exact decD_ok n) (by rw [dec_bytes, decV_decD]; exact h)
  rw [e, dec_bytes, decV_decD]
end Go.Proofs.YtmbimnnacjbdfaaGreatDoor.Fit
