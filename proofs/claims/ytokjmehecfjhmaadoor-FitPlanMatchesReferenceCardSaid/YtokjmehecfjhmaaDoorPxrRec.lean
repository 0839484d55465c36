/-
  Layer 9: plain mathematics of records: Check, the encoding, one record off the front.
-/
import Derived.Test.YtokjmehecfjhmaaDoorPxrMath
import Derived.Test.YtokjmehecfjhmaaDoorStrNum
import GoSem.Op.String
namespace Go.Proofs.YtokjmehecfjhmaaDoor.Pxr
open Go.Lib Go.RowKit

/-- a record: key, value -/
abbrev Rec := ByteArray × ByteArray
abbrev kLink : ByteArray := { data := #[108, 105, 110, 107, 112, 97, 116, 104] }
abbrev kPath : ByteArray := { data := #[112, 97, 116, 104] }
abbrev kSize : ByteArray := { data := #[115, 105, 122, 101] }

/-- the value of linkpath and path -/
def chkT (v : ByteArray) : Int := if 65536 < v.size then 7 else if v.size = 0 ∨ (0 : Int) ∈ numsOf v then 6 else 0
/-- the value of size -/
def chkS (v : ByteArray) : Int := if decOk (numsOf v) = false then 6 else if 1099511627776 < decV (numsOf v) then 3 else 0
def chk (r : Rec) : Int := if r.1 = kLink ∨ r.1 = kPath then chkT r.2 else if r.1 = kSize then chkS r.2 else 17
def keyLe (a b : ByteArray) : Bool := Op.bytesLess a.toList b.toList || a.toList == b.toList
/-- the key is not greater than that of the last of them -/
def prevLe (before : List Rec) (k : ByteArray) : Bool := match before.getLast? with
  | none => false
  | some q => keyLe k q.1
def chkN (before : List Rec) (r : Rec) : Int := if chk r ≠ 0 then chk r else if prevLe before r.1 = true then 12 else 0
def fmE : List Rec → List Rec → Int
  | _, [] => 0
  | before, r :: rs => if chkN before r ≠ 0 then chkN before r else fmE (before ++ [r]) rs
theorem fmE_cons (before : List Rec) (r : Rec) (rs : List Rec) : fmE before (r :: rs) = if chkN before r ≠ 0 then chkN before r else fmE (before ++ [r]) rs := rfl
def oth (r : Rec) : Nat := r.1.size + r.2.size + 3
def szR (r : Rec) : Nat := szN (oth r)
def enR (r : Rec) : List Int := decD (szR r) ++ [32] ++ numsOf r.1 ++ [61] ++ numsOf r.2 ++ [10]
def fmB (rs : List Rec) : List Int := (rs.map enR).flatten

theorem fmB_nil : fmB [] = [] := rfl
theorem fmB_snoc (rs : List Rec) (r : Rec) : fmB (rs ++ [r]) = fmB rs ++ enR r := by unfold fmB; simp
theorem fmB_cons (r : Rec) (rs : List Rec) : fmB (r :: rs) = enR r ++ fmB rs := by unfold fmB; simp
theorem fmB_append (a b : List Rec) : fmB (a ++ b) = fmB a ++ fmB b := by unfold fmB; simp

/-! what a good record is -/
structure Good (r : Rec) : Prop where
  key : r.1.size ≤ 8
  val : r.2.size ≤ 65536
  eq : (61 : Int) ∉ numsOf r.1
  idx : r.1 = kLink ∨ r.1 = kPath ∨ r.1 = kSize
theorem dec_len13 {zs : List Int} (h : decOk zs = true) (hv : decV zs ≤ 1099511627776) : zs.length ≤ 13 := by
  rw [← decD_decV zs h, decD_len]
  refine nDigits_le 12 _ ?_
  have : (10 : Nat) ^ (12 + 1) = 10000000000000 := by decide
  omega
theorem good_of {r : Rec} (h : chk r = 0) : Good r := by
  obtain ⟨k, v⟩ := r
  unfold chk at h
  dsimp only at h
  by_cases h1 : k = kLink ∨ k = kPath
  · rw [if_pos h1] at h
    unfold chkT at h
    have hv : v.size ≤ 65536 := by
      by_cases hv : 65536 < v.size
      · rw [if_pos hv] at h; omega
      · omega
    rcases h1 with rfl | rfl
    · exact ⟨(by decide : kLink.size ≤ 8), hv, (by decide : (61 : Int) ∉ numsOf kLink), .inl rfl⟩
    · exact ⟨(by decide : kPath.size ≤ 8), hv, (by decide : (61 : Int) ∉ numsOf kPath), .inr (.inl rfl)⟩
  · rw [if_neg h1] at h
    by_cases h2 : k = kSize
    · rw [if_pos h2] at h
      subst h2
      unfold chkS at h
      by_cases h3 : decOk (numsOf v) = false
      · rw [if_pos h3] at h; omega
      · rw [if_neg h3] at h
        by_cases h4 : 1099511627776 < decV (numsOf v)
        · rw [if_pos h4] at h; omega
        · have := dec_len13 (by simpa using h3) (by omega : decV (numsOf v) ≤ 1099511627776)
          rw [numsOf_length] at this
          exact ⟨(by decide : kSize.size ≤ 8), by show v.size ≤ 65536; omega, (by decide : (61 : Int) ∉ numsOf kSize), .inr (.inr rfl)⟩
    · rw [if_neg h2] at h; omega

theorem Good.oth {r : Rec} (h : Good r) : oth r ≤ 65547 := by have := h.key; have := h.val; unfold Pxr.oth; omega
theorem Good.sz {r : Rec} (h : Good r) : szR r ≤ 65555 := by
  have := szN_bd (rest := Pxr.oth r) (by have := h.oth; omega); have := h.oth; unfold szR; omega

theorem enR_len {r : Rec} (h : oth r ≤ 1000000) : (enR r).length = szR r := by
  unfold enR
  have := szN_fix h
  have e : nDigits (szR r) + oth r = szR r := this
  simp only [List.length_append, List.length_singleton, decD_len, numsOf_length]
  unfold oth at e
  omega

/-! the keys' order -/
theorem chkN_good {b : List Rec} {r : Rec} (h : chkN b r = 0) : chk r = 0 ∧ prevLe b r.1 = false := by
  unfold chkN at h
  by_cases h1 : chk r ≠ 0
  · rw [if_pos h1] at h; exact absurd h h1
  · rw [if_neg h1] at h
    refine ⟨by simpa using h1, ?_⟩
    by_cases h2 : prevLe b r.1 = true
    · rw [if_pos h2] at h; omega
    · simpa using h2
def kix (k : ByteArray) : Nat := if k = kLink then 0 else if k = kPath then 1 else if k = kSize then 2 else 3
theorem keyLe_ix {a b : ByteArray} (ha : a = kLink ∨ a = kPath ∨ a = kSize) (hb : b = kLink ∨ b = kPath ∨ b = kSize) : keyLe a b = decide (kix a ≤ kix b) := by
  have l1 : kLink.toList = [108, 105, 110, 107, 112, 97, 116, 104] := by rw [ByteArray.toList_eq]
  have l2 : kPath.toList = [112, 97, 116, 104] := by rw [ByteArray.toList_eq]
  have l3 : kSize.toList = [115, 105, 122, 101] := by rw [ByteArray.toList_eq]
  rcases ha with rfl | rfl | rfl <;> rcases hb with rfl | rfl | rfl <;> unfold keyLe <;> simp only [l1, l2, l3] <;> decide
/-- a chain of good records: at most as many as keys are left -/
theorem fmE_len : ∀ (rs before : List Rec), fmE before rs = 0 → (∀ q, before.getLast? = some q → Good q) → rs.length ≤ 3 - (match before.getLast? with | none => 0 | some q => kix q.1 + 1)
  | [], _, _, _ => Nat.zero_le _
  | r :: rs, before, h, hb => by
    unfold fmE at h
    by_cases h1 : chkN before r ≠ 0
    · rw [if_pos h1] at h; exact absurd h h1
    · rw [if_neg h1] at h
      obtain ⟨g1, g2⟩ := chkN_good (by simpa using h1)
      have G := good_of g1
      have ih := fmE_len rs (before ++ [r]) h (fun q hq => by
        rw [List.getLast?_append, List.getLast?_singleton, Option.some_or] at hq; cases hq; exact G)
      rw [List.getLast?_append, List.getLast?_singleton, Option.some_or] at ih
      dsimp only at ih
      rw [List.length_cons]
      have k2 : kix r.1 ≤ 2 := by
        rcases G.idx with e | e | e <;> rw [e] <;> decide
      unfold prevLe at g2
      cases hl : before.getLast? with
      | none => dsimp only; omega
      | some q =>
        rw [hl] at g2
        dsimp only at g2 ⊢
        rw [keyLe_ix G.idx (hb q hl).idx, decide_eq_false_iff_not] at g2
        omega
theorem fmE_three {rs : List Rec} (h : fmE [] rs = 0) : rs.length ≤ 3 := fmE_len rs [] h (fun _ h => by cases h)
theorem fmE_good : ∀ (rs before : List Rec), fmE before rs = 0 → ∀ r ∈ rs, Good r ∧ chk r = 0
  | [], _, _, r, hr => by cases hr
  | a :: rs, before, h, r, hr => by
    unfold fmE at h
    by_cases h1 : chkN before a ≠ 0
    · rw [if_pos h1] at h; exact absurd h h1
    · rw [if_neg h1] at h
      obtain ⟨g1, g2⟩ := chkN_good (by simpa using h1)
      rcases List.mem_cons.1 hr with rfl | hr
      · exact ⟨good_of g1, g1⟩
      · exact fmE_good rs _ h r hr
theorem fmE_app : ∀ (a b before : List Rec), fmE before (a ++ b) = 0 ↔ fmE before a = 0 ∧ fmE (before ++ a) b = 0
  | [], b, before => by rw [List.append_nil, List.nil_append]; exact ⟨fun h => ⟨rfl, h⟩, fun h => h.2⟩
  | r :: a, b, before => by
    rw [List.cons_append, fmE_cons, fmE_cons]
    by_cases h1 : chkN before r ≠ 0
    · rw [if_pos h1, if_pos h1]; exact ⟨fun h => absurd h h1, fun h => absurd h.1 h1⟩
    · rw [if_neg h1, if_neg h1, fmE_app a b (before ++ [r]), List.append_assoc, List.singleton_append]
theorem fmB_le {rs : List Rec} (h : fmE [] rs = 0) (k : Nat) : (fmB (rs.take k)).length ≤ 65555 * 3 := by
  have h3 := fmE_three h
  have key : ∀ l : List Rec, (∀ r ∈ l, Good r) → (fmB l).length ≤ 65555 * l.length := by
    intro l
    induction l with
    | nil => intro _; rw [fmB_nil]; exact Nat.zero_le _
    | cons a l ih =>
      intro hl
      rw [fmB_cons, List.length_append, List.length_cons]
      have := ih (fun r hr => hl r (List.mem_cons_of_mem _ hr))
      have hG := hl a (List.mem_cons_self ..)
      rw [enR_len (by have := hG.oth; omega)]
      have := hG.sz
      omega
  have := key (rs.take k) (fun r hr => (fmE_good rs [] h r (List.mem_of_mem_take hr)).1)
  rw [List.length_take] at this
  have : min k rs.length ≤ 3 := by omega
  omega
end Go.Proofs.YtokjmehecfjhmaaDoor.Pxr
