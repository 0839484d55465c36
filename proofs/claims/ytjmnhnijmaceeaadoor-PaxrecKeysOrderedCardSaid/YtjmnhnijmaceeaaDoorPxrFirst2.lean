/-
  Layer 9: the program's parseFirst, its ways together.
-/
import Derived.Test.YtjmnhnijmaceeaaDoorPxrFirst
namespace Go.Proofs.YtjmnhnijmaceeaaDoor.Pxr
open Go.RowKit

/-- the record that comes back: nothing where there is an error -/
def tkX (zs : List Int) : Rec := if tkE zs = 0 then tkR zs else ({ data := #[] }, { data := #[] })

theorem bef_bd {c : Int} {zs : List Int} (h : ∀ z ∈ zs, 0 ≤ z ∧ z ≤ 255) : ∀ z ∈ bef c zs, 0 ≤ z ∧ z ≤ 255 := fun z hz => h z ((List.takeWhile_prefix _).subset hz)
theorem aft_bd {c : Int} {zs : List Int} (h : ∀ z ∈ zs, 0 ≤ z ∧ z ≤ 255) : ∀ z ∈ aft c zs, 0 ≤ z ∧ z ≤ 255 := fun z hz => h z (List.mem_of_mem_drop hz)
theorem take_bd {zs : List Int} (n : Nat) (h : ∀ z ∈ zs, 0 ≤ z ∧ z ≤ 255) : ∀ z ∈ zs.take n, 0 ≤ z ∧ z ≤ 255 := fun z hz => h z (List.mem_of_mem_take hz)
theorem bef_of_take {c : Int} {zs : List Int} {m : Nat} (h : c ∈ zs) (hm : (bef c zs).length < m) : bef c (zs.take m) = bef c zs ∧ c ∈ zs.take m := by
  obtain ⟨k, hk⟩ : ∃ k, m = (bef c zs).length + (k + 1) := ⟨m - (bef c zs).length - 1, by omega⟩
  have e : zs.take m = bef c zs ++ c :: (zs.drop ((bef c zs).length + 1)).take k := by
    conv => lhs; rw [bef_split h]
    rw [hk, List.take_length_add_append, List.take_succ_cons]
  constructor
  · rw [e, bef_app (bef_no c zs)]
  · rw [e]; simp
theorem no_of_take {c : Int} {zs : List Int} {m : Nat} (hm : m ≤ (bef c zs).length) : c ∉ zs.take m := fun h => by
  have e : zs.take m = (bef c zs).take m := by
    conv => rhs; rw [bef_take, List.take_take, Nat.min_eq_left hm]
  rw [e] at h
  exact bef_no c zs (List.mem_of_mem_take h)
theorem str_bd {zs : List Int} {m : Nat} (h : zs.length ≤ m) (hb : ∀ z ∈ zs, 0 ≤ z ∧ z ≤ 255) : (strOfNums zs).size ≤ m := by
  rw [← numsOf_length, numsOf_strOfNums hb]; exact h

set_option maxHeartbeats 1000000 in
theorem pfirst_any (s : ByteArray) (w : World) (V : Vars w) (hs : s.size ≤ 300000) : Calls Tryd.prog 32 #[.string s] w fun e w' =>
    e = .returned (.tuple #[.agg #[.string (tkX (numsOf s)).1, .string (tkX (numsOf s)).2], .int .i64 (tkE (numsOf s))]) ∧ Below w.heap.size w w' := by
  obtain ⟨zs, hzs⟩ : ∃ zs, zs = numsOf s := ⟨_, rfl⟩
  have hb : ∀ z ∈ zs, 0 ≤ z ∧ z ≤ 255 := by rw [hzs]; exact numsOf_bd s
  have hlen : zs.length = s.size := by rw [hzs, numsOf_length]
  have mx : ∀ k : Nat, k ≤ 300000 → k ≤ maxLen := fun k hk => by unfold maxLen; omega
  rw [← hzs]
  have C1 : Hid (∀ w', Calls Tryd.prog 43 #[.string s, .string { data := #[32] }] w' fun e w'' => e = .returned (.tuple #[.string (strOfNums (tkD zs)), .string (strOfNums (aft 32 zs)), .bool (decide ((32 : Int) ∈ zs))]) ∧ Below w'.heap.size w' w'') := fun w' => by
    rw [hzs]; exact cut_any s 32 w' (mx _ hs)
  have hA : numsOf (strOfNums (tkD zs)) = tkD zs := numsOf_strOfNums (bef_bd hb)
  have hAs : (strOfNums (tkD zs)).size ≤ maxLen := mx _ (str_bd (by have := bef_le 32 zs; unfold tkD; omega) (bef_bd hb))
  have P1 : Hid (∀ w', Calls Tryd.prog 41 #[.string (strOfNums (tkD zs))] w' fun e w'' => e = .returned (.tuple #[.int .i64 (pnV (tkD zs)), .bool (decOk (tkD zs))]) ∧ Below w'.heap.size w' w'') := fun w' => by
    have := pnum_any (strOfNums (tkD zs)) w' hAs
    rwa [hA] at this
  by_cases h1 : (32 : Int) ∉ zs ∨ decOk (tkD zs) = false ∨ tkN zs = 0 ∨ 999999 < tkN zs
  · have eE : tkE zs = 6 := by unfold tkE; rw [if_pos h1]
    have eX : tkX zs = ({ data := #[] }, { data := #[] }) := by unfold tkX; rw [eE]; rfl
    rw [eX, eE]
    refine pf_early s w _ _ _ _ _ C1 P1 ?_
    by_cases a1 : (32 : Int) ∈ zs
    · rw [decide_eq_true a1]
      by_cases a2 : decOk (tkD zs) = false
      · exact .inr (.inl ⟨rfl, a2⟩)
      · have a2' : decOk (tkD zs) = true := by simpa using a2
        have a3 := (h1.resolve_left (fun h => h a1)).resolve_left a2
        have ep : pnV (tkD zs) = min (tkN zs : Int) 1099511627777 := by unfold pnV; rw [if_pos a2']; rfl
        rw [ep]
        rcases a3 with a3 | a3
        · exact .inr (.inr (.inl ⟨rfl, a2', by omega⟩))
        · exact .inr (.inr (.inr ⟨rfl, a2', by omega, by omega⟩))
    · rw [decide_eq_false a1]; exact .inl rfl
  · have h1' := h1
    simp only [not_or, Decidable.not_not, Bool.not_eq_false, Nat.not_lt] at h1
    obtain ⟨a1, a2, a3, a4⟩ := h1
    rw [decide_eq_true a1] at C1
    have ep : pnV (tkD zs) = (tkN zs : Int) := by unfold pnV; rw [if_pos a2]; show min (tkN zs : Int) _ = _; omega
    rw [ep, a2] at P1
    by_cases h2 : zs.length < tkN zs
    · have eE : tkE zs = 5 := by unfold tkE; rw [if_neg h1', if_pos h2]
      have eX : tkX zs = ({ data := #[] }, { data := #[] }) := by unfold tkX; rw [eE]; rfl
      rw [eX, eE]
      exact pf_trunc s w _ _ _ C1 P1 (by omega) (by omega) (by omega)
    · obtain ⟨n, hn⟩ : ∃ n, n = tkN zs := ⟨_, rfl⟩
      rw [← hn] at P1 a3 a4 h2
      have hex : numsOf (s.extract 0 n) = zs.take n := by rw [nums_ext, ← hzs]; rfl
      have hexs : (s.extract 0 n).size = n := by rw [← numsOf_length, hex, List.length_take]; omega
      have cutA : ∀ (t : ByteArray) (c : UInt8), t.size ≤ 300000 → Hid (∀ w', Calls Tryd.prog 43 #[.string t, .string ⟨#[c]⟩] w' fun e w'' =>
          e = .returned (.tuple #[.string (strOfNums (bef c.toNat (numsOf t))), .string (strOfNums (aft c.toNat (numsOf t))), .bool (decide ((c.toNat : Int) ∈ numsOf t))]) ∧ Below w'.heap.size w' w'') := fun t c ht w' => cut_any t c w' (mx _ ht)
      have asz : ∀ (c : Int) (t : ByteArray), t.size ≤ 300000 → (strOfNums (aft c (numsOf t))).size ≤ 300000 := fun c t ht => str_bd (by unfold aft; rw [List.length_drop, numsOf_length]; omega) (aft_bd (numsOf_bd t))
      by_cases h3 : zs.getD (n - 1) 0 = 10
      · have C2 : Hid (∀ w', Calls Tryd.prog 44 #[.string (s.extract 0 n), .string { data := #[10] }] w' fun e w'' => e = .returned (.tuple #[.string ((s.extract 0 n).extract 0 (n - 1)), .bool true]) ∧ w' = w'') := fun w' => by
          have := suf_yes (s.extract 0 n) w' (mx _ (by omega)) (by omega) (by rw [hex, hexs, List.getD_eq_getElem?_getD, List.getElem?_take, if_pos (by omega), ← List.getD_eq_getElem?_getD]; exact h3)
          rwa [hexs] at this
        obtain ⟨L, hL⟩ : ∃ L, L = (s.extract 0 n).extract 0 (n - 1) := ⟨_, rfl⟩
        rw [← hL] at C2
        have hLn : numsOf L = zs.take (n - 1) := by rw [hL, nums_ext, hex, List.drop_zero, Nat.sub_zero, List.take_take, Nat.min_eq_left (by omega)]
        have hLs : L.size ≤ 300000 := by rw [← numsOf_length, hLn, List.length_take]; omega
        have C3 := cutA L 32 hLs
        obtain ⟨T, hT⟩ : ∃ T, T = strOfNums (aft ((32 : UInt8).toNat : Int) (numsOf L)) := ⟨_, rfl⟩
        have hTn : numsOf T = aft 32 (zs.take (n - 1)) := by rw [hT, hLn]; exact numsOf_strOfNums (aft_bd (take_bd _ hb))
        have hTs : T.size ≤ 300000 := by rw [hT]; exact asz _ L hLs
        rw [← hT] at C3
        have C4 := cutA T 61 hTs
        by_cases h4 : n < (tkD zs).length + 2
        · have hT0 : numsOf T = [] := by rw [hTn]; exact aft_none (no_of_take (by unfold tkD at h4; omega))
          have hEQ : decide (((61 : UInt8).toNat : Int) ∈ numsOf T) = false := by rw [hT0]; rfl
          rw [hEQ] at C4
          have eE : tkE zs = 6 := by unfold tkE; rw [if_neg h1', if_neg (by rw [← hn]; exact h2), if_pos (.inl (by rw [← hn]; exact h4))]
          have eX : tkX zs = ({ data := #[] }, { data := #[] }) := by unfold tkX; rw [eE]; rfl
          rw [eX, eE]
          exact pf_noline s w _ _ n C1 P1 (by omega) (by omega) (by omega) L _ T _ _ true _ false C2 C3 C4 (.inr ⟨rfl, rfl⟩)
        · have hTB : numsOf T = tkB zs := by
            rw [hTn]; unfold aft
            rw [(bef_of_take a1 (show (bef 32 zs).length < n - 1 by unfold tkD at h4; omega)).1]
            unfold tkB; rw [← hn]; rfl
          rw [hTB] at C4
          by_cases h5 : (61 : Int) ∈ tkB zs
          · have hEQ : decide (((61 : UInt8).toNat : Int) ∈ tkB zs) = true := decide_eq_true h5
            rw [hEQ] at C4
            have hKD : strOfNums (bef ((61 : UInt8).toNat : Int) (tkB zs)) = (tkR zs).1 ∧ strOfNums (aft ((61 : UInt8).toNat : Int) (tkB zs)) = (tkR zs).2 := ⟨rfl, rfl⟩
            rw [hKD.1, hKD.2] at C4
            have C3' : Hid (∀ w', Calls Tryd.prog 43 #[.string L, .string { data := #[32] }] w' fun e w'' => e = .returned (.tuple #[.string (strOfNums (bef ((32 : UInt8).toNat : Int) (numsOf L))), .string T, .bool (decide (((32 : UInt8).toNat : Int) ∈ numsOf L))]) ∧ Below w'.heap.size w' w'') := C3
            have ho := oth_tk hb
            have ho6 : oth ((tkR zs).1, (tkR zs).2) ≤ 1000000 := by
              show oth (tkR zs) ≤ _
              rw [ho]; have := kv_len zs; omega
            have C5 : Hid (∀ w', Below w.heap.size w w' → Calls Tryd.prog 15 #[.agg #[.string (tkR zs).1, .string (tkR zs).2]] w' fun e w'' => e = .returned (.int .i64 ((szR (tkR zs) : Nat) : Int)) ∧ Below w'.heap.size w' w'') := fun w' hbw =>
              size_any (tkR zs).1 (tkR zs).2 w' (V.go hbw) ho6
            have hsz : szR (tkR zs) = szN ((tkK zs).length + (tkV zs).length + 3) := by unfold szR; rw [ho]
            by_cases h6 : szN ((tkK zs).length + (tkV zs).length + 3) = tkN zs
            · have T0 : TkOk zs := ⟨a1, a2, by omega, by omega, by omega, by omega, by rw [← hn]; exact h3, h5, h6⟩
              have eE : tkE zs = 0 := (tkE_ok zs).2 T0
              have eX : tkX zs = tkR zs := by unfold tkX; rw [if_pos eE]
              rw [eX, eE]
              exact pf_good s w _ _ n C1 P1 (by omega) (by omega) (by omega) L _ T _ _ _ C2 C3' C4 _ C5 (by rw [hsz, h6, hn]; simp)
            · have eE : tkE zs = 6 := by unfold tkE; rw [if_neg h1', if_neg (by rw [← hn]; exact h2), if_pos (.inr (.inr (.inr h6)))]
              have eX : tkX zs = ({ data := #[] }, { data := #[] }) := by unfold tkX; rw [eE]; rfl
              rw [eX, eE]
              exact pf_size s w _ _ n C1 P1 (by omega) (by omega) (by omega) L _ T _ _ _ C2 C3' C4 _ C5 (by rw [hsz, hn]; simp; omega)
          · have hEQ : decide (((61 : UInt8).toNat : Int) ∈ tkB zs) = false := decide_eq_false h5
            rw [hEQ] at C4
            have eE : tkE zs = 6 := by unfold tkE; rw [if_neg h1', if_neg (by rw [← hn]; exact h2), if_pos (.inr (.inr (.inl h5)))]
            have eX : tkX zs = ({ data := #[] }, { data := #[] }) := by unfold tkX; rw [eE]; rfl
            rw [eX, eE]
            exact pf_noline s w _ _ n C1 P1 (by omega) (by omega) (by omega) L _ T _ _ true _ false C2 C3 C4 (.inr ⟨rfl, rfl⟩)
      · have C2 : Hid (∀ w', Calls Tryd.prog 44 #[.string (s.extract 0 n), .string { data := #[10] }] w' fun e w'' => e = .returned (.tuple #[.string (s.extract 0 n), .bool false]) ∧ w' = w'') := fun w' =>
          suf_no (s.extract 0 n) w' (mx _ (by omega)) (.inr (by rw [hex, hexs, List.getD_eq_getElem?_getD, List.getElem?_take, if_pos (by omega), ← List.getD_eq_getElem?_getD]; exact h3))
        have C3 := cutA (s.extract 0 n) 32 (by omega)
        have C4 := cutA (strOfNums (aft ((32 : UInt8).toNat : Int) (numsOf (s.extract 0 n)))) 61 (asz _ _ (by omega))
        have eE : tkE zs = 6 := by unfold tkE; rw [if_neg h1', if_neg (by rw [← hn]; exact h2), if_pos (.inr (.inl (by rw [← hn]; exact h3)))]
        have eX : tkX zs = ({ data := #[] }, { data := #[] }) := by unfold tkX; rw [eE]; rfl
        rw [eX, eE]
        exact pf_noline s w _ _ n C1 P1 (by omega) (by omega) (by omega) _ _ _ _ _ false _ _ C2 C3 C4 (.inl rfl)
end Go.Proofs.YtjmnhnijmaceeaaDoor.Pxr
