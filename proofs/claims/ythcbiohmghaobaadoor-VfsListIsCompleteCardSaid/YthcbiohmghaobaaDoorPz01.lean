/-
  Small things that every text of ours uses; nothing of the program.
-/
import Derived.WalkKit
import Derived.WalkSpells
import Derived.WalkLawsBesides
import Derived.Lib.Hide
import Derived.Deep.DeepMust
import Derived.OpenShut
import Derived.Lib.ItoaNum
import Derived.Lib.IndexLaws
import Derived.Lib.BytesEntry
import Derived.Laws.OwnMore
import GoSem.Op.String
import Derived.Test.YthcbiohmghaobaaDoorRows
import Derived.Test.YthcbiohmghaobaaDoorPnmMath
namespace Go.Proofs.YthcbiohmghaobaaDoor
open Go.RowKit

/-- a value under a name of its own -/
theorem named {α : Sort _} (x : α) : ∃ y, Hid (y = x) := ⟨x, Eq.refl x⟩

/-- the bytes zs lie at block b from off on -/
def RowAt (w : World) (b off : Nat) (zs : List Int) : Prop :=
  (∀ i, i < zs.length → w.cell? ⟨b, off + i, none⟩ = some (.int .u8 (zs.getD i 0))) ∧ ∀ z ∈ zs, 0 ≤ z ∧ z ≤ 255

theorem RowAt.get {w : World} {b off : Nat} {zs : List Int} (h : RowAt w b off zs) (i : Nat) (hi : i < zs.length) :
    ∃ d : Int, d = zs.getD i 0 ∧ 0 ≤ d ∧ d ≤ 255 ∧ w.cell? ⟨b, off + i, none⟩ = some (.int .u8 d) :=
  ⟨_, rfl, (h.2 _ (by rw [List.getD_eq_getElem?_getD, List.getElem?_eq_getElem hi]; exact List.getElem_mem hi)).1,
    (h.2 _ (by rw [List.getD_eq_getElem?_getD, List.getElem?_eq_getElem hi]; exact List.getElem_mem hi)).2, h.1 i hi⟩

theorem RowAt.get0 {w : World} {b : Nat} {zs : List Int} (h : RowAt w b 0 zs) (i : Nat) (hi : i < zs.length) :
    ∃ d : Int, d = zs.getD i 0 ∧ 0 ≤ d ∧ d ≤ 255 ∧ w.cell? ⟨b, i, none⟩ = some (.int .u8 d) := by
  have := h.get i hi
  rwa [Nat.zero_add] at this

/-- what lies below B still lies there -/
theorem RowAt.below {w w' : World} {B b off : Nat} {zs : List Int} (h : RowAt w b off zs) (hb : Below B w w') (hB : b < B) : RowAt w' b off zs :=
  ⟨fun i hi => (hb.cell (p := ⟨b, off + i, none⟩) hB).trans (h.1 i hi), h.2⟩

theorem RowAt.of_own {w : World} {base g n cap : Nat} {e : TypeId} {zs : List Int} (h : w.ownsRow base e 1 (.slice (some ⟨g, 0, none⟩) n cap) n (zs.map (.int .u8)))
    (hz : ∀ z ∈ zs, 0 ≤ z ∧ z ≤ 255) : RowAt w g 0 zs := by
  refine ⟨fun i hi => ?_, hz⟩
  have hl := h.1
  rw [List.length_map] at hl
  rw [Nat.zero_add, h.cellAt i (by omega), List.getElem?_map, List.getElem?_eq_getElem hi, List.getD_eq_getElem?_getD, List.getElem?_eq_getElem hi]
  rfl

theorem own_below {w w' : World} {base B g n cap : Nat} {e : TypeId} {xs : List Value} (h : w.ownsRow base e 1 (.slice (some ⟨g, 0, none⟩) n cap) n xs) (hb : Below B w w') (hg : g < B) :
    w'.ownsRow base e 1 (.slice (some ⟨g, 0, none⟩) n cap) n xs := by
  obtain ⟨h1, h2⟩ := h
  refine ⟨h1, ?_⟩
  rcases h2 with h2 | ⟨g', cap', cur, hv, hb', hh, r⟩
  · exact Or.inl h2
  · simp only [Value.slice.injEq, Option.some.injEq, Addr.mk.injEq, and_true, true_and] at hv
    obtain ⟨rfl, rfl⟩ := hv
    exact Or.inr ⟨g, cap, cur, rfl, hb', by rw [hb.block g hg]; exact hh, r⟩

theorem own_lt {w : World} {base g n cap : Nat} {e : TypeId} {xs : List Value} (h : w.ownsRow base e 1 (.slice (some ⟨g, 0, none⟩) n cap) n xs) : base ≤ g ∧ g < w.heap.size := by
  rcases h.2 with ⟨h', _⟩ | ⟨g', cap', cur, hv, hb', hh, r⟩
  · simp at h'
  · simp only [Value.slice.injEq, Option.some.injEq, Addr.mk.injEq, and_true, true_and] at hv
    obtain ⟨rfl, rfl⟩ := hv
    refine ⟨hb', ?_⟩
    rcases Nat.lt_or_ge g w.heap.size with h | h
    · exact h
    · rw [Array.getElem?_eq_none h] at hh; cases hh

/-- 'string(b)' of bytes that lie there -/
theorem run_str_of {P : Program} {w : World} {src e dst : TypeId} (hs : P.underlying src = some (.slice e)) (he : P.underlying e = some (.int .u8)) (hd : P.underlying dst = some .string)
    {b off : Nat} {zs : List Int} (h : RowAt w b off zs) (n cap : Nat) (hn : zs.length = n) :
    (convert src dst (.slice (some ⟨b, off, none⟩) n cap)).run P w = .ok (.string (strOfNums zs)) w := by
  exact run_convert_bytes_arg w src e hs he b off n cap zs hn (fun i hi => h.1 i (by omega)) dst hd

/-- the bytes of a string as numbers -/
def numsOf (s : ByteArray) : List Int := s.data.toList.map fun b => (b.toNat : Int)
theorem numsOf_length (s : ByteArray) : (numsOf s).length = s.size := by unfold numsOf; rw [List.length_map, Array.length_toList]; rfl
theorem numsOf_bd (s : ByteArray) : ∀ z ∈ numsOf s, 0 ≤ z ∧ z ≤ 255 := by
  intro z hz
  obtain ⟨b, _, rfl⟩ := List.mem_map.1 hz
  have := b.toNat_lt
  omega
theorem numsOf_strOfNums {zs : List Int} (h : ∀ z ∈ zs, 0 ≤ z ∧ z ≤ 255) : numsOf (strOfNums zs) = zs := by
  unfold numsOf
  rw [strOfNums_data, List.map_map]
  conv => rhs; rw [← List.map_id zs]
  refine List.map_congr_left fun z hz => ?_
  have := h z hz
  show ((UInt8.ofNat z.toNat).toNat : Int) = z
  rw [UInt8.toNat_ofNat']
  omega

/-- '[]byte(s)': the bytes lie in a new block; nothing that was there has turned -/
theorem run_bytes_of {P : Program} (w : World) {src e dst : TypeId} (hs : P.underlying src = some .string) (hd : P.underlying dst = some (.slice e)) (he : P.underlying e = some (.int .u8)) (s : ByteArray) :
    ∃ c w', (convert src dst (.string s)).run P w = .ok (.slice (some ⟨w.heap.size, 0, none⟩) s.size c) w' ∧ RowAt w' w.heap.size 0 (numsOf s) ∧ Below w.heap.size w w' ∧ w.heap.size < w'.heap.size := by
  refine ⟨_, _, run_bytes_of_string w src dst e s hs hd he, ⟨fun i hi => ?_, numsOf_bd s⟩, (Below.refl _ _).drew.alloc (Nat.le_refl _) _, by simp⟩
  have hi' : i < s.data.size := by rw [numsOf_length] at hi; exact hi
  have := World.cell?_alloc_mark w.drew (bytesRow s (grownCap w s.size 0 e)) e ((bytesRow s (grownCap w s.size 0 e)).size, (bytesRow s (grownCap w s.size 0 e)).size + 1) i
  rw [Nat.zero_add]
  refine Eq.trans this ?_
  rw [bytesRow_at s _ i hi']
  have e : s.data[i]? = some s.data[i] := Array.getElem?_eq_getElem hi'
  simp [numsOf, List.getD_eq_getElem?_getD, e]

/-- the call returned the bytes zs (n of them) and the number r; nothing that was there in w has turned -/
def RetBytes (zs : List Int) (n : Nat) (r : Int) (w : World) (e : Ending) (w' : World) : Prop :=
  ∃ b c, e = .returned (.tuple #[.slice (some ⟨b, 0, none⟩) n c, .int .i64 r]) ∧ RowAt w' b 0 zs ∧ b < w'.heap.size ∧ Below w.heap.size w w'

/-- WHAT A WALK IS TOLD OF A SLICE OF INTEGERS THAT CAME IN: zs: its elements; it has none, or they lie in a block that was there -/
def ArgInts (k : IntKind) (w : World) (a : Option Addr) (len cap : Nat) (zs : List Int) : Prop :=
  zs.length = len ∧ len ≤ cap ∧ cap ≤ maxLen ∧ (∀ z ∈ zs, (Lit.int k z).wf = true) ∧
  (len = 0 ∨ ∃ b off, a = some ⟨b, off, none⟩ ∧ b < w.heap.size ∧ ∀ i, i < zs.length → w.cell? ⟨b, off + i, none⟩ = some (.int k (zs.getD i 0)))

theorem ArgInts.nil {k : IntKind} {w : World} : ArgInts k w none 0 0 [] :=
  ⟨rfl, Nat.le_refl _, by unfold maxLen; omega, fun _ h => by simp at h, .inl rfl⟩

theorem ArgInts.mk' {k : IntKind} {w : World} {x : Addr} {len cap : Nat} {zs : List Int} (hl : len ≤ cap) (hm : cap ≤ maxLen) (hz : zs.length = cap)
    (hc : ∀ i, i < zs.length → w.cell? (x.add i) = some (.int k (zs.getD i 0))) (hw : ∀ n ∈ zs, (Lit.int k n).wf = true) : ArgInts k w (some x) len cap (zs.take len) := by
  refine ⟨by rw [List.length_take]; omega, hl, hm, fun z h => hw z (List.mem_of_mem_take h), ?_⟩
  rcases Nat.eq_zero_or_pos len with h | h
  · exact .inl h
  · obtain ⟨b, off, rfl, hc'⟩ := ints_at hc (by omega)
    refine .inr ⟨b, off, rfl, ?_, fun i hi => ?_⟩
    · have h0 := hc' 0 (by omega)
      rcases Nat.lt_or_ge b w.heap.size with h | h
      · exact h
      · rw [World.cell?] at h0
        simp [Array.getElem?_eq_none h] at h0
    · rw [List.length_take] at hi
      rw [hc' i (by omega)]
      congr 2
      rw [List.getD_eq_getElem?_getD, List.getD_eq_getElem?_getD, List.getElem?_take, if_pos (by omega)]

/-- the bytes of a slice that came in -/
theorem ArgInts.row {w : World} {a : Option Addr} {len cap : Nat} {zs : List Int} (h : ArgInts .u8 w a len cap zs) (hp : 0 < len) :
    ∃ b off, a = some ⟨b, off, none⟩ ∧ b < w.heap.size ∧ RowAt w b off zs := by
  obtain ⟨_, _, _, h4, h5⟩ := h
  rcases h5 with h5 | ⟨b, off, h5, h6, h7⟩
  · omega
  · exact ⟨b, off, h5, h6, h7, fun z hz => bounds_u8 (h4 z hz)⟩

/-- the bytes zs are what the slice at a holds (a slice of no bytes may lie anywhere) -/
def BytesIn (w : World) (a : Option Addr) (zs : List Int) : Prop :=
  zs = [] ∨ ∃ b off, a = some ⟨b, off, none⟩ ∧ b < w.heap.size ∧ RowAt w b off zs

theorem ArgInts.bytes {w : World} {a : Option Addr} {len cap : Nat} {zs : List Int} (h : ArgInts .u8 w a len cap zs) : BytesIn w a zs := by
  rcases Nat.eq_zero_or_pos len with h0 | h0
  · exact .inl (List.length_eq_zero_iff.1 (h.1.trans h0))
  · exact .inr (h.row h0)

theorem BytesIn.below {w w' : World} {a : Option Addr} {zs : List Int} (h : BytesIn w a zs) (hb : Below w.heap.size w w') : BytesIn w' a zs := by
  rcases h with h | ⟨b, off, h1, h2, h3⟩
  · exact .inl h
  · exact .inr ⟨b, off, h1, Nat.lt_of_lt_of_le h2 hb.size, h3.below hb h2⟩

theorem BytesIn.of_row {w : World} {b : Nat} {zs : List Int} (h : RowAt w b 0 zs) (hb : b < w.heap.size) : BytesIn w (some ⟨b, 0, none⟩) zs := .inr ⟨b, 0, rfl, hb, h⟩

theorem BytesIn.of_own {w : World} {base g n cap : Nat} {e : TypeId} {zs : List Int} (h : w.ownsRow base e 1 (.slice (some ⟨g, 0, none⟩) n cap) n (zs.map (.int .u8)))
    (hz : ∀ z ∈ zs, 0 ≤ z ∧ z ≤ 255) : BytesIn w (some ⟨g, 0, none⟩) zs := .of_row (.of_own h hz) (own_lt h).2

/-- 'string(b)' of bytes that lie anywhere -/
theorem run_str_in {P : Program} {w : World} {src e dst : TypeId} (hs : P.underlying src = some (.slice e)) (he : P.underlying e = some (.int .u8)) (hd : P.underlying dst = some .string)
    {a : Option Addr} {zs : List Int} (h : BytesIn w a zs) (n cap : Nat) (hn : zs.length = n) :
    (convert src dst (.slice a n cap)).run P w = .ok (.string (strOfNums zs)) w := by
  rcases h with h | ⟨b, off, h1, _, h3⟩
  · subst h
    obtain rfl : n = 0 := hn.symm
    cases a with
    | none => exact run_convert_bytes_nil w src e hs he 0 cap dst hd
    | some x =>
      rw [run_convert_bytes_string w src dst e _ _ _ hs he hd]
      exact run_bytesToString w x 0 cap [] (by simpa using run_loadCells_list (P := P) w x [] (fun j v hj => by simp at hj))
  · rw [h1]
    exact run_str_of hs he hd h3 n cap hn

theorem own_shape {w : World} {base n : Nat} {e : TypeId} {v : Value} {xs : List Value} (h : w.ownsRow base e 1 v n xs) (hn : 0 < n) : ∃ g cap, v = .slice (some ⟨g, 0, none⟩) n cap ∧ base ≤ g := by
  rcases h.2 with ⟨_, h'⟩ | ⟨g', cap', cur, hv, hb', _⟩
  · omega
  · exact ⟨g', cap', hv, hb'⟩

theorem add_plain' (b off j : Nat) : (⟨b, off, none⟩ : Addr).add j = ⟨b, off + j, none⟩ := Go.WideShapes.add_plain _ _ _

/-- the cells of bytes, as an append asks them -/
theorem RowAt.news {w : World} {b off : Nat} {zs : List Int} (h : RowAt w b off zs) : ∀ j u, (zs.map (Value.int .u8))[j]? = some u → w.cell? ((⟨b, off, none⟩ : Addr).add j) = some u := by
  intro j u hj
  have hl : j < zs.length := by
    rcases Nat.lt_or_ge j zs.length with h | h
    · exact h
    · rw [List.getElem?_eq_none (by simpa using h)] at hj; cases hj
  rw [add_plain', h.1 j hl]
  rw [List.getElem?_map, List.getElem?_eq_getElem hl] at hj
  rw [List.getD_eq_getElem?_getD, List.getElem?_eq_getElem hl]
  exact hj

theorem one_map (k : IntKind) (zs : List Int) : ∀ u ∈ zs.map (Value.int k), u.oneCell' = true := by
  intro u hu
  obtain ⟨z, _, rfl⟩ := List.mem_map.1 hu
  rfl

theorem own_block {w : World} {base n : Nat} {e : TypeId} {v : Value} {xs : List Value} (h : w.ownsRow base e 1 v n xs) : ∀ k, v.ownBlock = some k → base ≤ k := by
  intro k hk
  rcases h.2 with ⟨h', _⟩ | ⟨g', cap', cur, hv, hb', _⟩
  · rw [h'] at hk; cases hk
  · rw [hv] at hk
    obtain rfl : g' = k := by simpa [Value.ownBlock] using hk
    exact hb'

/-- 'append(s, x...)' on bytes of the call's own: what is owned behind it; nothing below base has turned -/
theorem wpList_append_u8 {P : Program} {w : World} {ops : Array Oper} {rest : List Oper} {o : Oper} {a : Act} {Q : Exit → Act → World → Prop} (hgd : o.guard = none) (s x : Operand) (t : TypeId)
    (ho : o.op = .call { callee := .builtin .append, args := #[s, x], argTypes := #[t, t] })
    (base : Nat) (e : TypeId) (i0 : TypeInfo) (hT : P.underlying t = some (.slice e)) (hI : Hid (P.info? e = some i0 ∧ i0.zero = some (.int .u8 0) ∧ i0.size = 1 ∧ i0.bytes = 1))
    (v : Value) (n : Nat) (zs : List Int) (hs : a.eval s = v) (hown : w.ownsRow base e 1 v n (zs.map (.int .u8)))
    (b off m c : Nat) (ys : List Int) (hx : a.eval x = .slice (some ⟨b, off, none⟩) m c) (hy : RowAt w b off ys) (hl : ys.length = m) (h47 : n + m ≤ 140737488355328) (hbase : base ≤ w.heap.size)
    (K : ∀ v' w', w'.ownsRow base e 1 v' (n + m) ((zs ++ ys).map (.int .u8)) → Below base w w' → wpList P ops Q rest (a.put o.dst v') w') : wpList P ops Q (o :: rest) a w := by
  refine wpList_append_own _ hgd s x t ho base e i0 (.int .u8 0) 1 1 hT hI.out.1 hI.out.2.1 hI.out.2.2.1 hI.out.2.2.2 rfl (by decide) v n _ hs hown ⟨b, off, none⟩ m c (ys.map (.int .u8)) hx (by rw [List.length_map, hl, Nat.mul_one]) hy.news (one_map _ _) (by unfold maxLen; omega) (by omega) hbase ?_
  intro v' w' h1 h2 _
  exact K v' w' (by rw [List.map_append]; exact h1) ((Below.refl _ _).grown h2 hbase (own_block hown))

end Go.Proofs.YthcbiohmghaobaaDoor
/-
  Layer 9: plain mathematics of decimal numerals and of a record's length.
-/
namespace Go.Proofs.YthcbiohmghaobaaDoor.Pxr
open Go.Lib

/-! decimal numerals, as bytes -/
def decD (n : Nat) : List Int := (decDigits n).map fun b => (b.toNat : Int)
def digB (z : Int) : Bool := decide (48 ≤ z) && decide (z ≤ 57)
def decV (zs : List Int) : Nat := zs.foldl (fun n z => 10 * n + (z - 48).toNat) 0
def decOk (zs : List Int) : Bool := !zs.isEmpty && zs.all digB && (decide (zs.getD 0 0 ≠ 48) || decide (zs.length = 1))

theorem snoc_ind {P : List Int → Prop} (nil : P []) (append_singleton : ∀ ys z, P ys → P (ys ++ [z])) (zs : List Int) : P zs := by
  rw [← List.reverse_reverse zs]
  generalize zs.reverse = l
  induction l with
  | nil => exact nil
  | cons a l ih => rw [List.reverse_cons]; exact append_singleton _ _ ih

theorem digB_iff (z : Int) : digB z = true ↔ 48 ≤ z ∧ z ≤ 57 := by unfold digB; simp
theorem ofNat_digit {n : Nat} (h : n < 10) : ((UInt8.ofNat (48 + n)).toNat : Int) = 48 + (n : Int) := by
  rw [UInt8.toNat_ofNat']; omega
theorem decD_small {n : Nat} (h : n < 10) : decD n = [48 + (n : Int)] := by
  unfold decD; rw [decDigits, dif_pos h, List.map_cons, List.map_nil, ofNat_digit h]
theorem decD_big {n : Nat} (h : ¬ n < 10) : decD n = decD (n / 10) ++ [48 + ((n % 10 : Nat) : Int)] := by
  unfold decD; rw [decDigits, dif_neg h, List.map_append, List.map_cons, List.map_nil, ofNat_digit (Nat.mod_lt _ (by decide))]
theorem decD_len (n : Nat) : (decD n).length = nDigits n := by unfold decD; rw [List.length_map, decDigits_length]
theorem decD_ne (n : Nat) : decD n ≠ [] := fun h => by
  have := decD_len n; rw [h] at this; have := nDigits_pos n; simp at *; omega
theorem decV_snoc (zs : List Int) (z : Int) : decV (zs ++ [z]) = 10 * decV zs + (z - 48).toNat := by unfold decV; rw [List.foldl_append]; rfl
theorem decV_nil : decV [] = 0 := rfl
theorem decV_decD (n : Nat) : decV (decD n) = n := by
  induction n using Nat.strongRecOn with
  | _ n ih =>
    by_cases h : n < 10
    · rw [decD_small h]; show 10 * 0 + (48 + (n : Int) - 48).toNat = n; omega
    · rw [decD_big h, decV_snoc, ih (n / 10) (by omega)]; omega
theorem decD_digs (n : Nat) : (decD n).all digB = true := by
  induction n using Nat.strongRecOn with
  | _ n ih =>
    by_cases h : n < 10
    · rw [decD_small h, List.all_cons, List.all_nil, Bool.and_true, digB_iff]; omega
    · rw [decD_big h, List.all_append, ih (n / 10) (by omega), Bool.true_and, List.all_cons, List.all_nil, Bool.and_true, digB_iff]; omega
theorem decD_head (n : Nat) (h1 : 1 ≤ n) : (decD n).getD 0 0 ≠ 48 := by
  induction n using Nat.strongRecOn with
  | _ n ih =>
    by_cases h : n < 10
    · rw [decD_small h]; show (48 + (n : Int)) ≠ 48; omega
    · have hne := decD_ne (n / 10)
      have := ih (n / 10) (by omega) (by omega)
      rw [decD_big h]
      cases hc : decD (n / 10) with
      | nil => exact absurd hc hne
      | cons a l => rw [hc] at this; exact this
theorem decD_ok (n : Nat) : decOk (decD n) = true := by
  unfold decOk
  rw [decD_digs, Bool.and_true]
  have hne := decD_ne n
  have : (decD n).isEmpty = false := by cases hc : decD n with
    | nil => exact absurd hc hne
    | cons _ _ => rfl
  rw [this, Bool.not_false, Bool.true_and]
  by_cases h : n < 10
  · rw [decD_small h]; simp
  · rw [decide_eq_true (decD_head n (by omega))]; rfl
theorem decV_pos : ∀ (zs : List Int), zs.all digB = true → zs ≠ [] → zs.getD 0 0 ≠ 48 → 1 ≤ decV zs := by
  intro zs
  induction zs using snoc_ind with
  | nil => intro _ h; exact absurd rfl h
  | append_singleton ys z ih =>
    intro ha _ hh
    rw [decV_snoc]
    rw [List.all_append, Bool.and_eq_true] at ha
    rcases List.eq_nil_or_concat ys with rfl | ⟨_, _, hy⟩
    · have h1 := ha.2
      rw [List.all_cons, List.all_nil, Bool.and_true, digB_iff] at h1
      change z ≠ 48 at hh
      omega
    · have hne : ys ≠ [] := by rw [hy]; simp
      have := ih ha.1 hne (by
        cases ys with
        | nil => exact absurd rfl hne
        | cons a l => exact hh)
      omega
theorem decD_decV : ∀ (zs : List Int), decOk zs = true → decD (decV zs) = zs := by
  intro zs
  induction zs using snoc_ind with
  | nil => intro h; exact absurd h (by decide)
  | append_singleton ys z ih =>
    intro h
    unfold decOk at h
    rw [Bool.and_eq_true, Bool.and_eq_true] at h
    obtain ⟨⟨_, ha⟩, hh⟩ := h
    rw [List.all_append, Bool.and_eq_true] at ha
    have h1 := ha.2
    rw [List.all_cons, List.all_nil, Bool.and_true, digB_iff] at h1
    rw [decV_snoc]
    rcases List.eq_nil_or_concat ys with rfl | ⟨_, _, hy⟩
    · rw [decV_nil, decD_small (by omega)]
      show [_] = [z]
      congr 1
      omega
    · have hne : ys ≠ [] := by rw [hy]; simp
      have hl : ys.length ≠ 0 := fun h => hne (List.length_eq_zero_iff.1 h)
      have hd : ys.getD 0 0 ≠ 48 := by
        rw [Bool.or_eq_true, decide_eq_true_eq, decide_eq_true_eq, List.length_append, List.length_singleton] at hh
        rcases hh with hh | hh
        · cases ys with
          | nil => exact absurd rfl hne
          | cons a l => exact hh
        · omega
      have hp := decV_pos ys ha.1 hne hd
      have hok : decOk ys = true := by
        unfold decOk
        rw [ha.1, decide_eq_true hd]
        cases ys with
        | nil => exact absurd rfl hne
        | cons a l => rfl
      have e := ih hok
      rw [decD_big (by omega)]
      rw [show (10 * decV ys + (z - 48).toNat) / 10 = decV ys by omega, e]
      congr 2
      omega
theorem decV_mono (xs ys : List Int) : decV xs ≤ decV (xs ++ ys) := by
  induction ys using snoc_ind with
  | nil => rw [List.append_nil]; exact Nat.le_refl _
  | append_singleton ys z ih => rw [← List.append_assoc, decV_snoc]; omega
theorem decV_take_le (zs : List Int) (k : Nat) : decV (zs.take k) ≤ decV zs := by
  have := decV_mono (zs.take k) (zs.drop k); rwa [List.take_append_drop] at this
theorem decV_take_succ (zs : List Int) (k : Nat) (h : k < zs.length) : decV (zs.take (k + 1)) = 10 * decV (zs.take k) + (zs.getD k 0 - 48).toNat := by
  rw [List.take_succ_eq_append_getElem h, decV_snoc, List.getD_eq_getElem?_getD, List.getElem?_eq_getElem h]; rfl
theorem decOk_iff (zs : List Int) : decOk zs = true ↔ zs ≠ [] ∧ (∀ k, k < zs.length → 48 ≤ zs.getD k 0 ∧ zs.getD k 0 ≤ 57) ∧ (zs.getD 0 0 = 48 → zs.length = 1) := by
  unfold decOk
  rw [Bool.and_eq_true, Bool.and_eq_true, Bool.or_eq_true, decide_eq_true_eq, decide_eq_true_eq]
  constructor
  · rintro ⟨⟨h1, h2⟩, h3⟩
    refine ⟨fun e => (by rw [e] at h1; cases h1), fun k hk => ?_, fun e => h3.resolve_left (fun h => h e)⟩
    rw [List.all_eq_true] at h2
    have := h2 _ (List.getElem_mem hk)
    rw [digB_iff] at this
    rw [List.getD_eq_getElem?_getD, List.getElem?_eq_getElem hk]; exact this
  · rintro ⟨h1, h2, h3⟩
    refine ⟨⟨?_, ?_⟩, ?_⟩
    · cases zs with
      | nil => exact absurd rfl h1
      | cons _ _ => rfl
    · rw [List.all_eq_true]
      intro z hz
      obtain ⟨k, hk, rfl⟩ := List.getElem_of_mem hz
      have := h2 k hk
      rw [List.getD_eq_getElem?_getD, List.getElem?_eq_getElem hk] at this
      exact (digB_iff _).2 this
    · by_cases e : zs.getD 0 0 = 48
      · exact .inr (h3 e)
      · exact .inl e

/-! the number of digits -/
theorem nDigits_mono {a b : Nat} (h : a ≤ b) : nDigits a ≤ nDigits b := by
  induction b using Nat.strongRecOn generalizing a with
  | _ b ih =>
    by_cases hb : b < 10
    · rw [nDigits_small hb, nDigits_small (by omega)]; exact Nat.le_refl _
    · rw [nDigits_big hb]
      by_cases ha : a < 10
      · rw [nDigits_small ha]; omega
      · rw [nDigits_big ha]
        have := ih (b / 10) (by omega) (show a / 10 ≤ b / 10 by omega)
        omega
theorem nDigits_le : ∀ (k n : Nat), n < 10 ^ (k + 1) → nDigits n ≤ k + 1
  | 0, n, h => by rw [nDigits_small (by simpa using h)]; exact Nat.le_refl _
  | k + 1, n, h => by
    by_cases hn : n < 10
    · rw [nDigits_small hn]; omega
    · rw [nDigits_big hn]
      rw [Nat.pow_succ] at h
      have := nDigits_le k (n / 10) (by omega)
      omega

/-! the length of a record: 'rest' bytes besides the length itself -/
def szF : Nat → Nat → Nat → Nat
  | 0, D, _ => D
  | f + 1, D, rest => if nDigits (D + rest) ≤ D then D else szF f (D + 1) rest
def szD (rest : Nat) : Nat := szF 7 1 rest
def szN (rest : Nat) : Nat := szD rest + rest

theorem szF_spec (rest : Nat) : ∀ (f D : Nat), 1 ≤ D → nDigits (D + f + rest) ≤ D + f → (∀ d, 1 ≤ d → d < D → ¬ nDigits (d + rest) ≤ d) →
    D ≤ szF f D rest ∧ szF f D rest ≤ D + f ∧ nDigits (szF f D rest + rest) ≤ szF f D rest ∧ ∀ d, 1 ≤ d → d < szF f D rest → ¬ nDigits (d + rest) ≤ d
  | 0, D, h1, h2, h3 => ⟨Nat.le_refl _, Nat.le_refl _, h2, h3⟩
  | f + 1, D, h1, h2, h3 => by
    unfold szF
    by_cases h : nDigits (D + rest) ≤ D
    · rw [if_pos h]; exact ⟨Nat.le_refl _, by omega, h, h3⟩
    · rw [if_neg h]
      obtain ⟨a, b, c, d⟩ := szF_spec rest f (D + 1) (by omega) (by rw [show D + 1 + f = D + (f + 1) by omega]; exact h2) (fun d hd1 hd2 => by
        by_cases e : d = D
        · rw [e]; exact h
        · exact h3 d hd1 (by omega))
      exact ⟨by omega, by omega, c, d⟩

theorem szD_spec {rest : Nat} (hr : rest ≤ 1000000) : 1 ≤ szD rest ∧ szD rest ≤ 8 ∧ nDigits (szD rest + rest) = szD rest ∧ ∀ d, 1 ≤ d → d < szD rest → d < nDigits (d + rest) := by
  have h8 : nDigits (1 + 7 + rest) ≤ 1 + 7 := nDigits_le 7 _ (by
    have : (10 : Nat) ^ (7 + 1) = 100000000 := by decide
    omega)
  obtain ⟨a, b, c, d⟩ := szF_spec rest 7 1 (Nat.le_refl _) h8 (fun d h1 h2 => by omega)
  refine ⟨a, b, ?_, fun d' h1 h2 => by have := d d' h1 h2; omega⟩
  change nDigits (szD rest + rest) ≤ szD rest at c
  change 1 ≤ szD rest at a
  by_cases e : szD rest = 1
  · rw [e] at c ⊢; have := nDigits_pos (1 + rest); omega
  · have := d (szD rest - 1) (by omega) (by show szD rest - 1 < szD rest; omega)
    have m := nDigits_mono (show szD rest - 1 + rest ≤ szD rest + rest by omega)
    omega
theorem szN_fix {rest : Nat} (hr : rest ≤ 1000000) : nDigits (szN rest) + rest = szN rest := by
  have := (szD_spec hr).2.2.1; unfold szN; omega
theorem szN_bd {rest : Nat} (hr : rest ≤ 1000000) : rest + 1 ≤ szN rest ∧ szN rest ≤ rest + 8 := by
  have := szD_spec hr; unfold szN; omega
theorem szN_least {rest m : Nat} (hr : rest ≤ 1000000) (h : nDigits m + rest = m) : szN rest ≤ m := by
  obtain ⟨_, _, _, h4⟩ := szD_spec hr
  unfold szN
  by_cases c : szD rest + rest ≤ m
  · exact c
  · have h1 : m - rest = nDigits m := by omega
    have h2 := nDigits_pos m
    have := h4 (m - rest) (by omega) (by omega)
    rw [show m - rest + rest = m by omega] at this
    omega
theorem szN_uniq {rest n : Nat} (hr : rest ≤ 1000000) (h : nDigits n + rest = n) (hl : ∀ m, m < n → nDigits m + rest ≠ m) : n = szN rest := by
  have h1 := szN_least hr h
  by_cases e : szN rest = n
  · exact e.symm
  · exact absurd (szN_fix hr) (hl _ (by omega))
/-- the steps of the program's loop -/
theorem szF_stop {f D rest : Nat} (h : nDigits (D + rest) ≤ D) : szF f D rest = D := by
  cases f with
  | zero => rfl
  | succ f => unfold szF; rw [if_pos h]
theorem szF_go {f D rest : Nat} (h : ¬ nDigits (D + rest) ≤ D) : szF (f + 1) D rest = szF f (D + 1) rest := by
  conv => lhs; unfold szF
  rw [if_neg h]
end Go.Proofs.YthcbiohmghaobaaDoor.Pxr
/-
  Small things, more: copy of a string, append of nothing, append of zeros, the index of a byte; nothing of the program.
-/
namespace Go.Proofs.YthcbiohmghaobaaDoor
open Go.RowKit

/-- as RetBytes; the slice's capacity besides -/
def RetB (zs : List Int) (n : Nat) (r : Int) (w : World) (e : Ending) (w' : World) : Prop :=
  ∃ b c, e = .returned (.tuple #[.slice (some ⟨b, 0, none⟩) n c, .int .i64 r]) ∧ RowAt w' b 0 zs ∧ b < w'.heap.size ∧ Below w.heap.size w w' ∧ n ≤ c ∧ c ≤ maxLen
theorem RetB.ret {zs : List Int} {n : Nat} {r : Int} {w w' : World} {e : Ending} (h : RetB zs n r w e w') : RetBytes zs n r w e w' := by
  obtain ⟨b, c, h1, h2, h3, h4, _⟩ := h
  exact ⟨b, c, h1, h2, h3, h4⟩

theorem BytesIn.new_one (w : World) (d : Int) (t : TypeId) (h0 : 0 ≤ d) (h1 : d ≤ 255) : BytesIn (w.alloc (.cells #[.int .u8 d] t)) (some ⟨w.heap.size, 0, none⟩) [d] :=
  .of_row ⟨fun i hi => by obtain rfl : i = 0 := by simpa using hi
                          rw [World.cell?_alloc_at _ _ _ _ rfl]; rfl, fun z hz => by obtain rfl : z = _ := by simpa using hz
                                                                                     exact ⟨h0, h1⟩⟩ (by simp)

theorem numsOf_eq (s : ByteArray) : numsOf s = s.data.toList.map fun b => (b.toNat : Int) := rfl

theorem strOfNums_numsOf (s : ByteArray) : strOfNums (numsOf s) = s := by
  apply ByteArray.ext
  apply Array.ext'
  rw [strOfNums_data, numsOf_eq, List.map_map]
  conv => rhs; rw [← List.map_id s.data.toList]
  exact List.map_congr_left fun b _ => by
    show UInt8.ofNat ((b.toNat : Int)).toNat = b
    simp

/-- 'a zero byte is among them', as the search answers -/
theorem idx_str (s : ByteArray) : 0 ≤ Lib.indexByte s.data.toList 0 ↔ (0 : Int) ∈ numsOf s := by
  constructor
  · intro h
    obtain ⟨o, ho⟩ : ∃ o : Nat, Lib.indexByte s.data.toList 0 = o := ⟨(Lib.indexByte s.data.toList 0).toNat, by omega⟩
    have h1 := (Lib.indexByte_some ho).1
    rw [numsOf_eq, List.mem_map]
    exact ⟨0, List.mem_of_getElem? h1, rfl⟩
  · intro h
    rw [numsOf_eq, List.mem_map] at h
    obtain ⟨b, hb, h0⟩ := h
    obtain rfl : b = 0 := by
      apply UInt8.toNat_inj.1
      have : b.toNat = 0 := by omega
      simpa using this
    rcases Int.lt_or_le (Lib.indexByte s.data.toList 0) 0 with h | h
    · exfalso
      have h1 := Lib.indexByte_ge s.data.toList 0
      obtain ⟨k, hk⟩ := List.getElem?_of_mem hb
      exact Lib.indexByte_none (c := 0) (by omega) k hk
    · exact h

theorem idx_bytes (zs : List Int) (hz : ∀ z ∈ zs, 0 ≤ z ∧ z ≤ 255) : 0 ≤ Lib.indexByte (Lib.bytesOf zs) 0 ↔ (0 : Int) ∈ zs := by
  have e : Lib.bytesOf zs = (strOfNums zs).data.toList := by rw [strOfNums_data]; rfl
  rw [e, idx_str, numsOf_strOfNums hz]

theorem run_indexByteIn {P : Program} {w : World} {a : Option Addr} {zs : List Int} (h : BytesIn w a zs) (n c : Nat) (hn : zs.length = n) (cv : Int) :
    (Extern.BytealgIndexByte.indexByte #[.slice a n c, .int .u8 cv]).run P w = .ok (.int .i64 (Lib.indexByte (Lib.bytesOf zs) cv.toNat.toUInt8)) w := by
  rcases h with h | ⟨b, off, rfl, _, h⟩
  · subst h
    obtain rfl : n = 0 := hn.symm
    cases a with
    | none => exact Lib.run_indexByteNil w 0 c cv
    | some x => exact Lib.run_indexByteString (P := P) .empty cv w
  · exact Lib.run_indexByteSlice w b off n c zs hn (fun i hi => h.1 i (by omega)) cv

theorem info_u8 {P : Program} {e : TypeId} (h : (P.info? e).map (fun i => (i.zero, i.size, i.bytes)) = some (some (.int .u8 0), 1, 1)) :
    ∃ i0, Hid (P.info? e = some i0 ∧ i0.zero = some (.int .u8 0) ∧ i0.size = 1 ∧ i0.bytes = 1) := by
  cases hq : P.info? e with
  | none => simp [hq] at h
  | some i => simp [hq] at h; exact ⟨i, rfl, h.1, h.2.1, h.2.2⟩

/-- 'copy(dst, s)' into a row of the call's own, from its head: the string's bytes, then what stood behind them -/
theorem wpList_copy_string {P : Program} {w : World} {ops : Array Oper} {rest : List Oper} {o : Oper} {a : Act} {Q : Exit → Act → World → Prop} (hgd : o.guard = none) (d x : Operand) (dT sT : TypeId)
    (ho : o.op = .call { callee := .builtin .copy, args := #[d, x], argTypes := #[dT, sT] })
    (base : Nat) (e : TypeId) (i0 : TypeInfo) (hT : P.underlying dT = some (.slice e)) (hI : Hid (P.info? e = some i0 ∧ i0.zero = some (.int .u8 0) ∧ i0.size = 1 ∧ i0.bytes = 1))
    (g n cap : Nat) (zs : List Int) (hd : a.eval d = .slice (some ⟨g, 0, none⟩) n cap) (hown : w.ownsRow base e 1 (.slice (some ⟨g, 0, none⟩) n cap) n (zs.map (.int .u8)))
    (s : ByteArray) (hx : a.eval x = .string s) (hl : s.size ≤ n)
    (K : ∀ w', w'.ownsRow base e 1 (.slice (some ⟨g, 0, none⟩) n cap) n ((numsOf s ++ zs.drop s.size).map (.int .u8)) → Below base w w' → wpList P ops Q rest (a.put o.dst (goInt s.size)) w') : wpList P ops Q (o :: rest) a w := by
  refine wpList_plain hgd fun K' hK => ?_
  have hrow := hown
  obtain ⟨h1, h2⟩ := hown
  rcases h2 with ⟨h2, _⟩ | ⟨g', cap', cur, hv, hbg, hg, hnc, hcm, hcs, htake⟩
  · simp at h2
  · simp only [Value.slice.injEq, Option.some.injEq, Addr.mk.injEq, and_true, true_and] at hv
    obtain ⟨rfl, rfl⟩ := hv
    have hlen : ((numsOf s).map (Value.int .u8)).length = s.size := by rw [List.length_map, numsOf_length]
    have hst := run_storeCells_at P g 0 e ((numsOf s).map (Value.int .u8)) 0 cur w hg (by rw [hlen]; omega) (one_map _ _)
    have hmin : Nat.min s.size n = s.size := Nat.min_eq_left hl
    have htk : List.take s.size (List.map (fun b : UInt8 => Value.int IntKind.u8 (b.toNat : Int)) s.data.toList) = (numsOf s).map (Value.int .u8) := by
      rw [List.take_of_length_le (by rw [List.length_map]; exact Nat.le_refl _), numsOf_eq, List.map_map]
      rfl
    have hrun : (Builtin.copy_ #[dT, sT] o.type #[.slice (some ⟨g, 0, none⟩) n cap, .string s]).run P w = .ok (goInt s.size) (w.setRow g ((numsOf s).map (Value.int .u8) ++ cur.toList.drop s.size).toArray) := by
      simp [Builtin.copy_, run_underlying hT, Builtin.lenOf, Builtin.firstCells, sizeOf, typeInfo, hI.out.1, hmin]
      rw [htk, hst]
      rw [hlen]
      simp [Result.andThen]
    unfold Oper.wp
    simp [execOp, ho, resolve, invoke, builtin, hd, hx, hrun, Result.andThen]
    refine hK _ _ (K _ ?_ ?_)
    · have hcl : cur.size = cap := by omega
      have hzl : zs.length = n := by simpa using h1
      refine ⟨by rw [List.length_map, List.length_append, numsOf_length, List.length_drop]; omega, .inr ⟨g, cap, _, rfl, hbg, setRow_heap w g cur _ e _ hg, hnc, hcm, ?_, ?_⟩⟩
      · simp [numsOf_length]; omega
      · rw [List.map_append]
        show List.take (n * 1) ((numsOf s).map (Value.int .u8) ++ cur.toList.drop s.size) = _
        rw [List.take_append, hlen, List.take_of_length_le (by rw [hlen]; omega), List.map_drop, ← htake]
        rw [List.drop_take]
    · exact (Below.refl _ _).trans ⟨rfl, rfl, rfl, by simp [World.setRow], fun k hk => setRow_other w g k _ (by omega)⟩

/-- 'append(s, x...)' where x has no byte -/
theorem run_append_empty {P : Program} (w : World) (base : Nat) (t ty e : TypeId) (i : TypeInfo) (size : Nat) (ht : P.underlying t = some (.slice e)) (hi : P.info? e = some i)
    (v : Value) (n : Nat) (xs : List Value) (hown : w.ownsRow base e size v n xs) (a : Option Addr) (c : Nat) :
    (Builtin.append_ #[t, t] ty #[v, .slice a 0 c]).run P w = .ok v w := by
  have hl : ∀ x : Addr, (loadCells x 0).run P w = .ok #[] w := fun x => by simp [loadCells, loadCellsFrom]
  rcases hown.2 with ⟨rfl, rfl⟩ | ⟨g, cap, cur, rfl, _, _, hnc, _⟩
  · cases a <;> simp [Builtin.append_, run_underlying ht, sizeOf, typeInfo, hi, Builtin.lenOf, Builtin.firstCells, hl]
  · cases a <;> simp [Builtin.append_, run_underlying ht, sizeOf, typeInfo, hi, Builtin.lenOf, Builtin.firstCells, hnc, storeCells, hl]

/-- 'append(s, x...)' on bytes of the call's own, x anywhere -/
theorem wpList_append_in {P : Program} {w : World} {ops : Array Oper} {rest : List Oper} {o : Oper} {a : Act} {Q : Exit → Act → World → Prop} (hgd : o.guard = none) (s x : Operand) (t : TypeId)
    (ho : o.op = .call { callee := .builtin .append, args := #[s, x], argTypes := #[t, t] })
    (base : Nat) (e : TypeId) (i0 : TypeInfo) (hT : P.underlying t = some (.slice e)) (hI : Hid (P.info? e = some i0 ∧ i0.zero = some (.int .u8 0) ∧ i0.size = 1 ∧ i0.bytes = 1))
    (v : Value) (n : Nat) (zs : List Int) (hs : a.eval s = v) (hown : w.ownsRow base e 1 v n (zs.map (.int .u8)))
    (b : Option Addr) (m c : Nat) (ys : List Int) (hx : a.eval x = .slice b m c) (hy : BytesIn w b ys) (hl : ys.length = m) (h47 : n + m ≤ 140737488355328) (hbase : base ≤ w.heap.size)
    (K : ∀ v' w', w'.ownsRow base e 1 v' (n + m) ((zs ++ ys).map (.int .u8)) → Below base w w' → wpList P ops Q rest (a.put o.dst v') w') : wpList P ops Q (o :: rest) a w := by
  rcases hy with hy | ⟨b', off, rfl, _, hy⟩
  · subst hy
    obtain rfl : m = 0 := hl.symm
    refine wpList_plain hgd fun K' hK => ?_
    have hrun := run_append_empty (P := P) w base t o.type e i0 1 hT hI.out.1 v n _ hown b c
    unfold Oper.wp
    simp [execOp, ho, resolve, invoke, builtin, hs, hx, hrun, Result.andThen]
    exact hK _ _ (K _ _ (by simpa using hown) (Below.refl _ _))
  · exact wpList_append_u8 hgd s x t ho base e i0 hT hI v n zs hs hown b' off m c ys hx hy hl h47 hbase K

theorem zeroCells_u8 (m : Nat) : (Builtin.zeroCells (Value.int .u8 0).cells m).toList = (List.replicate m (0 : Int)).map (.int .u8) := by
  apply List.ext_getElem?
  intro i
  by_cases h : i < m <;> simp [Builtin.zeroCells, Value.cells, h, Nat.mod_one]

/-- 'append(s, make([]byte, m)...)' on bytes of the call's own -/
theorem run_append_zeros {P : Program} (w : World) (base : Nat) (t xT ty e : TypeId) (k : IntKind) (i : TypeInfo) (ht : P.underlying t = some (.slice e)) (hx : P.underlying xT = some (.int k))
    (hi : P.info? e = some i) (hz : i.zero = some (.int .u8 0)) (hsz : i.size = 1) (hby : i.bytes = 1)
    (v : Value) (n : Nat) (zs : List Int) (hown : w.ownsRow base e 1 v n (zs.map (.int .u8))) (m : Nat) (h47 : n + m ≤ 140737488355328) (hbase : base ≤ w.heap.size) (kx : IntKind) :
    ∃ v' w', (Builtin.append_ #[t, xT] ty #[v, .int kx m]).run P w = .ok v' w' ∧ w'.ownsRow base e 1 v' (n + m) ((zs ++ List.replicate m 0).map (.int .u8)) ∧ Below base w w' := by
  have hwr : IntKind.i64.wrap (m : Int) = m := by rw [IntWalk.i64_left]; unfold wrap64; omega
  have hzn : zs.length = n := by simpa using hown.1
  have h48 : ¬ ((281474976710656 : Int) < (m : Int)) := by omega
  have hm0 : ¬ ((m : Int) < 0) := by omega
  have h63 : ¬ (9223372036854775807 < ((n : Int) + (m : Int))) := by omega
  have grown : ∀ (old : Nat), old < n + m →
      (w.drew.alloc (.cells ((zs.map (Value.int .u8)).toArray ++ Builtin.zeroCells (Value.int .u8 0).cells m ++ Builtin.zeroCells (Value.int .u8 0).cells (grownCap w (n + m) old e - (n + m))) e)).ownsRow base e 1
        (.slice (some ⟨w.heap.size, 0, none⟩) (n + m) (grownCap w (n + m) old e)) (n + m) ((zs ++ List.replicate m 0).map (.int .u8)) := by
    intro old ho
    have hge := grownCap_ge w (n + m) old e
    have hcm : grownCap w (n + m) old e ≤ maxLen := grownCap_le_maxLen w (n + m) old e (by unfold maxLen; omega)
    refine ⟨by simp [hzn], .inr ⟨w.heap.size, _, _, rfl, hbase, heap_alloc_new w.drew _, hge, hcm, ?_, ?_⟩⟩
    · simp [size_zeroCells, Value.cells, hzn]; omega
    · rw [Array.toList_append, Array.toList_append, zeroCells_u8]
      rw [List.take_left' (by simp [hzn])]
      simp
  have hb2 : ∀ ob, Below base w (w.drew.alloc ob) := fun ob => (Below.refl _ _).drew.alloc hbase ob
  rcases hown.2 with ⟨rfl, rfl⟩ | ⟨g, cap, cur, rfl, hbg, hg, hnc, hcm, hcs, htake⟩
  · obtain rfl : zs = [] := List.eq_nil_of_length_eq_zero hzn
    by_cases hm : m = 0
    · subst hm
      refine ⟨.slice none 0 0, w, ?_, by simpa using hown, Below.refl _ _⟩
      have hwr0 : IntKind.i64.wrap 0 = 0 := hwr
      simp [Builtin.append_, run_underlying ht, run_underlying hx, sizeOf, typeInfo, hi, hby, hwr0, asInt, asIntOf]
    · refine ⟨_, _, ?_, grown 0 (by omega), hb2 _⟩
      have h48' : ¬ (281474976710656 < Builtin.nextslicecap m 0) := by rw [nextslicecap_zero (by omega)]; omega
      have h63' : ¬ (9223372036854775807 < (m : Int)) := by omega
      simp [Builtin.append_, run_underlying ht, run_underlying hx, sizeOf, typeInfo, zeroValue, hi, hsz, hby, hz, hwr, hm, hm0, h48, h48', h63', Question.forced, run_firstCells_none, newRow, grownCap, asInt, asIntOf]
  · have hzc := zeroCells_u8 m
    by_cases hroom : n + m ≤ cap
    · have hst := run_storeCells_at P g n e ((List.replicate m (0 : Int)).map (Value.int .u8)) 0 cur w hg (by simp; omega) (one_map _ _)
      refine ⟨.slice (some ⟨g, 0, none⟩) (n + m) cap, w.setRow g (cur.toList.take n ++ (List.replicate m (0 : Int)).map (Value.int .u8) ++ cur.toList.drop (n + m)).toArray, ?_, ?_, ?_⟩
      · simp only [Nat.add_zero, List.length_map, List.length_replicate] at hst
        by_cases hm : m = 0
        · subst hm
          have hwr0 : IntKind.i64.wrap 0 = 0 := hwr
          simp only [List.replicate_zero, List.map_nil, Nat.add_zero] at hst
          simp [Builtin.append_, run_underlying ht, run_underlying hx, sizeOf, typeInfo, hi, hsz, hby, hwr0, hnc, asInt, asIntOf, Addr.add_lit, hst]
        · simp [Builtin.append_, run_underlying ht, run_underlying hx, sizeOf, typeInfo, zeroValue, hi, hsz, hby, hz, hwr, hm, hm0, h48, hroom, asInt, asIntOf, Addr.add_lit]
          rw [hzc, hst]
          simp [Result.andThen]
      · refine ⟨by simp [hzn], .inr ⟨g, cap, _, rfl, hbg, setRow_heap w g cur _ e _ hg, hroom, hcm, ?_, ?_⟩⟩
        · simp; omega
        · rw [Nat.mul_one] at htake ⊢
          rw [htake]
          show List.take (n + m) (zs.map (Value.int .u8) ++ (List.replicate m (0 : Int)).map (Value.int .u8) ++ cur.toList.drop (n + m)) = _
          rw [List.take_left' (by simp [hzn]), List.map_append]
      · exact (Below.refl _ _).trans ⟨rfl, rfl, rfl, by simp [World.setRow], fun k hk => setRow_other w g k _ (by omega)⟩
    · have hfo := run_firstCells_some (P := P) w.drew 1 n ⟨g, 0, none⟩ n cap (zs.map (Value.int .u8)) (by simp [hzn]) (by simpa using hown.cells (g := g) rfl)
      refine ⟨_, _, ?_, grown cap (by omega), hb2 _⟩
      have hmp : ¬ m = 0 := by omega
      have h48' : ¬ (281474976710656 < Builtin.nextslicecap (n + m) cap) := by
        have := growslice_fits (need := n + m) (old := cap) (bytes := 1) (by omega) (by omega)
        omega
      have h63' : ¬ (9223372036854775807 < (n : Int) + (m : Int)) := h63
      simp [Builtin.append_, run_underlying ht, run_underlying hx, sizeOf, typeInfo, zeroValue, hi, hsz, hby, hz, hwr, hmp, hm0, h48, h48', h63', hroom, Question.forced, hfo, newRow, grownCap, asInt, asIntOf]

theorem wpList_append_zeros {P : Program} {w : World} {ops : Array Oper} {rest : List Oper} {o : Oper} {a : Act} {Q : Exit → Act → World → Prop} (hgd : o.guard = none) (s x : Operand) (t xT : TypeId)
    (ho : o.op = .call { callee := .builtin .append, args := #[s, x], argTypes := #[t, xT] })
    (base : Nat) (e : TypeId) (k : IntKind) (i0 : TypeInfo) (hT : P.underlying t = some (.slice e)) (hX : P.underlying xT = some (.int k)) (hI : Hid (P.info? e = some i0 ∧ i0.zero = some (.int .u8 0) ∧ i0.size = 1 ∧ i0.bytes = 1))
    (v : Value) (n : Nat) (zs : List Int) (hs : a.eval s = v) (hown : w.ownsRow base e 1 v n (zs.map (.int .u8)))
    (kx : IntKind) (x0 : Int) (m : Nat) (hx : a.eval x = .int kx x0) (hm : x0 = m) (h47 : n + m ≤ 140737488355328) (hbase : base ≤ w.heap.size)
    (K : ∀ v' w', w'.ownsRow base e 1 v' (n + m) ((zs ++ List.replicate m 0).map (.int .u8)) → Below base w w' → wpList P ops Q rest (a.put o.dst v') w') : wpList P ops Q (o :: rest) a w := by
  subst hm
  obtain ⟨v', w', hrun, h1, h2⟩ := run_append_zeros (P := P) w base t xT o.type e k i0 hT hX hI.out.1 hI.out.2.1 hI.out.2.2.1 hI.out.2.2.2 v n zs hown m h47 hbase kx
  refine wpList_plain hgd fun K' hK => ?_
  unfold Oper.wp
  simp [execOp, ho, resolve, invoke, builtin, hs, hx, hrun, Result.andThen]
  exact hK _ _ (K _ _ h1 h2)

end Go.Proofs.YthcbiohmghaobaaDoor
/-
  Strings as numbers: small laws. Nothing of the program.
-/
namespace Go.Proofs.YthcbiohmghaobaaDoor
open Go.RowKit

theorem wrapP {z : Int} (h1 : 0 ≤ z) (h2 : z ≤ 9223372036854775807) : IntKind.i64.wrap z = z := by
  have hb : IntKind.i64.bits = 64 := rfl
  have hs : IntKind.i64.signed = true := rfl
  unfold IntKind.wrap
  simp only [hb, hs, Bool.true_and]
  have e : (2 : Int) ^ 64 = 18446744073709551616 := by decide
  have e' : (2 : Int) ^ (64 - 1) = 9223372036854775808 := by decide
  rw [e, e', Int.emod_eq_of_lt h1 (by omega), if_neg (by simp; omega)]
theorem bytes_neq {s t : ByteArray} (h : ¬ s = t) : (s.toList == t.toList) = false := by
  rw [beq_eq_false_iff_ne]
  exact fun e => h (by
    apply ByteArray.ext
    apply Array.ext'
    rw [ByteArray.toList_eq, ByteArray.toList_eq] at e
    exact e)
theorem empty_no {s : ByteArray} (h : ¬ s = { data := #[] }) : s.toList.isEmpty = false := by
  have h1 := bytes_neq h
  have e : ({ data := #[] } : ByteArray).toList = [] := by rw [ByteArray.toList_eq]
  rw [e] at h1
  cases hl : s.toList with
  | nil => rw [hl] at h1; simp at h1
  | cons x xs => rfl
theorem nums_cat (s t : ByteArray) : numsOf (s ++ t) = numsOf s ++ numsOf t := by
  unfold numsOf
  rw [ByteArray.data_append, Array.toList_append, List.map_append]
theorem num_at (s : ByteArray) (j : Nat) (h : j < s.size) : (numsOf s).getD j 0 = (s[j].toNat : Int) := by
  have h1 : (numsOf s)[j]? = some (s[j].toNat : Int) := by
    unfold numsOf
    rw [List.getElem?_map, Array.getElem?_toList, Array.getElem?_eq_getElem (by exact h)]
    rfl
  rw [List.getD_eq_getElem?_getD, h1]; rfl

theorem nums_ext (s : ByteArray) (a b : Nat) : numsOf (s.extract a b) = ((numsOf s).drop a).take (b - a) := by
  unfold numsOf
  rw [ByteArray.data_extract, Array.toList_extract, List.extract_eq_take_drop, List.map_take, List.map_drop]
theorem ext_str (s : ByteArray) (a b : Nat) : s.extract a b = strOfNums (((numsOf s).drop a).take (b - a)) := by
  rw [← nums_ext, strOfNums_numsOf]

theorem nums_inj {s t : ByteArray} (h : numsOf s = numsOf t) : s = t := by rw [← strOfNums_numsOf s, ← strOfNums_numsOf t, h]
theorem idx_byte (s : ByteArray) (c : UInt8) : 0 ≤ Lib.indexByte s.data.toList c ↔ (c.toNat : Int) ∈ numsOf s := by
  constructor
  · intro h
    obtain ⟨o, ho⟩ : ∃ o : Nat, Lib.indexByte s.data.toList c = o := ⟨(Lib.indexByte s.data.toList c).toNat, by omega⟩
    have h1 := (Lib.indexByte_some ho).1
    rw [numsOf_eq, List.mem_map]
    exact ⟨c, List.mem_of_getElem? h1, rfl⟩
  · intro h
    rw [numsOf_eq, List.mem_map] at h
    obtain ⟨b, hb, h0⟩ := h
    obtain rfl : b = c := by
      apply UInt8.toNat_inj.1
      omega
    rcases Int.lt_or_le (Lib.indexByte s.data.toList b) 0 with h | h
    · exfalso
      have h1 := Lib.indexByte_ge s.data.toList b
      obtain ⟨k, hk⟩ := List.getElem?_of_mem hb
      exact Lib.indexByte_none (c := b) (by omega) k hk
    · exact h

/-- the first place of a byte, as the search answers -/
theorem idx_first (s : ByteArray) (c : UInt8) : (((c.toNat : Int) ∉ numsOf s) → Lib.indexByte s.data.toList c = -1) ∧
    ((c.toNat : Int) ∈ numsOf s → Lib.indexByte s.data.toList c = (((numsOf s).takeWhile (fun z => z != (c.toNat : Int))).length : Int)) := by
  rw [numsOf_eq]
  generalize s.data.toList = l
  induction l with
  | nil => exact ⟨fun _ => rfl, fun h => by simp at h⟩
  | cons b l ih =>
    by_cases hb : b = c
    · subst hb
      refine ⟨fun h => absurd (List.mem_cons_self ..) h, fun _ => ?_⟩
      simp [Lib.indexByte]
    · have hb' : ¬ ((b.toNat : Int) = (c.toNat : Int)) := fun e => hb (by apply UInt8.toNat_inj.1; omega)
      have hbb : (b == c) = false := by simpa using hb
      have hge := Lib.indexByte_ge l c
      constructor
      · intro h
        rw [List.map_cons, List.mem_cons, not_or] at h
        unfold Lib.indexByte
        rw [hbb, ih.1 h.2]; rfl
      · intro h
        rw [List.map_cons, List.mem_cons] at h
        have h2 := h.resolve_left (fun e => hb' e.symm)
        have e := ih.2 h2
        unfold Lib.indexByte
        rw [hbb, List.map_cons, List.takeWhile_cons]
        have e1 : ((b.toNat : Int) != (c.toNat : Int)) = true := by simpa using hb'
        rw [e1, e]
        have e2 : (((List.takeWhile (fun z => z != (c.toNat : Int)) (List.map (fun b : UInt8 => (b.toNat : Int)) l)).length : Int) == -1) = false := by
          rw [beq_eq_false_iff_ne]; omega
        rw [e2]
        simp
end Go.Proofs.YthcbiohmghaobaaDoor
/-
  Layer 9: plain mathematics of records: Check, the encoding, one record off the front.
-/
namespace Go.Proofs.YthcbiohmghaobaaDoor.Pxr
open Go.Lib Go.RowKit

/-- a record: key, value -/
abbrev Rec := ByteArray × ByteArray
abbrev kLink : ByteArray := { data := #[108, 105, 110, 107, 112, 97, 116, 104] }
abbrev kPath : ByteArray := { data := #[112, 97, 116, 104] }
abbrev kSize : ByteArray := { data := #[115, 105, 122, 101] }

/-- the value of linkpath and path -/
def chkT (v : ByteArray) : Int := if 65536 < v.size then 7 else if v.size = 0 ∨ (0 : Int) ∈ numsOf v then 6 else 0
/-- the value of size -/
def chkS (v : ByteArray) : Int := if decOk (numsOf v) = false then 6 else if 1099511627776 < decV (numsOf v) then 3 else 0
def chk (r : Rec) : Int := if r.1 = kLink ∨ r.1 = kPath then chkT r.2 else if r.1 = kSize then chkS r.2 else 17
def keyLe (a b : ByteArray) : Bool := Op.bytesLess a.toList b.toList || a.toList == b.toList
/-- the key is not greater than that of the last of them -/
def prevLe (before : List Rec) (k : ByteArray) : Bool := match before.getLast? with
  | none => false
  | some q => keyLe k q.1
def chkN (before : List Rec) (r : Rec) : Int := if chk r ≠ 0 then chk r else if prevLe before r.1 = true then 12 else 0
def fmE : List Rec → List Rec → Int
  | _, [] => 0
  | before, r :: rs => if chkN before r ≠ 0 then chkN before r else fmE (before ++ [r]) rs
theorem fmE_cons (before : List Rec) (r : Rec) (rs : List Rec) : fmE before (r :: rs) = if chkN before r ≠ 0 then chkN before r else fmE (before ++ [r]) rs := rfl
def oth (r : Rec) : Nat := r.1.size + r.2.size + 3
def szR (r : Rec) : Nat := szN (oth r)
def enR (r : Rec) : List Int := decD (szR r) ++ [32] ++ numsOf r.1 ++ [61] ++ numsOf r.2 ++ [10]
def fmB (rs : List Rec) : List Int := (rs.map enR).flatten

theorem fmB_nil : fmB [] = [] := rfl
theorem fmB_snoc (rs : List Rec) (r : Rec) : fmB (rs ++ [r]) = fmB rs ++ enR r := by unfold fmB; simp
theorem fmB_cons (r : Rec) (rs : List Rec) : fmB (r :: rs) = enR r ++ fmB rs := by unfold fmB; simp
theorem fmB_append (a b : List Rec) : fmB (a ++ b) = fmB a ++ fmB b := by unfold fmB; simp

/-! what a good record is -/
structure Good (r : Rec) : Prop where
  key : r.1.size ≤ 8
  val : r.2.size ≤ 65536
  eq : (61 : Int) ∉ numsOf r.1
  idx : r.1 = kLink ∨ r.1 = kPath ∨ r.1 = kSize
theorem dec_len13 {zs : List Int} (h : decOk zs = true) (hv : decV zs ≤ 1099511627776) : zs.length ≤ 13 := by
  rw [← decD_decV zs h, decD_len]
  refine nDigits_le 12 _ ?_
  have : (10 : Nat) ^ (12 + 1) = 10000000000000 := by decide
  omega
theorem good_of {r : Rec} (h : chk r = 0) : Good r := by
  obtain ⟨k, v⟩ := r
  unfold chk at h
  dsimp only at h
  by_cases h1 : k = kLink ∨ k = kPath
  · rw [if_pos h1] at h
    unfold chkT at h
    have hv : v.size ≤ 65536 := by
      by_cases hv : 65536 < v.size
      · rw [if_pos hv] at h; omega
      · omega
    rcases h1 with rfl | rfl
    · exact ⟨(by decide : kLink.size ≤ 8), hv, (by decide : (61 : Int) ∉ numsOf kLink), .inl rfl⟩
    · exact ⟨(by decide : kPath.size ≤ 8), hv, (by decide : (61 : Int) ∉ numsOf kPath), .inr (.inl rfl)⟩
  · rw [if_neg h1] at h
    by_cases h2 : k = kSize
    · rw [if_pos h2] at h
      subst h2
      unfold chkS at h
      by_cases h3 : decOk (numsOf v) = false
      · rw [if_pos h3] at h; omega
      · rw [if_neg h3] at h
        by_cases h4 : 1099511627776 < decV (numsOf v)
        · rw [if_pos h4] at h; omega
        · have := dec_len13 (by simpa using h3) (by omega : decV (numsOf v) ≤ 1099511627776)
          rw [numsOf_length] at this
          exact ⟨(by decide : kSize.size ≤ 8), by show v.size ≤ 65536; omega, (by decide : (61 : Int) ∉ numsOf kSize), .inr (.inr rfl)⟩
    · rw [if_neg h2] at h; omega

theorem Good.oth {r : Rec} (h : Good r) : oth r ≤ 65547 := by have := h.key; have := h.val; unfold Pxr.oth; omega
theorem Good.sz {r : Rec} (h : Good r) : szR r ≤ 65555 := by
  have := szN_bd (rest := Pxr.oth r) (by have := h.oth; omega); have := h.oth; unfold szR; omega

theorem enR_len {r : Rec} (h : oth r ≤ 1000000) : (enR r).length = szR r := by
  unfold enR
  have := szN_fix h
  have e : nDigits (szR r) + oth r = szR r := this
  simp only [List.length_append, List.length_singleton, decD_len, numsOf_length]
  unfold oth at e
  omega

/-! the keys' order -/
theorem chkN_good {b : List Rec} {r : Rec} (h : chkN b r = 0) : chk r = 0 ∧ prevLe b r.1 = false := by
  unfold chkN at h
  by_cases h1 : chk r ≠ 0
  · rw [if_pos h1] at h; exact absurd h h1
  · rw [if_neg h1] at h
    refine ⟨by simpa using h1, ?_⟩
    by_cases h2 : prevLe b r.1 = true
    · rw [if_pos h2] at h; omega
    · simpa using h2
def kix (k : ByteArray) : Nat := if k = kLink then 0 else if k = kPath then 1 else if k = kSize then 2 else 3
theorem keyLe_ix {a b : ByteArray} (ha : a = kLink ∨ a = kPath ∨ a = kSize) (hb : b = kLink ∨ b = kPath ∨ b = kSize) : keyLe a b = decide (kix a ≤ kix b) := by
  have l1 : kLink.toList = [108, 105, 110, 107, 112, 97, 116, 104] := by rw [ByteArray.toList_eq]
  have l2 : kPath.toList = [112, 97, 116, 104] := by rw [ByteArray.toList_eq]
  have l3 : kSize.toList = [115, 105, 122, 101] := by rw [ByteArray.toList_eq]
  rcases ha with rfl | rfl | rfl <;> rcases hb with rfl | rfl | rfl <;> unfold keyLe <;> simp only [l1, l2, l3] <;> decide
/-- a chain of good records: at most as many as keys are left -/
theorem fmE_len : ∀ (rs before : List Rec), fmE before rs = 0 → (∀ q, before.getLast? = some q → Good q) → rs.length ≤ 3 - (match before.getLast? with | none => 0 | some q => kix q.1 + 1)
  | [], _, _, _ => Nat.zero_le _
  | r :: rs, before, h, hb => by
    unfold fmE at h
    by_cases h1 : chkN before r ≠ 0
    · rw [if_pos h1] at h; exact absurd h h1
    · rw [if_neg h1] at h
      obtain ⟨g1, g2⟩ := chkN_good (by simpa using h1)
      have G := good_of g1
      have ih := fmE_len rs (before ++ [r]) h (fun q hq => by
        rw [List.getLast?_append, List.getLast?_singleton, Option.some_or] at hq; cases hq; exact G)
      rw [List.getLast?_append, List.getLast?_singleton, Option.some_or] at ih
      dsimp only at ih
      rw [List.length_cons]
      have k2 : kix r.1 ≤ 2 := by
        rcases G.idx with e | e | e <;> rw [e] <;> decide
      unfold prevLe at g2
      cases hl : before.getLast? with
      | none => dsimp only; omega
      | some q =>
        rw [hl] at g2
        dsimp only at g2 ⊢
        rw [keyLe_ix G.idx (hb q hl).idx, decide_eq_false_iff_not] at g2
        omega
theorem fmE_three {rs : List Rec} (h : fmE [] rs = 0) : rs.length ≤ 3 := fmE_len rs [] h (fun _ h => by cases h)
theorem fmE_good : ∀ (rs before : List Rec), fmE before rs = 0 → ∀ r ∈ rs, Good r ∧ chk r = 0
  | [], _, _, r, hr => by cases hr
  | a :: rs, before, h, r, hr => by
    unfold fmE at h
    by_cases h1 : chkN before a ≠ 0
    · rw [if_pos h1] at h; exact absurd h h1
    · rw [if_neg h1] at h
      obtain ⟨g1, g2⟩ := chkN_good (by simpa using h1)
      rcases List.mem_cons.1 hr with rfl | hr
      · exact ⟨good_of g1, g1⟩
      · exact fmE_good rs _ h r hr
theorem fmE_app : ∀ (a b before : List Rec), fmE before (a ++ b) = 0 ↔ fmE before a = 0 ∧ fmE (before ++ a) b = 0
  | [], b, before => by rw [List.append_nil, List.nil_append]; exact ⟨fun h => ⟨rfl, h⟩, fun h => h.2⟩
  | r :: a, b, before => by
    rw [List.cons_append, fmE_cons, fmE_cons]
    by_cases h1 : chkN before r ≠ 0
    · rw [if_pos h1, if_pos h1]; exact ⟨fun h => absurd h h1, fun h => absurd h.1 h1⟩
    · rw [if_neg h1, if_neg h1, fmE_app a b (before ++ [r]), List.append_assoc, List.singleton_append]
theorem fmB_le {rs : List Rec} (h : fmE [] rs = 0) (k : Nat) : (fmB (rs.take k)).length ≤ 65555 * 3 := by
  have h3 := fmE_three h
  have key : ∀ l : List Rec, (∀ r ∈ l, Good r) → (fmB l).length ≤ 65555 * l.length := by
    intro l
    induction l with
    | nil => intro _; rw [fmB_nil]; exact Nat.zero_le _
    | cons a l ih =>
      intro hl
      rw [fmB_cons, List.length_append, List.length_cons]
      have := ih (fun r hr => hl r (List.mem_cons_of_mem _ hr))
      have hG := hl a (List.mem_cons_self ..)
      rw [enR_len (by have := hG.oth; omega)]
      have := hG.sz
      omega
  have := key (rs.take k) (fun r hr => (fmE_good rs [] h r (List.mem_of_mem_take hr)).1)
  rw [List.length_take] at this
  have : min k rs.length ≤ 3 := by omega
  omega
end Go.Proofs.YthcbiohmghaobaaDoor.Pxr
/-
  Layer 8: the reference's Join; strings as numbers.
-/
namespace Go.Proofs.YthcbiohmghaobaaDoor.Pnm
open Go.RowKit

theorem wrapP {z : Int} (h1 : 0 ≤ z) (h2 : z ≤ 9223372036854775807) : IntKind.i64.wrap z = z := by
  have hb : IntKind.i64.bits = 64 := rfl
  have hs : IntKind.i64.signed = true := rfl
  unfold IntKind.wrap
  simp only [hb, hs, Bool.true_and]
  have e : (2 : Int) ^ 64 = 18446744073709551616 := by decide
  have e' : (2 : Int) ^ (64 - 1) = 9223372036854775808 := by decide
  rw [e, e', Int.emod_eq_of_lt h1 (by omega), if_neg (by simp; omega)]
theorem bytes_neq {s t : ByteArray} (h : ¬ s = t) : (s.toList == t.toList) = false := by
  rw [beq_eq_false_iff_ne]
  exact fun e => h (by
    apply ByteArray.ext
    apply Array.ext'
    rw [ByteArray.toList_eq, ByteArray.toList_eq] at e
    exact e)
theorem empty_no {s : ByteArray} (h : ¬ s = { data := #[] }) : s.toList.isEmpty = false := by
  have h1 := bytes_neq h
  have e : ({ data := #[] } : ByteArray).toList = [] := by rw [ByteArray.toList_eq]
  rw [e] at h1
  cases hl : s.toList with
  | nil => rw [hl] at h1; simp at h1
  | cons x xs => rfl
theorem nums_cat (s t : ByteArray) : numsOf (s ++ t) = numsOf s ++ numsOf t := by
  unfold numsOf
  rw [ByteArray.data_append, Array.toList_append, List.map_append]
theorem num_at (s : ByteArray) (j : Nat) (h : j < s.size) : (numsOf s).getD j 0 = (s[j].toNat : Int) := by
  have h1 : (numsOf s)[j]? = some (s[j].toNat : Int) := by
    unfold numsOf
    rw [List.getElem?_map, Array.getElem?_toList, Array.getElem?_eq_getElem (by exact h)]
    rfl
  rw [List.getD_eq_getElem?_getD, h1]; rfl

theorem nums_ext (s : ByteArray) (a b : Nat) : numsOf (s.extract a b) = ((numsOf s).drop a).take (b - a) := by
  unfold numsOf
  rw [ByteArray.data_extract, Array.toList_extract, List.extract_eq_take_drop, List.map_take, List.map_drop]
theorem ext_str (s : ByteArray) (a b : Nat) : s.extract a b = strOfNums (((numsOf s).drop a).take (b - a)) := by
  rw [← nums_ext, strOfNums_numsOf]

end Go.Proofs.YthcbiohmghaobaaDoor.Pnm
