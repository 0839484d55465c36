/-
  Small things that every text of ours uses; nothing of the program.
-/
import Derived.WalkKit
import Derived.WalkSpells
import Derived.WalkLawsBesides
import Derived.Lib.Hide
import Derived.Deep.DeepMust
import Derived.OpenShut
namespace Go.Proofs.Ytjokgiheabmolaa
open Go.RowKit

/-- a value under a name of its own -/
theorem named {α : Sort _} (x : α) : ∃ y, Hid (y = x) := ⟨x, Eq.refl x⟩

/-- the bytes zs lie at block b from off on -/
def RowAt (w : World) (b off : Nat) (zs : List Int) : Prop :=
  (∀ i, i < zs.length → w.cell? ⟨b, off + i, none⟩ = some (.int .u8 (zs.getD i 0))) ∧ ∀ z ∈ zs, 0 ≤ z ∧ z ≤ 255

theorem RowAt.get {w : World} {b off : Nat} {zs : List Int} (h : RowAt w b off zs) (i : Nat) (hi : i < zs.length) :
    ∃ d : Int, d = zs.getD i 0 ∧ 0 ≤ d ∧ d ≤ 255 ∧ w.cell? ⟨b, off + i, none⟩ = some (.int .u8 d) :=
  ⟨_, rfl, (h.2 _ (by rw [List.getD_eq_getElem?_getD, List.getElem?_eq_getElem hi]; exact List.getElem_mem hi)).1,
    (h.2 _ (by rw [List.getD_eq_getElem?_getD, List.getElem?_eq_getElem hi]; exact List.getElem_mem hi)).2, h.1 i hi⟩

theorem RowAt.get0 {w : World} {b : Nat} {zs : List Int} (h : RowAt w b 0 zs) (i : Nat) (hi : i < zs.length) :
    ∃ d : Int, d = zs.getD i 0 ∧ 0 ≤ d ∧ d ≤ 255 ∧ w.cell? ⟨b, i, none⟩ = some (.int .u8 d) := by
  have := h.get i hi
  rwa [Nat.zero_add] at this

/-- what lies below B still lies there -/
theorem RowAt.below {w w' : World} {B b off : Nat} {zs : List Int} (h : RowAt w b off zs) (hb : Below B w w') (hB : b < B) : RowAt w' b off zs :=
  ⟨fun i hi => (hb.cell (p := ⟨b, off + i, none⟩) hB).trans (h.1 i hi), h.2⟩

theorem RowAt.of_own {w : World} {base g n cap : Nat} {e : TypeId} {zs : List Int} (h : w.ownsRow base e 1 (.slice (some ⟨g, 0, none⟩) n cap) n (zs.map (.int .u8)))
    (hz : ∀ z ∈ zs, 0 ≤ z ∧ z ≤ 255) : RowAt w g 0 zs := by
  refine ⟨fun i hi => ?_, hz⟩
  have hl := h.1
  rw [List.length_map] at hl
  rw [Nat.zero_add, h.cellAt i (by omega), List.getElem?_map, List.getElem?_eq_getElem hi, List.getD_eq_getElem?_getD, List.getElem?_eq_getElem hi]
  rfl

theorem own_below {w w' : World} {base B g n cap : Nat} {e : TypeId} {xs : List Value} (h : w.ownsRow base e 1 (.slice (some ⟨g, 0, none⟩) n cap) n xs) (hb : Below B w w') (hg : g < B) :
    w'.ownsRow base e 1 (.slice (some ⟨g, 0, none⟩) n cap) n xs := by
  obtain ⟨h1, h2⟩ := h
  refine ⟨h1, ?_⟩
  rcases h2 with h2 | ⟨g', cap', cur, hv, hb', hh, r⟩
  · exact Or.inl h2
  · simp only [Value.slice.injEq, Option.some.injEq, Addr.mk.injEq, and_true, true_and] at hv
    obtain ⟨rfl, rfl⟩ := hv
    exact Or.inr ⟨g, cap, cur, rfl, hb', by rw [hb.block g hg]; exact hh, r⟩

theorem own_lt {w : World} {base g n cap : Nat} {e : TypeId} {xs : List Value} (h : w.ownsRow base e 1 (.slice (some ⟨g, 0, none⟩) n cap) n xs) : base ≤ g ∧ g < w.heap.size := by
  rcases h.2 with ⟨h', _⟩ | ⟨g', cap', cur, hv, hb', hh, r⟩
  · simp at h'
  · simp only [Value.slice.injEq, Option.some.injEq, Addr.mk.injEq, and_true, true_and] at hv
    obtain ⟨rfl, rfl⟩ := hv
    refine ⟨hb', ?_⟩
    rcases Nat.lt_or_ge g w.heap.size with h | h
    · exact h
    · rw [Array.getElem?_eq_none h] at hh; cases hh

/-- 'string(b)' of bytes that lie there -/
theorem run_str_of {P : Program} {w : World} {src e dst : TypeId} (hs : P.underlying src = some (.slice e)) (he : P.underlying e = some (.int .u8)) (hd : P.underlying dst = some .string)
    {b off : Nat} {zs : List Int} (h : RowAt w b off zs) (n cap : Nat) (hn : zs.length = n) :
    (convert src dst (.slice (some ⟨b, off, none⟩) n cap)).run P w = .ok (.string (strOfNums zs)) w := by
  exact run_convert_bytes_arg w src e hs he b off n cap zs hn (fun i hi => h.1 i (by omega)) dst hd

/-- the bytes of a string as numbers -/
def numsOf (s : ByteArray) : List Int := s.data.toList.map fun b => (b.toNat : Int)
theorem numsOf_length (s : ByteArray) : (numsOf s).length = s.size := by unfold numsOf; rw [List.length_map, Array.length_toList]; rfl
theorem numsOf_bd (s : ByteArray) : ∀ z ∈ numsOf s, 0 ≤ z ∧ z ≤ 255 := by
  intro z hz
  obtain ⟨b, _, rfl⟩ := List.mem_map.1 hz
  have := b.toNat_lt
  omega
theorem numsOf_strOfNums {zs : List Int} (h : ∀ z ∈ zs, 0 ≤ z ∧ z ≤ 255) : numsOf (strOfNums zs) = zs := by
  unfold numsOf
  rw [strOfNums_data, List.map_map]
  conv => rhs; rw [← List.map_id zs]
  refine List.map_congr_left fun z hz => ?_
  have := h z hz
  show ((UInt8.ofNat z.toNat).toNat : Int) = z
  rw [UInt8.toNat_ofNat']
  omega

/-- '[]byte(s)': the bytes lie in a new block; nothing that was there has turned -/
theorem run_bytes_of {P : Program} (w : World) {src e dst : TypeId} (hs : P.underlying src = some .string) (hd : P.underlying dst = some (.slice e)) (he : P.underlying e = some (.int .u8)) (s : ByteArray) :
    ∃ c w', (convert src dst (.string s)).run P w = .ok (.slice (some ⟨w.heap.size, 0, none⟩) s.size c) w' ∧ RowAt w' w.heap.size 0 (numsOf s) ∧ Below w.heap.size w w' ∧ w.heap.size < w'.heap.size := by
  refine ⟨_, _, run_bytes_of_string w src dst e s hs hd he, ⟨fun i hi => ?_, numsOf_bd s⟩, (Below.refl _ _).drew.alloc (Nat.le_refl _) _, by simp⟩
  have hi' : i < s.data.size := by rw [numsOf_length] at hi; exact hi
  have := World.cell?_alloc_mark w.drew (bytesRow s (grownCap w s.size 0 e)) e ((bytesRow s (grownCap w s.size 0 e)).size, (bytesRow s (grownCap w s.size 0 e)).size + 1) i
  rw [Nat.zero_add]
  refine Eq.trans this ?_
  rw [bytesRow_at s _ i hi']
  have e : s.data[i]? = some s.data[i] := Array.getElem?_eq_getElem hi'
  simp [numsOf, List.getD_eq_getElem?_getD, e]

/-- the call returned the bytes zs (n of them) and the number r; nothing that was there in w has turned -/
def RetBytes (zs : List Int) (n : Nat) (r : Int) (w : World) (e : Ending) (w' : World) : Prop :=
  ∃ b c, e = .returned (.tuple #[.slice (some ⟨b, 0, none⟩) n c, .int .i64 r]) ∧ RowAt w' b 0 zs ∧ b < w'.heap.size ∧ Below w.heap.size w w'

/-- WHAT A WALK IS TOLD OF A SLICE OF INTEGERS THAT CAME IN: zs: its elements; it has none, or they lie in a block that was there -/
def ArgInts (k : IntKind) (w : World) (a : Option Addr) (len cap : Nat) (zs : List Int) : Prop :=
  zs.length = len ∧ len ≤ cap ∧ cap ≤ maxLen ∧ (∀ z ∈ zs, (Lit.int k z).wf = true) ∧
  (len = 0 ∨ ∃ b off, a = some ⟨b, off, none⟩ ∧ b < w.heap.size ∧ ∀ i, i < zs.length → w.cell? ⟨b, off + i, none⟩ = some (.int k (zs.getD i 0)))

theorem ArgInts.nil {k : IntKind} {w : World} : ArgInts k w none 0 0 [] :=
  ⟨rfl, Nat.le_refl _, by unfold maxLen; omega, fun _ h => by simp at h, .inl rfl⟩

theorem ArgInts.mk' {k : IntKind} {w : World} {x : Addr} {len cap : Nat} {zs : List Int} (hl : len ≤ cap) (hm : cap ≤ maxLen) (hz : zs.length = cap)
    (hc : ∀ i, i < zs.length → w.cell? (x.add i) = some (.int k (zs.getD i 0))) (hw : ∀ n ∈ zs, (Lit.int k n).wf = true) : ArgInts k w (some x) len cap (zs.take len) := by
  refine ⟨by rw [List.length_take]; omega, hl, hm, fun z h => hw z (List.mem_of_mem_take h), ?_⟩
  rcases Nat.eq_zero_or_pos len with h | h
  · exact .inl h
  · obtain ⟨b, off, rfl, hc'⟩ := ints_at hc (by omega)
    refine .inr ⟨b, off, rfl, ?_, fun i hi => ?_⟩
    · have h0 := hc' 0 (by omega)
      rcases Nat.lt_or_ge b w.heap.size with h | h
      · exact h
      · rw [World.cell?] at h0
        simp [Array.getElem?_eq_none h] at h0
    · rw [List.length_take] at hi
      rw [hc' i (by omega)]
      congr 2
      rw [List.getD_eq_getElem?_getD, List.getD_eq_getElem?_getD, List.getElem?_take, if_pos (by omega)]

/-- the bytes of a slice that came in -/
theorem ArgInts.row {w : World} {a : Option Addr} {len cap : Nat} {zs : List Int} (h : ArgInts .u8 w a len cap zs) (hp : 0 < len) :
    ∃ b off, a = some ⟨b, off, none⟩ ∧ b < w.heap.size ∧ RowAt w b off zs := by
  obtain ⟨_, _, _, h4, h5⟩ := h
  rcases h5 with h5 | ⟨b, off, h5, h6, h7⟩
  · omega
  · exact ⟨b, off, h5, h6, h7, fun z hz => bounds_u8 (h4 z hz)⟩

/-- the bytes zs are what the slice at a holds (a slice of no bytes may lie anywhere) -/
def BytesIn (w : World) (a : Option Addr) (zs : List Int) : Prop :=
  zs = [] ∨ ∃ b off, a = some ⟨b, off, none⟩ ∧ b < w.heap.size ∧ RowAt w b off zs

theorem ArgInts.bytes {w : World} {a : Option Addr} {len cap : Nat} {zs : List Int} (h : ArgInts .u8 w a len cap zs) : BytesIn w a zs := by
  rcases Nat.eq_zero_or_pos len with h0 | h0
  · exact .inl (List.length_eq_zero_iff.1 (h.1.trans h0))
  · exact .inr (h.row h0)

theorem BytesIn.below {w w' : World} {a : Option Addr} {zs : List Int} (h : BytesIn w a zs) (hb : Below w.heap.size w w') : BytesIn w' a zs := by
  rcases h with h | ⟨b, off, h1, h2, h3⟩
  · exact .inl h
  · exact .inr ⟨b, off, h1, Nat.lt_of_lt_of_le h2 hb.size, h3.below hb h2⟩

theorem BytesIn.of_row {w : World} {b : Nat} {zs : List Int} (h : RowAt w b 0 zs) (hb : b < w.heap.size) : BytesIn w (some ⟨b, 0, none⟩) zs := .inr ⟨b, 0, rfl, hb, h⟩

theorem BytesIn.of_own {w : World} {base g n cap : Nat} {e : TypeId} {zs : List Int} (h : w.ownsRow base e 1 (.slice (some ⟨g, 0, none⟩) n cap) n (zs.map (.int .u8)))
    (hz : ∀ z ∈ zs, 0 ≤ z ∧ z ≤ 255) : BytesIn w (some ⟨g, 0, none⟩) zs := .of_row (.of_own h hz) (own_lt h).2

/-- 'string(b)' of bytes that lie anywhere -/
theorem run_str_in {P : Program} {w : World} {src e dst : TypeId} (hs : P.underlying src = some (.slice e)) (he : P.underlying e = some (.int .u8)) (hd : P.underlying dst = some .string)
    {a : Option Addr} {zs : List Int} (h : BytesIn w a zs) (n cap : Nat) (hn : zs.length = n) :
    (convert src dst (.slice a n cap)).run P w = .ok (.string (strOfNums zs)) w := by
  rcases h with h | ⟨b, off, h1, _, h3⟩
  · subst h
    obtain rfl : n = 0 := hn.symm
    cases a with
    | none => exact run_convert_bytes_nil w src e hs he 0 cap dst hd
    | some x =>
      rw [run_convert_bytes_string w src dst e _ _ _ hs he hd]
      exact run_bytesToString w x 0 cap [] (by simpa using run_loadCells_list (P := P) w x [] (fun j v hj => by simp at hj))
  · rw [h1]
    exact run_str_of hs he hd h3 n cap hn

theorem own_shape {w : World} {base n : Nat} {e : TypeId} {v : Value} {xs : List Value} (h : w.ownsRow base e 1 v n xs) (hn : 0 < n) : ∃ g cap, v = .slice (some ⟨g, 0, none⟩) n cap ∧ base ≤ g := by
  rcases h.2 with ⟨_, h'⟩ | ⟨g', cap', cur, hv, hb', _⟩
  · omega
  · exact ⟨g', cap', hv, hb'⟩

theorem add_plain' (b off j : Nat) : (⟨b, off, none⟩ : Addr).add j = ⟨b, off + j, none⟩ := Go.WideShapes.add_plain _ _ _

/-- the cells of bytes, as an append asks them -/
theorem RowAt.news {w : World} {b off : Nat} {zs : List Int} (h : RowAt w b off zs) : ∀ j u, (zs.map (Value.int .u8))[j]? = some u → w.cell? ((⟨b, off, none⟩ : Addr).add j) = some u := by
  intro j u hj
  have hl : j < zs.length := by
    rcases Nat.lt_or_ge j zs.length with h | h
    · exact h
    · rw [List.getElem?_eq_none (by simpa using h)] at hj; cases hj
  rw [add_plain', h.1 j hl]
  rw [List.getElem?_map, List.getElem?_eq_getElem hl] at hj
  rw [List.getD_eq_getElem?_getD, List.getElem?_eq_getElem hl]
  exact hj

theorem one_map (k : IntKind) (zs : List Int) : ∀ u ∈ zs.map (Value.int k), u.oneCell' = true := by
  intro u hu
  obtain ⟨z, _, rfl⟩ := List.mem_map.1 hu
  rfl

theorem own_block {w : World} {base n : Nat} {e : TypeId} {v : Value} {xs : List Value} (h : w.ownsRow base e 1 v n xs) : ∀ k, v.ownBlock = some k → base ≤ k := by
  intro k hk
  rcases h.2 with ⟨h', _⟩ | ⟨g', cap', cur, hv, hb', _⟩
  · rw [h'] at hk; cases hk
  · rw [hv] at hk
    obtain rfl : g' = k := by simpa [Value.ownBlock] using hk
    exact hb'

/-- 'append(s, x...)' on bytes of the call's own: what is owned behind it; nothing below base has turned -/
theorem wpList_append_u8 {P : Program} {w : World} {ops : Array Oper} {rest : List Oper} {o : Oper} {a : Act} {Q : Exit → Act → World → Prop} (hgd : o.guard = none) (s x : Operand) (t : TypeId)
    (ho : o.op = .call { callee := .builtin .append, args := #[s, x], argTypes := #[t, t] })
    (base : Nat) (e : TypeId) (i0 : TypeInfo) (hT : P.underlying t = some (.slice e)) (hI : Hid (P.info? e = some i0 ∧ i0.zero = some (.int .u8 0) ∧ i0.size = 1 ∧ i0.bytes = 1))
    (v : Value) (n : Nat) (zs : List Int) (hs : a.eval s = v) (hown : w.ownsRow base e 1 v n (zs.map (.int .u8)))
    (b off m c : Nat) (ys : List Int) (hx : a.eval x = .slice (some ⟨b, off, none⟩) m c) (hy : RowAt w b off ys) (hl : ys.length = m) (h47 : n + m ≤ 140737488355328) (hbase : base ≤ w.heap.size)
    (K : ∀ v' w', w'.ownsRow base e 1 v' (n + m) ((zs ++ ys).map (.int .u8)) → Below base w w' → wpList P ops Q rest (a.put o.dst v') w') : wpList P ops Q (o :: rest) a w := by
  refine wpList_append_own _ hgd s x t ho base e i0 (.int .u8 0) 1 1 hT hI.out.1 hI.out.2.1 hI.out.2.2.1 hI.out.2.2.2 rfl (by decide) v n _ hs hown ⟨b, off, none⟩ m c (ys.map (.int .u8)) hx (by rw [List.length_map, hl, Nat.mul_one]) hy.news (one_map _ _) (by unfold maxLen; omega) (by omega) hbase ?_
  intro v' w' h1 h2 _
  exact K v' w' (by rw [List.map_append]; exact h1) ((Below.refl _ _).grown h2 hbase (own_block hown))

end Go.Proofs.Ytjokgiheabmolaa
