/-
  A slice of bytes of the call's own, whatever made it ('[]byte(s)' too): what it holds; append onto it.
-/
import Derived.Test.YtbgmhdhfcckbbaaDoorGenB
import Derived.Laws.IdiomCopy
import Derived.Laws.IdiomStrings
namespace Go.Proofs.YtbgmhdhfcckbbaaDoor
open Go.RowKit

/-- v holds the bytes zs; its row lies above base and can be written up to its capacity -/
def Buf (w : World) (base : Nat) (v : Value) (zs : List Int) : Prop :=
  ∃ b cap, v = .slice (some ⟨b, 0, none⟩) zs.length cap ∧ base ≤ b ∧ b < w.heap.size ∧ zs.length ≤ cap ∧ cap ≤ maxLen ∧ RowAt w b 0 zs ∧
    ∀ i, i < cap → (w.cell? ⟨b, i, none⟩).isSome = true ∧ w.frozen? ⟨b, i, none⟩ = false

theorem Buf.bytes {w : World} {base : Nat} {v : Value} {zs : List Int} (h : Buf w base v zs) : ∃ b cap, v = .slice (some ⟨b, 0, none⟩) zs.length cap ∧ RowAt w b 0 zs ∧ b < w.heap.size := by
  obtain ⟨b, cap, h1, _, h3, _, _, h6, _⟩ := h
  exact ⟨b, cap, h1, h6, h3⟩

theorem Buf.alloc {w : World} {base : Nat} {v : Value} {zs : List Int} (h : Buf w base v zs) (o : Obj) : Buf (w.alloc o) base v zs := by
  obtain ⟨b, cap, h1, h2, h3, h4, h5, h6, h7⟩ := h
  have hb : Below (b + 1) w (w.alloc o) := (Below.refl _ _).alloc (by omega) o
  refine ⟨b, cap, h1, h2, Nat.lt_of_lt_of_le h3 hb.size, h4, h5, h6.below hb (Nat.lt_succ_self _), fun i hi => ?_⟩
  rw [World.cell?_of_block (w := w) (w' := w.alloc o) (a := ⟨b, i, none⟩) (hb.block b (Nat.lt_succ_self _)), World.frozen?_of_block (w := w) (w' := w.alloc o) (a := ⟨b, i, none⟩) (hb.block b (Nat.lt_succ_self _))]
  exact h7 i hi

/-- '[]byte(s)' -/
theorem run_bytes_buf {P : Program} (w : World) {src e dst : TypeId} (hs : P.underlying src = some .string) (hd : P.underlying dst = some (.slice e)) (he : P.underlying e = some (.int .u8)) (s : ByteArray) (hm : s.size ≤ maxLen) :
    ∃ v w', (convert src dst (.string s)).run P w = .ok v w' ∧ Buf w' w.heap.size v (numsOf s) ∧ Below w.heap.size w w' := by
  have hrun := run_bytes_of_string (P := P) w src dst e s hs hd he
  have hge := grownCap_ge w s.size 0 e
  have hcm := grownCap_le_maxLen w s.size 0 e hm
  have hbs : (bytesRow s (grownCap w s.size 0 e)).size = grownCap w s.size 0 e := by
    have h0 : s.data.size = s.size := rfl
    simp [bytesRow, h0]; omega
  refine ⟨_, _, hrun, ⟨w.heap.size, grownCap w s.size 0 e, by rw [numsOf_length], Nat.le_refl _, by simp, by rw [numsOf_length]; exact hge, hcm, ⟨fun i hi => ?_, numsOf_bd s⟩, fun i hi => ⟨?_, ?_⟩⟩, (Below.refl _ _).drew.alloc (Nat.le_refl _) _⟩
  · have hi' : i < s.data.size := by rw [numsOf_length] at hi; exact hi
    have := World.cell?_alloc_mark w.drew (bytesRow s (grownCap w s.size 0 e)) e ((bytesRow s (grownCap w s.size 0 e)).size, (bytesRow s (grownCap w s.size 0 e)).size + 1) i
    rw [Nat.zero_add]
    refine Eq.trans this ?_
    rw [bytesRow_at s _ i hi']
    have e : s.data[i]? = some s.data[i] := Array.getElem?_eq_getElem hi'
    simp [numsOf, List.getD_eq_getElem?_getD, e]
  · have := World.cell?_alloc_mark w.drew (bytesRow s (grownCap w s.size 0 e)) e ((bytesRow s (grownCap w s.size 0 e)).size, (bytesRow s (grownCap w s.size 0 e)).size + 1) i
    refine Eq.trans (congrArg Option.isSome this) ?_
    simp [hbs, hi]
  · refine Eq.trans (World.frozen?_alloc_mark w.drew _ e _ _ i) ?_
    simp [hbs]; omega

theorem RowAt.append {w : World} {b : Nat} {zs ys : List Int} (h : RowAt w b 0 zs) (hy : ∀ j, j < ys.length → w.cell? ⟨b, zs.length + j, none⟩ = some (.int .u8 (ys.getD j 0))) (hb : ∀ z ∈ ys, 0 ≤ z ∧ z ≤ 255) : RowAt w b 0 (zs ++ ys) := by
  refine ⟨fun i hi => ?_, fun z hz => (List.mem_append.1 hz).elim (h.2 z) (hb z)⟩
  rw [Nat.zero_add, List.getD_eq_getElem?_getD, List.getElem?_append]
  rw [List.length_append] at hi
  split
  · rename_i hlt
    have := h.1 i hlt
    rwa [Nat.zero_add, List.getD_eq_getElem?_getD] at this
  · rename_i hlt
    have := hy (i - zs.length) (by omega)
    rwa [show zs.length + (i - zs.length) = i by omega, List.getD_eq_getElem?_getD] at this

theorem below_setCells {B b : Nat} {a : World} (hb : B ≤ b) : ∀ (vs : List Value) (o : Nat) (w : World), Below B a w → Below B a (w.setCells b o vs)
  | [], _, _, h => h
  | v :: r, o, w, h => below_setCells hb r (o + 1) _ (h.setCell (by exact hb) v)

theorem heapSize_setCells (b : Nat) : ∀ (vs : List Value) (o : Nat) (w : World), (w.setCells b o vs).heap.size = w.heap.size
  | [], _, _ => rfl
  | v :: r, o, w => by rw [World.setCells, heapSize_setCells b r]; simp [World.setCell]

/-- 'append(s, x...)' -/
theorem run_append_buf {P : Program} (w : World) (base : Nat) (t ty e : TypeId) (i : TypeInfo) (ht : P.underlying t = some (.slice e)) (hi : P.info? e = some i) (hz : i.zero = some (.int .u8 0)) (hsz : i.size = 1) (hby : i.bytes = 1)
    (v : Value) (zs : List Int) (hv : Buf w base v zs) (a : Option Addr) (m c : Nat) (ys : List Int) (hy : BytesIn w a ys) (hl : ys.length = m) (h47 : zs.length + m ≤ 140737488355328) (hbase : base ≤ w.heap.size) :
    ∃ v' w', (Builtin.append_ #[t, t] ty #[v, .slice a m c]).run P w = .ok v' w' ∧ Buf w' base v' (zs ++ ys) ∧ Below base w w' := by
  obtain ⟨b, cap, rfl, hbb, hbs, hlc, hcm, hrow, hcells⟩ := hv
  rcases hy with hy | ⟨b', off, rfl, _, hy⟩
  · subst hy
    obtain rfl : m = 0 := hl.symm
    refine ⟨.slice (some ⟨b, 0, none⟩) zs.length cap, w, ?_, ⟨b, cap, by simp, hbb, hbs, by simpa using hlc, hcm, by simpa using hrow, hcells⟩, Below.refl _ _⟩
    have hll : ∀ x : Addr, (loadCells x 0).run P w = .ok #[] w := fun x => by simp [loadCells, loadCellsFrom]
    cases a <;> simp [Builtin.append_, run_underlying ht, sizeOf, typeInfo, hi, Builtin.lenOf, Builtin.firstCells, hlc, storeCells, hll]
  · have hnews := hy.news
    have hyl : (ys.map (Value.int .u8)).length = m * i.size := by rw [List.length_map, hl, hsz, Nat.mul_one]
    by_cases hroom : zs.length + m ≤ cap
    · have hst := run_storeCells_cells (P := P) b zs.length (ys.map (Value.int .u8)) 0 w (by
        intro j hj
        rw [List.length_map] at hj
        exact (hcells _ (by omega)).1) (by
        intro j hj
        rw [List.length_map] at hj
        exact (hcells _ (by omega)).2) (one_map _ _)
      have hf := run_firstCells_some (P := P) w i.size m ⟨b', off, none⟩ m c (ys.map (Value.int .u8)) hyl hnews
      refine ⟨.slice (some ⟨b, 0, none⟩) (zs.length + m) cap, w.setCells b zs.length (ys.map (Value.int .u8)), ?_, ⟨b, cap, by rw [List.length_append, hl], hbb, by rw [heapSize_setCells]; exact hbs, by rw [List.length_append]; omega, hcm, ?_, fun k hk => ⟨?_, ?_⟩⟩, below_setCells hbb _ _ _ (Below.refl _ _)⟩
      · rw [Nat.add_zero] at hst
        rw [hsz] at hf
        simp [Builtin.append_, run_underlying ht, sizeOf, typeInfo, hi, hsz, Builtin.lenOf, hroom, hf, Addr.add_lit, hst, Result.andThen]
      · refine RowAt.append ⟨fun k hk => ?_, hrow.2⟩ (fun j hj => ?_) hy.2
        · rw [World.cell?_setCells_out b _ _ _ _ (fun _ _ => .inl (by simpa using hk))]
          exact hrow.1 k hk
        · have := World.cell?_setCells_in b (ys.map (Value.int .u8)) zs.length w (fun k hk => by
            rw [List.length_map] at hk
            exact (hcells _ (by omega)).1) j (by rw [List.length_map]; exact hj)
          rw [this, List.getElem_map, List.getD_eq_getElem?_getD, List.getElem?_eq_getElem hj]
          rfl
      · by_cases hin : zs.length ≤ k ∧ k < zs.length + m
        · have := World.cell?_setCells_in b (ys.map (Value.int .u8)) zs.length w (fun k hk => by
            rw [List.length_map] at hk
            exact (hcells _ (by omega)).1) (k - zs.length) (by rw [List.length_map]; omega)
          rw [show zs.length + (k - zs.length) = k by omega] at this
          rw [this]; rfl
        · rw [World.cell?_setCells_out b _ _ _ _ (fun _ _ => by rw [List.length_map]; show k < zs.length ∨ _ ≤ k; omega)]
          exact (hcells k hk).1
      · rw [World.frozen?_setCells]; exact (hcells k hk).2
    · have hgr := run_append_grow (P := P) w t ty e i (.int .u8 0) ht hi hz ⟨b, 0, none⟩ zs.length cap (zs.map (Value.int .u8)) (by rw [List.length_map, hsz, Nat.mul_one]) hrow.news ⟨b', off, none⟩ m c (ys.map (Value.int .u8)) hyl hnews (by omega) (by omega)
        (by rw [hby]; exact growslice_fits (need := zs.length + m) (old := cap) (by omega) (by omega))
      have hge := grownCap_ge w (zs.length + m) cap e
      have hcm' := grownCap_le_maxLen w (zs.length + m) cap e (by unfold maxLen; omega)
      refine ⟨_, _, hgr, ⟨w.heap.size, grownCap w (zs.length + m) cap e, by rw [List.length_append, hl], hbase, by simp, by rw [List.length_append, hl]; exact hge, hcm', ⟨fun k hk => ?_, fun z hz => (List.mem_append.1 hz).elim (hrow.2 z) (hy.2 z)⟩, fun k hk => ⟨?_, ?_⟩⟩, (Below.refl _ _).drew.alloc hbase _⟩
      · rw [Nat.zero_add, World.cell?_alloc_at (w := w.drew) _ _ w.heap.size k rfl, Array.getElem?_append_left (by simpa using hk), List.append_toArray, List.getElem?_toArray, ← List.map_append, List.getElem?_map, List.getElem?_eq_getElem hk, List.getD_eq_getElem?_getD, List.getElem?_eq_getElem hk]
        rfl
      · rw [World.cell?_alloc_at (w := w.drew) _ _ w.heap.size k rfl, Array.getElem?_eq_getElem (by simp [size_zeroCells, Value.cells]; omega)]
        rfl
      · exact World.frozen?_alloc_at (w := w.drew) _ _ _ _ rfl

theorem wpList_append_buf {P : Program} {w : World} {ops : Array Oper} {rest : List Oper} {o : Oper} {a : Act} {Q : Exit → Act → World → Prop} (hgd : o.guard = none) (s x : Operand) (t : TypeId)
    (ho : o.op = .call { callee := .builtin .append, args := #[s, x], argTypes := #[t, t] })
    (base : Nat) (e : TypeId) (i0 : TypeInfo) (hT : P.underlying t = some (.slice e)) (hI : Hid (P.info? e = some i0 ∧ i0.zero = some (.int .u8 0) ∧ i0.size = 1 ∧ i0.bytes = 1))
    (v : Value) (zs : List Int) (hs : a.eval s = v) (hown : Buf w base v zs)
    (b : Option Addr) (m c : Nat) (ys : List Int) (hx : a.eval x = .slice b m c) (hy : BytesIn w b ys) (hl : ys.length = m) (h47 : zs.length + m ≤ 140737488355328) (hbase : base ≤ w.heap.size)
    (K : ∀ v' w', Buf w' base v' (zs ++ ys) → Below base w w' → wpList P ops Q rest (a.put o.dst v') w') : wpList P ops Q (o :: rest) a w := by
  obtain ⟨v', w', hrun, h1, h2⟩ := run_append_buf (P := P) w base t o.type e i0 hT hI.out.1 hI.out.2.1 hI.out.2.2.1 hI.out.2.2.2 v zs hown b m c ys hy hl h47 hbase
  refine wpList_plain hgd fun K' hK => ?_
  unfold Oper.wp
  simp [execOp, ho, resolve, invoke, builtin, hs, hx, hrun, Result.andThen]
  exact hK _ _ (K _ _ h1 h2)

end Go.Proofs.YtbgmhdhfcckbbaaDoor
