/-
  Small things, more: copy of a string, append of nothing, append of zeros, the index of a byte; nothing of the program.
-/
import Derived.Test.YtjokgiheabmolaaGen
import Derived.Lib.IndexLaws
import Derived.Lib.BytesEntry
import Derived.Laws.OwnMore
namespace Go.Proofs.Ytjokgiheabmolaa
open Go.RowKit

/-- as RetBytes; the slice's capacity besides -/
def RetB (zs : List Int) (n : Nat) (r : Int) (w : World) (e : Ending) (w' : World) : Prop :=
  ∃ b c, e = .returned (.tuple #[.slice (some ⟨b, 0, none⟩) n c, .int .i64 r]) ∧ RowAt w' b 0 zs ∧ b < w'.heap.size ∧ Below w.heap.size w w' ∧ n ≤ c ∧ c ≤ maxLen
theorem RetB.ret {zs : List Int} {n : Nat} {r : Int} {w w' : World} {e : Ending} (h : RetB zs n r w e w') : RetBytes zs n r w e w' := by
  obtain ⟨b, c, h1, h2, h3, h4, _⟩ := h
  exact ⟨b, c, h1, h2, h3, h4⟩

theorem BytesIn.new_one (w : World) (d : Int) (t : TypeId) (h0 : 0 ≤ d) (h1 : d ≤ 255) : BytesIn (w.alloc (.cells #[.int .u8 d] t)) (some ⟨w.heap.size, 0, none⟩) [d] :=
  .of_row ⟨fun i hi => by obtain rfl : i = 0 := by simpa using hi
                          rw [World.cell?_alloc_at _ _ _ _ rfl]; rfl, fun z hz => by obtain rfl : z = _ := by simpa using hz
                                                                                     exact ⟨h0, h1⟩⟩ (by simp)

theorem numsOf_eq (s : ByteArray) : numsOf s = s.data.toList.map fun b => (b.toNat : Int) := rfl

theorem strOfNums_numsOf (s : ByteArray) : strOfNums (numsOf s) = s := by
  apply ByteArray.ext
  apply Array.ext'
  rw [strOfNums_data, numsOf_eq, List.map_map]
  conv => rhs; rw [← List.map_id s.data.toList]
  exact List.map_congr_left fun b _ => by
    show UInt8.ofNat ((b.toNat : Int)).toNat = b
    simp

/-- 'a zero byte is among them', as the search answers -/
theorem idx_str (s : ByteArray) : 0 ≤ Lib.indexByte s.data.toList 0 ↔ (0 : Int) ∈ numsOf s := by
  constructor
  · intro h
    obtain ⟨o, ho⟩ : ∃ o : Nat, Lib.indexByte s.data.toList 0 = o := ⟨(Lib.indexByte s.data.toList 0).toNat, by omega⟩
    have h1 := (Lib.indexByte_some ho).1
    rw [numsOf_eq, List.mem_map]
    exact ⟨0, List.mem_of_getElem? h1, rfl⟩
  · intro h
    rw [numsOf_eq, List.mem_map] at h
    obtain ⟨b, hb, h0⟩ := h
    obtain rfl : b = 0 := by
      apply UInt8.toNat_inj.1
      have : b.toNat = 0 := by omega
      simpa using this
    rcases Int.lt_or_le (Lib.indexByte s.data.toList 0) 0 with h | h
    · exfalso
      have h1 := Lib.indexByte_ge s.data.toList 0
      obtain ⟨k, hk⟩ := List.getElem?_of_mem hb
      exact Lib.indexByte_none (c := 0) (by omega) k hk
    · exact h

theorem idx_bytes (zs : List Int) (hz : ∀ z ∈ zs, 0 ≤ z ∧ z ≤ 255) : 0 ≤ Lib.indexByte (Lib.bytesOf zs) 0 ↔ (0 : Int) ∈ zs := by
  have e : Lib.bytesOf zs = (strOfNums zs).data.toList := by rw [strOfNums_data]; rfl
  rw [e, idx_str, numsOf_strOfNums hz]

theorem run_indexByteIn {P : Program} {w : World} {a : Option Addr} {zs : List Int} (h : BytesIn w a zs) (n c : Nat) (hn : zs.length = n) (cv : Int) :
    (Extern.BytealgIndexByte.indexByte #[.slice a n c, .int .u8 cv]).run P w = .ok (.int .i64 (Lib.indexByte (Lib.bytesOf zs) cv.toNat.toUInt8)) w := by
  rcases h with h | ⟨b, off, rfl, _, h⟩
  · subst h
    obtain rfl : n = 0 := hn.symm
    cases a with
    | none => exact Lib.run_indexByteNil w 0 c cv
    | some x => exact Lib.run_indexByteString (P := P) .empty cv w
  · exact Lib.run_indexByteSlice w b off n c zs hn (fun i hi => h.1 i (by omega)) cv

theorem info_u8 {P : Program} {e : TypeId} (h : (P.info? e).map (fun i => (i.zero, i.size, i.bytes)) = some (some (.int .u8 0), 1, 1)) :
    ∃ i0, Hid (P.info? e = some i0 ∧ i0.zero = some (.int .u8 0) ∧ i0.size = 1 ∧ i0.bytes = 1) := by
  cases hq : P.info? e with
  | none => simp [hq] at h
  | some i => simp [hq] at h; exact ⟨i, rfl, h.1, h.2.1, h.2.2⟩

/-- 'copy(dst, s)' into a row of the call's own, from its head: the string's bytes, then what stood behind them -/
theorem wpList_copy_string {P : Program} {w : World} {ops : Array Oper} {rest : List Oper} {o : Oper} {a : Act} {Q : Exit → Act → World → Prop} (hgd : o.guard = none) (d x : Operand) (dT sT : TypeId)
    (ho : o.op = .call { callee := .builtin .copy, args := #[d, x], argTypes := #[dT, sT] })
    (base : Nat) (e : TypeId) (i0 : TypeInfo) (hT : P.underlying dT = some (.slice e)) (hI : Hid (P.info? e = some i0 ∧ i0.zero = some (.int .u8 0) ∧ i0.size = 1 ∧ i0.bytes = 1))
    (g n cap : Nat) (zs : List Int) (hd : a.eval d = .slice (some ⟨g, 0, none⟩) n cap) (hown : w.ownsRow base e 1 (.slice (some ⟨g, 0, none⟩) n cap) n (zs.map (.int .u8)))
    (s : ByteArray) (hx : a.eval x = .string s) (hl : s.size ≤ n)
    (K : ∀ w', w'.ownsRow base e 1 (.slice (some ⟨g, 0, none⟩) n cap) n ((numsOf s ++ zs.drop s.size).map (.int .u8)) → Below base w w' → wpList P ops Q rest (a.put o.dst (goInt s.size)) w') : wpList P ops Q (o :: rest) a w := by
  refine wpList_plain hgd fun K' hK => ?_
  have hrow := hown
  obtain ⟨h1, h2⟩ := hown
  rcases h2 with ⟨h2, _⟩ | ⟨g', cap', cur, hv, hbg, hg, hnc, hcm, hcs, htake⟩
  · simp at h2
  · simp only [Value.slice.injEq, Option.some.injEq, Addr.mk.injEq, and_true, true_and] at hv
    obtain ⟨rfl, rfl⟩ := hv
    have hlen : ((numsOf s).map (Value.int .u8)).length = s.size := by rw [List.length_map, numsOf_length]
    have hst := run_storeCells_at P g 0 e ((numsOf s).map (Value.int .u8)) 0 cur w hg (by rw [hlen]; omega) (one_map _ _)
    have hmin : Nat.min s.size n = s.size := Nat.min_eq_left hl
    have htk : List.take s.size (List.map (fun b : UInt8 => Value.int IntKind.u8 (b.toNat : Int)) s.data.toList) = (numsOf s).map (Value.int .u8) := by
      rw [List.take_of_length_le (by rw [List.length_map]; exact Nat.le_refl _), numsOf_eq, List.map_map]
      rfl
    have hrun : (Builtin.copy_ #[dT, sT] o.type #[.slice (some ⟨g, 0, none⟩) n cap, .string s]).run P w = .ok (goInt s.size) (w.setRow g ((numsOf s).map (Value.int .u8) ++ cur.toList.drop s.size).toArray) := by
      simp [Builtin.copy_, run_underlying hT, Builtin.lenOf, Builtin.firstCells, sizeOf, typeInfo, hI.out.1, hmin]
      rw [htk, hst]
      rw [hlen]
      simp [Result.andThen]
    unfold Oper.wp
    simp [execOp, ho, resolve, invoke, builtin, hd, hx, hrun, Result.andThen]
    refine hK _ _ (K _ ?_ ?_)
    · have hcl : cur.size = cap := by omega
      have hzl : zs.length = n := by simpa using h1
      refine ⟨by rw [List.length_map, List.length_append, numsOf_length, List.length_drop]; omega, .inr ⟨g, cap, _, rfl, hbg, setRow_heap w g cur _ e _ hg, hnc, hcm, ?_, ?_⟩⟩
      · simp [numsOf_length]; omega
      · rw [List.map_append]
        show List.take (n * 1) ((numsOf s).map (Value.int .u8) ++ cur.toList.drop s.size) = _
        rw [List.take_append, hlen, List.take_of_length_le (by rw [hlen]; omega), List.map_drop, ← htake]
        rw [List.drop_take]
    · exact (Below.refl _ _).trans ⟨rfl, rfl, rfl, by simp [World.setRow], fun k hk => setRow_other w g k _ (by omega)⟩

/-- 'append(s, x...)' where x has no byte -/
theorem run_append_empty {P : Program} (w : World) (base : Nat) (t ty e : TypeId) (i : TypeInfo) (size : Nat) (ht : P.underlying t = some (.slice e)) (hi : P.info? e = some i)
    (v : Value) (n : Nat) (xs : List Value) (hown : w.ownsRow base e size v n xs) (a : Option Addr) (c : Nat) :
    (Builtin.append_ #[t, t] ty #[v, .slice a 0 c]).run P w = .ok v w := by
  have hl : ∀ x : Addr, (loadCells x 0).run P w = .ok #[] w := fun x => by simp [loadCells, loadCellsFrom]
  rcases hown.2 with ⟨rfl, rfl⟩ | ⟨g, cap, cur, rfl, _, _, hnc, _⟩
  · cases a <;> simp [Builtin.append_, run_underlying ht, sizeOf, typeInfo, hi, Builtin.lenOf, Builtin.firstCells, hl]
  · cases a <;> simp [Builtin.append_, run_underlying ht, sizeOf, typeInfo, hi, Builtin.lenOf, Builtin.firstCells, hnc, storeCells, hl]

/-- 'append(s, x...)' on bytes of the call's own, x anywhere -/
theorem wpList_append_in {P : Program} {w : World} {ops : Array Oper} {rest : List Oper} {o : Oper} {a : Act} {Q : Exit → Act → World → Prop} (hgd : o.guard = none) (s x : Operand) (t : TypeId)
    (ho : o.op = .call { callee := .builtin .append, args := #[s, x], argTypes := #[t, t] })
    (base : Nat) (e : TypeId) (i0 : TypeInfo) (hT : P.underlying t = some (.slice e)) (hI : Hid (P.info? e = some i0 ∧ i0.zero = some (.int .u8 0) ∧ i0.size = 1 ∧ i0.bytes = 1))
    (v : Value) (n : Nat) (zs : List Int) (hs : a.eval s = v) (hown : w.ownsRow base e 1 v n (zs.map (.int .u8)))
    (b : Option Addr) (m c : Nat) (ys : List Int) (hx : a.eval x = .slice b m c) (hy : BytesIn w b ys) (hl : ys.length = m) (h47 : n + m ≤ 140737488355328) (hbase : base ≤ w.heap.size)
    (K : ∀ v' w', w'.ownsRow base e 1 v' (n + m) ((zs ++ ys).map (.int .u8)) → Below base w w' → wpList P ops Q rest (a.put o.dst v') w') : wpList P ops Q (o :: rest) a w := by
  rcases hy with hy | ⟨b', off, rfl, _, hy⟩
  · subst hy
    obtain rfl : m = 0 := hl.symm
    refine wpList_plain hgd fun K' hK => ?_
    have hrun := run_append_empty (P := P) w base t o.type e i0 1 hT hI.out.1 v n _ hown b c
    unfold Oper.wp
    simp [execOp, ho, resolve, invoke, builtin, hs, hx, hrun, Result.andThen]
    exact hK _ _ (K _ _ (by simpa using hown) (Below.refl _ _))
  · exact wpList_append_u8 hgd s x t ho base e i0 hT hI v n zs hs hown b' off m c ys hx hy hl h47 hbase K

theorem zeroCells_u8 (m : Nat) : (Builtin.zeroCells (Value.int .u8 0).cells m).toList = (List.replicate m (0 : Int)).map (.int .u8) := by
  apply List.ext_getElem?
  intro i
  by_cases h : i < m <;> simp [Builtin.zeroCells, Value.cells, h, Nat.mod_one]

/-- 'append(s, make([]byte, m)...)' on bytes of the call's own -/
theorem run_append_zeros {P : Program} (w : World) (base : Nat) (t xT ty e : TypeId) (k : IntKind) (i : TypeInfo) (ht : P.underlying t = some (.slice e)) (hx : P.underlying xT = some (.int k))
    (hi : P.info? e = some i) (hz : i.zero = some (.int .u8 0)) (hsz : i.size = 1) (hby : i.bytes = 1)
    (v : Value) (n : Nat) (zs : List Int) (hown : w.ownsRow base e 1 v n (zs.map (.int .u8))) (m : Nat) (h47 : n + m ≤ 140737488355328) (hbase : base ≤ w.heap.size) (kx : IntKind) :
    ∃ v' w', (Builtin.append_ #[t, xT] ty #[v, .int kx m]).run P w = .ok v' w' ∧ w'.ownsRow base e 1 v' (n + m) ((zs ++ List.replicate m 0).map (.int .u8)) ∧ Below base w w' := by
  have hwr : IntKind.i64.wrap (m : Int) = m := by rw [IntWalk.i64_left]; unfold wrap64; omega
  have hzn : zs.length = n := by simpa using hown.1
  have h48 : ¬ ((281474976710656 : Int) < (m : Int)) := by omega
  have hm0 : ¬ ((m : Int) < 0) := by omega
  have h63 : ¬ (9223372036854775807 < ((n : Int) + (m : Int))) := by omega
  have grown : ∀ (old : Nat), old < n + m →
      (w.drew.alloc (.cells ((zs.map (Value.int .u8)).toArray ++ Builtin.zeroCells (Value.int .u8 0).cells m ++ Builtin.zeroCells (Value.int .u8 0).cells (grownCap w (n + m) old e - (n + m))) e)).ownsRow base e 1
        (.slice (some ⟨w.heap.size, 0, none⟩) (n + m) (grownCap w (n + m) old e)) (n + m) ((zs ++ List.replicate m 0).map (.int .u8)) := by
    intro old ho
    have hge := grownCap_ge w (n + m) old e
    have hcm : grownCap w (n + m) old e ≤ maxLen := grownCap_le_maxLen w (n + m) old e (by unfold maxLen; omega)
    refine ⟨by simp [hzn], .inr ⟨w.heap.size, _, _, rfl, hbase, heap_alloc_new w.drew _, hge, hcm, ?_, ?_⟩⟩
    · simp [size_zeroCells, Value.cells, hzn]; omega
    · rw [Array.toList_append, Array.toList_append, zeroCells_u8]
      rw [List.take_left' (by simp [hzn])]
      simp
  have hb2 : ∀ ob, Below base w (w.drew.alloc ob) := fun ob => (Below.refl _ _).drew.alloc hbase ob
  rcases hown.2 with ⟨rfl, rfl⟩ | ⟨g, cap, cur, rfl, hbg, hg, hnc, hcm, hcs, htake⟩
  · obtain rfl : zs = [] := List.eq_nil_of_length_eq_zero hzn
    by_cases hm : m = 0
    · subst hm
      refine ⟨.slice none 0 0, w, ?_, by simpa using hown, Below.refl _ _⟩
      have hwr0 : IntKind.i64.wrap 0 = 0 := hwr
      simp [Builtin.append_, run_underlying ht, run_underlying hx, sizeOf, typeInfo, hi, hby, hwr0, asInt, asIntOf]
    · refine ⟨_, _, ?_, grown 0 (by omega), hb2 _⟩
      have h48' : ¬ (281474976710656 < Builtin.nextslicecap m 0) := by rw [nextslicecap_zero (by omega)]; omega
      have h63' : ¬ (9223372036854775807 < (m : Int)) := by omega
      simp [Builtin.append_, run_underlying ht, run_underlying hx, sizeOf, typeInfo, zeroValue, hi, hsz, hby, hz, hwr, hm, hm0, h48, h48', h63', Question.forced, run_firstCells_none, newRow, grownCap, asInt, asIntOf]
  · have hzc := zeroCells_u8 m
    by_cases hroom : n + m ≤ cap
    · have hst := run_storeCells_at P g n e ((List.replicate m (0 : Int)).map (Value.int .u8)) 0 cur w hg (by simp; omega) (one_map _ _)
      refine ⟨.slice (some ⟨g, 0, none⟩) (n + m) cap, w.setRow g (cur.toList.take n ++ (List.replicate m (0 : Int)).map (Value.int .u8) ++ cur.toList.drop (n + m)).toArray, ?_, ?_, ?_⟩
      · simp only [Nat.add_zero, List.length_map, List.length_replicate] at hst
        by_cases hm : m = 0
        · subst hm
          have hwr0 : IntKind.i64.wrap 0 = 0 := hwr
          simp only [List.replicate_zero, List.map_nil, Nat.add_zero] at hst
          simp [Builtin.append_, run_underlying ht, run_underlying hx, sizeOf, typeInfo, hi, hsz, hby, hwr0, hnc, asInt, asIntOf, Addr.add_lit, hst]
        · simp [Builtin.append_, run_underlying ht, run_underlying hx, sizeOf, typeInfo, zeroValue, hi, hsz, hby, hz, hwr, hm, hm0, h48, hroom, asInt, asIntOf, Addr.add_lit]
          rw [hzc, hst]
          simp [Result.andThen]
      · refine ⟨by simp [hzn], .inr ⟨g, cap, _, rfl, hbg, setRow_heap w g cur _ e _ hg, hroom, hcm, ?_, ?_⟩⟩
        · simp; omega
        · rw [Nat.mul_one] at htake ⊢
          rw [htake]
          show List.take (n + m) (zs.map (Value.int .u8) ++ (List.replicate m (0 : Int)).map (Value.int .u8) ++ cur.toList.drop (n + m)) = _
          rw [List.take_left' (by simp [hzn]), List.map_append]
      · exact (Below.refl _ _).trans ⟨rfl, rfl, rfl, by simp [World.setRow], fun k hk => setRow_other w g k _ (by omega)⟩
    · have hfo := run_firstCells_some (P := P) w.drew 1 n ⟨g, 0, none⟩ n cap (zs.map (Value.int .u8)) (by simp [hzn]) (by simpa using hown.cells (g := g) rfl)
      refine ⟨_, _, ?_, grown cap (by omega), hb2 _⟩
      have hmp : ¬ m = 0 := by omega
      have h48' : ¬ (281474976710656 < Builtin.nextslicecap (n + m) cap) := by
        have := growslice_fits (need := n + m) (old := cap) (bytes := 1) (by omega) (by omega)
        omega
      have h63' : ¬ (9223372036854775807 < (n : Int) + (m : Int)) := h63
      simp [Builtin.append_, run_underlying ht, run_underlying hx, sizeOf, typeInfo, zeroValue, hi, hsz, hby, hz, hwr, hmp, hm0, h48, h48', h63', hroom, Question.forced, hfo, newRow, grownCap, asInt, asIntOf]

theorem wpList_append_zeros {P : Program} {w : World} {ops : Array Oper} {rest : List Oper} {o : Oper} {a : Act} {Q : Exit → Act → World → Prop} (hgd : o.guard = none) (s x : Operand) (t xT : TypeId)
    (ho : o.op = .call { callee := .builtin .append, args := #[s, x], argTypes := #[t, xT] })
    (base : Nat) (e : TypeId) (k : IntKind) (i0 : TypeInfo) (hT : P.underlying t = some (.slice e)) (hX : P.underlying xT = some (.int k)) (hI : Hid (P.info? e = some i0 ∧ i0.zero = some (.int .u8 0) ∧ i0.size = 1 ∧ i0.bytes = 1))
    (v : Value) (n : Nat) (zs : List Int) (hs : a.eval s = v) (hown : w.ownsRow base e 1 v n (zs.map (.int .u8)))
    (kx : IntKind) (x0 : Int) (m : Nat) (hx : a.eval x = .int kx x0) (hm : x0 = m) (h47 : n + m ≤ 140737488355328) (hbase : base ≤ w.heap.size)
    (K : ∀ v' w', w'.ownsRow base e 1 v' (n + m) ((zs ++ List.replicate m 0).map (.int .u8)) → Below base w w' → wpList P ops Q rest (a.put o.dst v') w') : wpList P ops Q (o :: rest) a w := by
  subst hm
  obtain ⟨v', w', hrun, h1, h2⟩ := run_append_zeros (P := P) w base t xT o.type e k i0 hT hX hI.out.1 hI.out.2.1 hI.out.2.2.1 hI.out.2.2.2 v n zs hown m h47 hbase kx
  refine wpList_plain hgd fun K' hK => ?_
  unfold Oper.wp
  simp [execOp, ho, resolve, invoke, builtin, hs, hx, hrun, Result.andThen]
  exact hK _ _ (K _ _ h1 h2)

end Go.Proofs.Ytjokgiheabmolaa
