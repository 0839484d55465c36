/-
  Arrays of bytes: as a value; as a variable that the call made; copy into one, its index, its equality. Nothing of the program.
-/
import Derived.Test.YtjokgiheabmolaaGenB
import Derived.Laws.Rows
import Derived.Laws.CopyOwn
import Derived.Laws.StructEq
import Derived.Deep.WholeRow
import Derived.ChangeKeysEq
import Derived.Deep.Quiet
import Derived.Maps.RangeWalk
namespace Go.Proofs.Ytjokgiheabmolaa
open Go.RowKit

/-- n zeros -/
def zeros (n : Nat) : List Int := List.replicate n 0
theorem zeros_length (n : Nat) : (zeros n).length = n := List.length_replicate
/-- the cells of an array of bytes -/
def arr (zs : List Int) : Array Value := (zs.map (Value.int .u8)).toArray
theorem arr_size (zs : List Int) : (arr zs).size = zs.length := by simp [arr]
theorem arr_toList (zs : List Int) : (arr zs).toList = zs.map (Value.int .u8) := by simp [arr]
theorem arr_get {zs : List Int} {i : Nat} (h : i < zs.length) : (arr zs)[i]? = some (.int .u8 (zs.getD i 0)) := by
  simp [arr, List.getElem?_map, List.getElem?_eq_getElem h, List.getD_eq_getElem?_getD]
theorem arr_inj {xs ys : List Int} (h : arr xs = arr ys) : xs = ys := by
  have h := congrArg Array.toList h
  rw [arr_toList, arr_toList] at h
  exact List.map_inj_right (by intro a b e; injection e) |>.1 h
theorem arr_one (zs : List Int) : (arr zs).all (·.oneCell') = true := by
  rw [Array.all_eq_true_iff_forall_mem]
  intro u hu
  exact one_map _ zs u (by simpa [arr] using hu)

/-- each number of zs is a byte -/
def Bytes (zs : List Int) : Prop := ∀ z ∈ zs, 0 ≤ z ∧ z ≤ 255
theorem Bytes.replicate {c : Int} (n : Nat) (h : 0 ≤ c ∧ c ≤ 255) : Bytes (List.replicate n c) := fun z hz => by
  rw [List.eq_of_mem_replicate hz]; exact h
theorem Bytes.append {xs ys : List Int} (h : Bytes xs) (h' : Bytes ys) : Bytes (xs ++ ys) := fun z hz => (List.mem_append.1 hz).elim (h z) (h' z)
theorem Bytes.take {xs : List Int} (h : Bytes xs) (n : Nat) : Bytes (xs.take n) := fun z hz => h z (List.mem_of_mem_take hz)
theorem Bytes.drop {xs : List Int} (h : Bytes xs) (n : Nat) : Bytes (xs.drop n) := fun z hz => h z (List.mem_of_mem_drop hz)
theorem Bytes.getD {xs : List Int} (h : Bytes xs) (i : Nat) : 0 ≤ xs.getD i 0 ∧ xs.getD i 0 ≤ 255 := by
  rcases Nat.lt_or_ge i xs.length with hi | hi
  · rw [List.getD_eq_getElem?_getD, List.getElem?_eq_getElem hi]; exact h _ (List.getElem_mem hi)
  · rw [List.getD_eq_getElem?_getD, List.getElem?_eq_none hi]; exact ⟨Int.le_refl 0, by decide⟩
theorem Bytes.set {xs : List Int} (h : Bytes xs) (i : Nat) {c : Int} (hc : 0 ≤ c ∧ c ≤ 255) : Bytes (xs.set i c) := fun z hz => by
  rcases List.mem_or_eq_of_mem_set hz with hz | rfl
  · exact h z hz
  · exact hc

theorem zeros_bytes (n : Nat) : Bytes (zeros n) := .replicate n (by decide)
/-- block g is just the array zs of the type T -/
def ArrAt (w : World) (g : Nat) (T : TypeId) (zs : List Int) : Prop := w.heap[g]? = some (.cells (arr zs) T (0, 0)) ∧ Bytes zs

theorem ArrAt.row {w : World} {g : Nat} {T : TypeId} {zs : List Int} (h : ArrAt w g T zs) : RowAt w g 0 zs :=
  ⟨fun i hi => by rw [Nat.zero_add, cell_of_row w g i _ _ _ h.1, arr_get hi], h.2⟩
theorem ArrAt.lt {w : World} {g : Nat} {T : TypeId} {zs : List Int} (h : ArrAt w g T zs) : g < w.heap.size := by
  rcases Nat.lt_or_ge g w.heap.size with hl | hl
  · exact hl
  · rw [ArrAt, Array.getElem?_eq_none hl] at h; cases h.1
theorem ArrAt.below {w w' : World} {B g : Nat} {T : TypeId} {zs : List Int} (h : ArrAt w g T zs) (hb : Below B w w') (hg : g < B) : ArrAt w' g T zs := ⟨(hb.block g hg).trans h.1, h.2⟩
theorem ArrAt.bytes {w : World} {g : Nat} {T : TypeId} {zs : List Int} (h : ArrAt w g T zs) : BytesIn w (some ⟨g, 0, none⟩) zs := .of_row h.row h.lt
theorem ArrAt.of_own {w : World} {base g n : Nat} {e : TypeId} {zs : List Int} (h : w.ownsRow base e 1 (.slice (some ⟨g, 0, none⟩) n n) n (zs.map (.int .u8))) (hz : Bytes zs) : ArrAt w g e zs := by
  obtain ⟨h1, h2⟩ := h
  rcases h2 with ⟨h2, _⟩ | ⟨g', cap', cur, hv, _, hh, _, _, hcs, htake⟩
  · simp at h2
  · simp only [Value.slice.injEq, Option.some.injEq, Addr.mk.injEq, and_true, true_and] at hv
    obtain ⟨rfl, rfl⟩ := hv
    refine ⟨?_, hz⟩
    have : cur = arr zs := by
      apply Array.ext'
      rw [arr_toList, ← htake, List.take_of_length_le (by simp; omega)]
    rw [← this]; exact hh

/-- what the call owns stays where nothing that was there turns -/
theorem own_keep {w w' : World} {base B n : Nat} {e : TypeId} {v : Value} {xs : List Value} (h : w.ownsRow base e 1 v n xs) (hb : Below B w w') (hB : w.heap.size ≤ B) : w'.ownsRow base e 1 v n xs := by
  obtain ⟨h1, h2⟩ := h
  refine ⟨h1, h2.imp id ?_⟩
  rintro ⟨g, cap, cur, hv, hbg, hg, r⟩
  have hlt : g < w.heap.size := by
    rcases Nat.lt_or_ge g w.heap.size with hl | hl
    · exact hl
    · rw [Array.getElem?_eq_none hl] at hg; cases hg
  exact ⟨g, cap, cur, hv, hbg, (hb.block g (Nat.lt_of_lt_of_le hlt hB)).trans hg, r⟩
theorem own_form {w : World} {base n : Nat} {e : TypeId} {v : Value} {zs : List Int} (h : w.ownsRow base e 1 v n (zs.map (.int .u8))) (hn : 0 < n) (hz : Bytes zs) :
    ∃ g cap, v = .slice (some ⟨g, 0, none⟩) n cap ∧ base ≤ g ∧ g < w.heap.size ∧ RowAt w g 0 zs ∧ n ≤ cap ∧ cap ≤ maxLen := by
  rcases h.2 with ⟨_, h'⟩ | ⟨g, cap, cur, rfl, hb, hg, hc, hm, _⟩
  · omega
  · exact ⟨g, cap, rfl, hb, (own_lt h).2, .of_own h hz, hc, hm⟩
theorem RowAt.cell0 {w : World} {b : Nat} {zs : List Int} (h : RowAt w b 0 zs) (i : Nat) (hi : i < zs.length) : w.cell? ⟨b, i, none⟩ = some (.int .u8 (zs.getD i 0)) := by
  have := h.1 i hi
  rwa [Nat.zero_add] at this
theorem RowAt.take {w : World} {b off : Nat} {zs : List Int} (h : RowAt w b off zs) (n : Nat) : RowAt w b off (zs.take n) := by
  refine ⟨fun i hi => ?_, Bytes.take h.2 n⟩
  rw [List.length_take] at hi
  rw [h.1 i (by omega)]
  congr 2
  rw [List.getD_eq_getElem?_getD, List.getD_eq_getElem?_getD, List.getElem?_take, if_pos (by omega)]
theorem RowAt.drop {w : World} {b off : Nat} {zs : List Int} (h : RowAt w b off zs) (n : Nat) : RowAt w b (off + n) (zs.drop n) := by
  refine ⟨fun i hi => ?_, Bytes.drop h.2 n⟩
  rw [List.length_drop] at hi
  have := h.1 (n + i) (by omega)
  rw [← Nat.add_assoc] at this
  rw [this]
  congr 2
  rw [List.getD_eq_getElem?_getD, List.getD_eq_getElem?_getD, List.getElem?_drop]

theorem belT {w0 w1 w2 : World} (h : Below w0.heap.size w0 w1) (h' : Below w1.heap.size w1 w2) : Below w0.heap.size w0 w2 := h.trans (h'.mono h.size)
theorem BytesIn.bytes {w : World} {a : Option Addr} {zs : List Int} (h : BytesIn w a zs) : Bytes zs := by
  rcases h with h | ⟨_, _, _, _, h⟩
  · rw [h]; exact fun z hz => by simp at hz
  · exact h.2

/-- block g alone has turned -/
def Turned (w w' : World) (g : Nat) : Prop := ∃ cs, w' = w.setRow g cs
theorem Turned.below {w w' : World} {g : Nat} (h : Turned w w' g) {B : Nat} (hB : B ≤ g) : Below B w w' := by
  obtain ⟨cs, rfl⟩ := h
  exact below_setRow (Below.refl _ _) hB cs
theorem Turned.other {w w' : World} {g : Nat} (h : Turned w w' g) {k : Nat} (hk : k ≠ g) : w'.heap[k]? = w.heap[k]? := by
  obtain ⟨cs, rfl⟩ := h
  exact setRow_other w g k cs (by omega)
theorem Turned.size {w w' : World} {g : Nat} (h : Turned w w' g) : w'.heap.size = w.heap.size := by
  obtain ⟨cs, rfl⟩ := h
  exact size_setRow w g cs
theorem ArrAt.turned {w w' : World} {g k : Nat} {T : TypeId} {zs : List Int} (h : ArrAt w k T zs) (ht : Turned w w' g) (hk : k ≠ g) : ArrAt w' k T zs := ⟨(ht.other hk).trans h.1, h.2⟩
theorem RowAt.turned {w w' : World} {g k off : Nat} {zs : List Int} (h : RowAt w k off zs) (ht : Turned w w' g) (hk : k ≠ g) : RowAt w' k off zs :=
  ⟨fun i hi => (World.cell?_of_block (ht.other (k := k) hk)).trans (h.1 i hi), h.2⟩

theorem ArrAt.set {w : World} {g : Nat} {T : TypeId} {zs : List Int} (h : ArrAt w g T zs) (i : Nat) {d : Int} (hd : 0 ≤ d ∧ d ≤ 255) : ArrAt (w.setCell ⟨g, i, none⟩ (.int .u8 d)) g T (zs.set i d) := by
  refine ⟨?_, h.2.set i hd⟩
  rw [heap_setCell_same w g i (arr zs) T (.int .u8 d) h.1]
  congr 2
  apply Array.ext'
  simp [arr]
theorem ArrAt.frozen {w : World} {g : Nat} {T : TypeId} {zs : List Int} (h : ArrAt w g T zs) (i : Nat) : w.frozen? ⟨g, i, none⟩ = false := frozen_of_row w g i (arr zs) T h.1

section
variable {P : Program} {w : World} {ops : Array Oper} {rest : List Oper} {o : Oper} {a : Act} {Q : Exit → Act → World → Prop}

/-- what a walk asks of an array's type -/
def ArrT (P : Program) (T e : TypeId) (n : Nat) : Prop :=
  P.underlying T = some (.array n e) ∧ (P.info? T).map (fun i => (i.zero, i.size)) = some (some (.agg (arr (zeros n))), n) ∧ P.underlying e = some (.int .u8) ∧ (P.info? e).map (fun i => (i.zero, i.size, i.bytes)) = some (some (.int .u8 0), 1, 1)
theorem ArrT.zero {T e : TypeId} {n : Nat} (h : ArrT P T e n) (w : World) : (zeroValue T).run P w = .ok (.agg (arr (zeros n))) w := (zero_of_info h.2.1).1 w
theorem ArrT.size {T e : TypeId} {n : Nat} (h : ArrT P T e n) : (P.info? T).map (·.size) = some n := (zero_of_info h.2.1).2
theorem ArrT.elem {T e : TypeId} {n : Nat} (h : ArrT P T e n) : (P.info? e).map (·.size) = some 1 := by
  have := h.2.2.2
  cases hq : P.info? e with
  | none => simp [hq] at this
  | some i => simp [hq] at this; simp [this.2.1]

/-- a new variable of an array -/
theorem wpList_alloc_arr (hgd : o.guard = none) (T e : TypeId) (n : Nat) (hT : ArrT P T e n) (ho : o.op = .alloc T)
    (K : ∀ w', ArrAt w' w.heap.size T (zeros n) → Below w.heap.size w w' → wpList P ops Q rest (a.put o.dst (.pointer (some ⟨w.heap.size, 0, none⟩))) w') : wpList P ops Q (o :: rest) a w := by
  refine wpList_plain hgd fun K' hK => ?_
  unfold Oper.wp
  simp [execOp, ho, Instr.alloc, hT.zero, newVar, newRow, Result.andThen, Value.cells]
  exact hK _ _ (K _ ⟨heap_alloc_new w _, zeros_bytes n⟩ ((Below.refl _ _).alloc (Nat.le_refl _) _))

/-- a variable for an array that came by value -/
theorem wpList_box_arr (hgd : o.guard = none) (T : TypeId) (x : Operand) (ho : o.op = .box T x) (zs : List Int) (hx : a.eval x = .agg (arr zs)) (hz : Bytes zs)
    (K : ∀ w', ArrAt w' w.heap.size T zs → Below w.heap.size w w' → wpList P ops Q rest (a.put o.dst (.pointer (some ⟨w.heap.size, 0, none⟩))) w') : wpList P ops Q (o :: rest) a w := by
  refine wpList_plain hgd fun K' hK => ?_
  unfold Oper.wp
  simp [execOp, ho, hx, Instr.box, newVar, newRow, Result.andThen, Value.cells]
  exact hK _ _ (K _ ⟨heap_alloc_new w _, hz⟩ ((Below.refl _ _).alloc (Nat.le_refl _) _))

/-- an array of zeros -/
theorem wpList_build_arr (hgd : o.guard = none) (T e : TypeId) (n : Nat) (hT : ArrT P T e n) (ho : o.op = .build T #[])
    (K : wpList P ops Q rest (a.put o.dst (.agg (arr (zeros n)))) w) : wpList P ops Q (o :: rest) a w := by
  refine wpList_plain hgd fun K' hK => ?_
  unfold Oper.wp
  simp [execOp, ho, Instr.build, hT.zero, run_underlying hT.1, Result.andThen, Value.cells, Instr.fill, sizeOf, typeInfo]
  have := hT.elem
  cases hq : P.info? e with
  | none => simp [hq] at this
  | some i =>
    simp
    exact hK _ _ K

theorem run_load_arr {T e : TypeId} {n : Nat} (hT : ArrT P T e n) (b off : Nat) (zs : List Int) (hr : RowAt w b off zs) (hl : zs.length = n) :
    (loadVar T ⟨b, off, none⟩).run P w = .ok (.agg (arr zs)) w := by
  have hll := run_loadCells_list (P := P) w ⟨b, off, none⟩ (zs.map (.int .u8)) (fun j u hj => hr.news j u hj)
  rw [List.length_map, hl] at hll
  have hs := hT.size
  cases hq : P.info? T with
  | none => simp [hq] at hs
  | some i =>
    have hs : i.size = n := by simpa [hq] using hs
    have hagg : (isAgg T).run P w = .ok true w := by
      unfold isAgg
      rw [Sem.run_bind, run_underlying hT.1 w]
      simp
    simp [loadVar, Sem.run_bind, hagg, sizeOf, typeInfo, hq, hs, hll]
    rfl

/-- the array that lies at an address -/
theorem wpList_load_arr (hgd : o.guard = none) (T e : TypeId) (n : Nat) (hT : ArrT P T e n) (x : Operand) (ho : o.op = .load T x) (b off : Nat) (hx : a.eval x = .pointer (some ⟨b, off, none⟩))
    (zs : List Int) (hr : RowAt w b off zs) (hl : zs.length = n) (K : wpList P ops Q rest (a.put o.dst (.agg (arr zs))) w) : wpList P ops Q (o :: rest) a w := by
  refine wpList_plain hgd fun K' hK => ?_
  unfold Oper.wp execOp
  simp only [ho, hx, Instr.loadAt, Instr.sureAddr, Sem.run_bind, Sem.run_pure, Result.andThen_ok, run_load_arr hT b off zs hr hl]
  exact hK _ _ K

/-- the same as one step of a quiet region -/
theorem quiet_load_arr {C : World → Prop} {K : Act → Prop} (T e : TypeId) (n : Nat) (hT : ArrT P T e n) (x : Operand) (ho : o.op = .load T x) (b off : Nat) (hx : a.eval x = .pointer (some ⟨b, off, none⟩))
    (zs : List Int) (hr : ∀ w, C w → RowAt w b off zs) (hl : zs.length = n) (hk : K (a.put o.dst (.agg (arr zs)))) : o.quiet P a C K :=
  ⟨_, fun w hw => by
    unfold Oper.quietAt execOp
    simp only [ho, hx, Instr.loadAt, Instr.sureAddr, Sem.run_bind, Sem.run_pure, Result.andThen_ok, run_load_arr hT b off zs (hr w hw) hl]
    exact ⟨rfl, rfl⟩, hk⟩

/-- a slice as an array -/
theorem run_arrayAt {T e : TypeId} {n : Nat} (hT : ArrT P T e n) (x : Option Addr) (len cap : Nat) (hl : n ≤ len) : (Instr.arrayAt T (.slice x len cap)).run P w = .ok (.pointer x) w := by
  simp [Instr.arrayAt, run_underlying hT.1, Nat.not_lt.2 hl]

/-- an array into its variable -/
theorem wpList_store_arr (hgd : o.guard = none) (T e : TypeId) (n : Nat) (hT : ArrT P T e n) (x y : Operand) (ho : o.op = .store T x y) (g : Nat) (hx : a.eval x = .pointer (some ⟨g, 0, none⟩))
    (zs : List Int) (hy : a.eval y = .agg (arr zs)) (hz : Bytes zs) (hl : zs.length = n) (T' : TypeId) (old : List Int) (hg : ArrAt w g T' old) (hol : old.length = n)
    (K : ∀ w', ArrAt w' g T' zs → Turned w w' g → wpList P ops Q rest (a.put o.dst undef) w') : wpList P ops Q (o :: rest) a w := by
  refine wpList_store_row hgd T x y ho g (arr zs) hx hy T' (arr old) hg.1 (by rw [hT.size, arr_size, hl]) (by rw [arr_size, arr_size, hl, hol]) (arr_one zs) ?_
  exact K _ ⟨setRow_heap w g _ _ T' _ hg.1, hz⟩ ⟨_, rfl⟩

/-- ys laid over zs from off on -/
def lay (zs : List Int) (off : Nat) (ys : List Int) : List Int := zs.take off ++ (ys ++ zs.drop (off + ys.length))
theorem lay_length (zs : List Int) (off : Nat) (ys : List Int) (h : off + ys.length ≤ zs.length) : (lay zs off ys).length = zs.length := by simp [lay]; omega
theorem lay_bytes {zs ys : List Int} (off : Nat) (hz : Bytes zs) (hy : Bytes ys) : Bytes (lay zs off ys) := (hz.take off).append (hy.append (hz.drop _))

theorem setRow_lay (w : World) (g : Nat) (T : TypeId) (zs : List Int) (off : Nat) (ys : List Int) (hg : ArrAt w g T zs) (hy : Bytes ys) :
    ArrAt (w.setRow g ((arr zs).toList.take off ++ (ys.map (Value.int .u8)) ++ (arr zs).toList.drop (off + ys.length)).toArray) g T (lay zs off ys) := by
  refine ⟨?_, lay_bytes off hg.2 hy⟩
  rw [setRow_heap w g _ _ T _ hg.1]
  simp [arr, lay]

/-- 'copy(a[off:], s)' into an array of the call's own -/
theorem wpList_copy_arr_str (hgd : o.guard = none) (d x : Operand) (dT sT : TypeId) (ho : o.op = .call { callee := .builtin .copy, args := #[d, x], argTypes := #[dT, sT] })
    (e : TypeId) (hT : P.underlying dT = some (.slice e)) (he : (P.info? e).map (·.size) = some 1)
    (g off n cap : Nat) (hd : a.eval d = .slice (some ⟨g, off, none⟩) n cap) (s : ByteArray) (hx : a.eval x = .string s) (T : TypeId) (zs : List Int) (hg : ArrAt w g T zs) (hl : s.size ≤ n) (hfit : off + s.size ≤ zs.length)
    (K : ∀ w', ArrAt w' g T (lay zs off (numsOf s)) → Turned w w' g → wpList P ops Q rest (a.put o.dst (goInt s.size)) w') : wpList P ops Q (o :: rest) a w := by
  refine wpList_plain hgd fun K' hK => ?_
  have hlen : ((numsOf s).map (Value.int .u8)).length = s.size := by rw [List.length_map, numsOf_length]
  have hst := run_storeCells_at P g off T ((numsOf s).map (Value.int .u8)) 0 (arr zs) w hg.1 (by rw [hlen, arr_size]; omega) (one_map _ _)
  have hmin : Nat.min s.size n = s.size := Nat.min_eq_left hl
  have htk : List.take s.size (List.map (fun b : UInt8 => Value.int IntKind.u8 (b.toNat : Int)) s.data.toList) = (numsOf s).map (Value.int .u8) := by
    rw [List.take_of_length_le (by rw [List.length_map]; exact Nat.le_refl _), numsOf_eq, List.map_map]
    rfl
  rw [Nat.add_zero, List.length_map] at hst
  have hrun : (Builtin.copy_ #[dT, sT] o.type #[.slice (some ⟨g, off, none⟩) n cap, .string s]).run P w = .ok (goInt s.size) (w.setRow g ((arr zs).toList.take off ++ ((numsOf s).map (Value.int .u8)) ++ (arr zs).toList.drop (off + (numsOf s).length)).toArray) := by
    cases hq : P.info? e with
    | none => simp [hq] at he
    | some i =>
      have hs : i.size = 1 := by simpa [hq] using he
      simp [Builtin.copy_, run_underlying hT, Builtin.lenOf, Builtin.firstCells, sizeOf, typeInfo, hq, hmin]
      rw [htk, hst]
      simp [Result.andThen, numsOf_length]
  unfold Oper.wp
  simp [execOp, ho, resolve, invoke, builtin, hd, hx, hrun, Result.andThen]
  exact hK _ _ (K _ (by simpa using setRow_lay w g T zs off (numsOf s) hg (numsOf_bd s)) ⟨_, rfl⟩)

/-- 'copy(a[off:], b)' into an array (or a row) of the call's own -/
theorem wpList_copy_arr (hgd : o.guard = none) (d x : Operand) (dT sT : TypeId) (ho : o.op = .call { callee := .builtin .copy, args := #[d, x], argTypes := #[dT, sT] })
    (e : TypeId) (hT : P.underlying dT = some (.slice e)) (he : (P.info? e).map (·.size) = some 1)
    (g off n cap : Nat) (hd : a.eval d = .slice (some ⟨g, off, none⟩) n cap) (b : Option Addr) (m c : Nat) (hx : a.eval x = .slice b m c) (ys : List Int) (hy : BytesIn w b ys) (hm : ys.length = m)
    (T : TypeId) (zs : List Int) (hg : ArrAt w g T zs) (hfit : off + n ≤ zs.length)
    (K : ∀ w', ArrAt w' g T (lay zs off (ys.take n)) → Turned w w' g → wpList P ops Q rest (a.put o.dst (goInt (ys.take n).length)) w') : wpList P ops Q (o :: rest) a w := by
  have hmn : (ys.take n).length = Nat.min m n := by rw [List.length_take, hm]; exact Nat.min_comm _ _
  by_cases h0 : Nat.min m n = 0
  · refine wpList_copy_nothing hgd d x dT sT ho e hT he _ _ _ _ _ _ hd hx h0 ?_
    have e0 : ys.take n = [] := List.eq_nil_of_length_eq_zero (hmn.trans h0)
    have := K w (by rw [e0]; simpa [lay] using hg) ⟨arr zs, (setRow_self w g (arr zs) T (0, 0) hg.1).symm⟩
    rw [e0] at this
    exact this
  · rcases hy with hy | ⟨b', off', rfl, _, hr⟩
    · exfalso; apply h0; rw [← hm, hy]; exact Nat.zero_min _
    · have hk := wpList_copy_own (P := P) (w := w) (ops := ops) (rest := rest) (o := o) (a := a) (Q := Q) hgd d x dT sT ho e hT he g off n cap ⟨b', off', none⟩ m c hd hx (arr zs) T hg.1 ((ys.take n).map (Value.int .u8)) (by rw [List.length_map]; exact hmn)
        (fun j v hj => hr.news j v (by
          rw [List.map_take, List.getElem?_take] at hj
          split at hj
          · exact hj
          · cases hj)) (by rw [List.length_map, arr_size, List.length_take]; omega) (one_map _ _)
      rw [List.length_map] at hk
      refine hk (K _ ?_ ⟨_, rfl⟩)
      have := setRow_lay w g T zs off (ys.take n) hg (Bytes.take hr.2 n)
      simpa using this

/-- 'make([]byte, n)' -/
theorem wpList_make_arr (hgd : o.guard = none) (l c : Operand) (t e : TypeId) (ho : o.op = .makeSlice t l c) (ht : P.underlying t = some (.slice e)) (i0 : TypeInfo) (hI : Hid (P.info? e = some i0 ∧ i0.zero = some (.int .u8 0) ∧ i0.size = 1 ∧ i0.bytes = 1))
    (n : Nat) (hl : a.eval l = .int .i64 n) (hc : a.eval c = .int .i64 n) (hn : n ≤ 140737488355328)
    (K : ∀ w', ArrAt w' w.heap.size e (zeros n) → Below w.heap.size w w' → wpList P ops Q rest (a.put o.dst (.slice (some ⟨w.heap.size, 0, none⟩) n n)) w') : wpList P ops Q (o :: rest) a w := by
  refine wpList_make_full w hgd l c t ho w.heap.size e i0 (.int .u8 0) 1 ht hI.out.1 hI.out.2.1 hI.out.2.2.1 .i64 .i64 n n n hl hc rfl rfl (by rw [hI.out.2.2.2]; omega) (by unfold maxLen; omega) (Nat.le_refl _) ?_
  intro w' h1 h2
  have hm : (madeCells (Value.int .u8 0).cells (n * 1)).toList = (zeros n).map (.int .u8) := by
    apply List.ext_getElem?
    intro i
    by_cases h : i < n <;> simp [zeros, madeCells, Value.cells, h, Nat.mod_one]
  rw [hm] at h1
  exact K w' (.of_own h1 (zeros_bytes n)) ((Below.refl _ _).grown h2 (Nat.le_refl _) (fun _ h => by cases h))

/-- '[]byte{}' -/
theorem wpList_lit_none (hgd : o.guard = none) (t e : TypeId) (ho : o.op = .buildSlice t 0 #[]) (ht : P.underlying t = some (.slice e)) (he : (P.info? e).map (·.size) = some 1)
    (K : ∀ w', w'.ownsRow w.heap.size e 1 (.slice (some ⟨w.heap.size, 0, none⟩) 0 0) 0 (([] : List Int).map (.int .u8)) → Below w.heap.size w w' → wpList P ops Q rest (a.put o.dst (.slice (some ⟨w.heap.size, 0, none⟩) 0 0)) w') : wpList P ops Q (o :: rest) a w := by
  refine wpList_plain hgd fun K' hK => ?_
  cases hq : P.info? e with
  | none => simp [hq] at he
  | some i =>
    have hrun : (Instr.buildSlice t 0 #[]).run P w = .ok (.slice (some ⟨w.heap.size, 0, none⟩) 0 0) (w.alloc (.cells #[] e)) := by
      simp [Instr.buildSlice, run_underlying ht, sizeOf, typeInfo, hq, Instr.fill, newRow]
      rw [show Array.range 0 = #[] by decide, Array.map_empty]
    unfold Oper.wp
    simp [execOp, ho, hrun, Result.andThen]
    exact hK _ _ (K _ (World.ownsRow_lit w #[] 0 (Nat.le_refl _) (Nat.zero_le _) rfl) ((Below.refl _ _).alloc (Nat.le_refl _) _))

/-- '[]byte{c}' -/
theorem wpList_lit_one (hgd : o.guard = none) (t e : TypeId) (x : Operand) (ho : o.op = .buildSlice t 1 #[(0, x)]) (ht : P.underlying t = some (.slice e)) (hI : (P.info? e).map (fun i => (i.zero, i.size, i.bytes)) = some (some (.int .u8 0), 1, 1))
    (c : Int) (hx : a.eval x = .int .u8 c) (hc : 0 ≤ c ∧ c ≤ 255)
    (K : ∀ w', ArrAt w' w.heap.size e [c] → Below w.heap.size w w' → wpList P ops Q rest (a.put o.dst (.slice (some ⟨w.heap.size, 0, none⟩) 1 1)) w') : wpList P ops Q (o :: rest) a w := by
  refine wpList_plain hgd fun K' hK => ?_
  cases hq : P.info? e with
  | none => simp [hq] at hI
  | some i =>
    simp [hq] at hI
    have hrun : (Instr.buildSlice t 1 #[(0, .int .u8 c)]).run P w = .ok (.slice (some ⟨w.heap.size, 0, none⟩) 1 1) (w.alloc (.cells #[.int .u8 c] e)) := by
      simp [Instr.buildSlice, run_underlying ht, sizeOf, typeInfo, zeroValue, hq, hI.1, hI.2.1, Instr.fill, newRow, Value.cells]
      rw [show Array.range 1 = #[0] by decide]; simp
    unfold Oper.wp
    simp [execOp, ho, hx, hrun, Result.andThen]
    refine hK _ _ (K _ ⟨heap_alloc_new w _, fun z hz => ?_⟩ ((Below.refl _ _).alloc (Nat.le_refl _) _))
    obtain rfl : z = c := by simpa using hz
    exact hc

/-- a slice of two one-cell values -/
theorem wpList_lit_two (hgd : o.guard = none) (t e : TypeId) (x y : Operand) (ho : o.op = .buildSlice t 2 #[(0, x), (1, y)]) (ht : P.underlying t = some (.slice e)) (z : Value) (hI : (P.info? e).map (fun i => (i.zero, i.size)) = some (some z, 1))
    (u v : Value) (hx : a.eval x = u) (hy : a.eval y = v) (hu : u.cells = #[u]) (hv : v.cells = #[v]) (hz : z.cells = #[z])
    (K : ∀ w', w'.heap[w.heap.size]? = some (.cells #[u, v] e (0, 0)) → Below w.heap.size w w' → wpList P ops Q rest (a.put o.dst (.slice (some ⟨w.heap.size, 0, none⟩) 2 2)) w') : wpList P ops Q (o :: rest) a w := by
  refine wpList_plain hgd fun K' hK => ?_
  cases hq : P.info? e with
  | none => simp [hq] at hI
  | some i =>
    simp [hq] at hI
    have hrun : (Instr.buildSlice t 2 #[(0, u), (1, v)]).run P w = .ok (.slice (some ⟨w.heap.size, 0, none⟩) 2 2) (w.alloc (.cells #[u, v] e)) := by
      simp [Instr.buildSlice, run_underlying ht, sizeOf, typeInfo, zeroValue, hq, hI.1, hI.2, Instr.fill, newRow, hu, hv, hz]
      rw [show Array.range 2 = #[0, 1] by decide]; simp
    unfold Oper.wp
    simp [execOp, ho, hx, hy, hrun, Result.andThen]
    exact hK _ _ (K _ (heap_alloc_new w _) ((Below.refl _ _).alloc (Nat.le_refl _) _))

/-- an array's byte -/
theorem run_index_arr {T e : TypeId} {n : Nat} (hT : ArrT P T e n) (zs : List Int) (hl : zs.length = n) (i : Nat) (hi : i < n) :
    (Instr.index T (.agg (arr zs)) (.int .i64 i)).run P w = .ok (.int .u8 (zs.getD i 0)) w := by
  have he := hT.elem
  have hagg : (isAgg e).run P w = .ok false w := by
    unfold isAgg
    rw [Sem.run_bind, run_underlying hT.2.2.1 w]
    simp
  cases hq : P.info? e with
  | none => simp [hq] at he
  | some j =>
    have hs : j.size = 1 := by simpa [hq] using he
    have hg := arr_get (zs := zs) (i := i) (by omega)
    simp [Instr.index, asIntOf, run_underlying hT.1, hi, sizeOf, typeInfo, hq, hs, part, hagg, hg]

theorem run_eqItems_arr (d : Nat) {e : TypeId} (he : P.underlying e = some (.int .u8)) (xs ys : List Int) (hl : xs.length = ys.length) : ∀ (m k : Nat), k + m = xs.length →
    (Op.eqItems (d + 1) e 1 (arr xs) (arr ys) (List.range' k m)).run P w = .ok (decide (xs.drop k = ys.drop k)) w
  | 0, k, h => by
    rw [List.drop_eq_nil_of_le (by omega), List.drop_eq_nil_of_le (by omega)]
    simp [Op.eqItems]
  | m + 1, k, h => by
    have ih := run_eqItems_arr d he xs ys hl m (k + 1) (by omega)
    have hagg : (isAgg e).run P w = .ok false w := by
      unfold isAgg
      rw [Sem.run_bind, run_underlying he w]
      simp
    have hx : xs.drop k = xs.getD k 0 :: xs.drop (k + 1) := by
      rw [List.drop_eq_getElem_cons (by omega), List.getD_eq_getElem?_getD, List.getElem?_eq_getElem (by omega)]; rfl
    have hy : ys.drop k = ys.getD k 0 :: ys.drop (k + 1) := by
      rw [List.drop_eq_getElem_cons (by omega), List.getD_eq_getElem?_getD, List.getElem?_eq_getElem (by omega)]; rfl
    rw [List.range'_succ, hx, hy]
    simp only [Op.eqItems, part, Sem.run_bind, hagg, Result.andThen_ok, Nat.mul_one, arr_get (show k < xs.length by omega), arr_get (show k < ys.length by omega), Sem.run_pure, Bool.false_eq_true, if_false, Sem.run_ite]
    rw [run_equalIn_int w d e .u8 .u8 _ _ he]
    simp only [Result.andThen_ok]
    by_cases hc : xs.getD k 0 = ys.getD k 0
    · have hb : (xs.getD k 0 == ys.getD k 0) = true := by simpa using hc
      rw [hb]
      simp only [Bool.not_true, Bool.false_eq_true, if_false, ih]
      rw [hc]
      simp
    · have hb : (xs.getD k 0 == ys.getD k 0) = false := by simpa using hc
      rw [hb]
      simp only [Bool.not_false, if_true]
      have : ¬ (xs.getD k 0 :: xs.drop (k + 1) = ys.getD k 0 :: ys.drop (k + 1)) := fun e => hc (List.cons.inj e).1
      rw [decide_eq_false this]

/-- two arrays are compared -/
theorem run_neq_arr {T e : TypeId} {n : Nat} (hT : ArrT P T e n) (xs ys : List Int) (hx : xs.length = n) (hy : ys.length = n) :
    (binOp .neq T (.agg (arr xs)) (.agg (arr ys))).run P w = .ok (.bool (!decide (xs = ys))) w := by
  rw [run_neq_struct w T]
  have he := hT.elem
  cases hq : P.info? e with
  | none => simp [hq] at he
  | some i =>
    have hs : P.cellsOf e = 1 := by simpa [Program.cellsOf, hq] using he
    rw [run_equalIn_array w 9999 _ _ hT.1 hq, hs, List.range_eq_range', run_eqItems_arr 9998 hT.2.2.1 xs ys (by omega) n 0 (by omega)]
    simp [Result.andThen]

/-- the results are an array's variable and a slot -/
theorem results_arr_tmp {fn : Func} {p q : Tmp} {T e : TypeId} {n : Nat} (h : fn.results = #[.cell p T, .tmp q]) (hT : ArrT P T e n) (tmps : Array Value) (g : Nat) (hp : tmps.getD p undef = .pointer (some ⟨g, 0, none⟩))
    (T' : TypeId) (zs : List Int) (hg : ArrAt w g T' zs) (hl : zs.length = n) : (results fn tmps).run P w = .ok (.tuple #[.agg (arr zs), tmps.getD q undef]) w := by
  have hp' : tmps[p]?.getD undef = .pointer (some ⟨g, 0, none⟩) := by simpa using hp
  simp [results, h, hp', asAddr, run_load_arr hT g 0 zs hg.row hl]
theorem results_arr {fn : Func} {p : Tmp} {T e : TypeId} {n : Nat} (h : fn.results = #[.cell p T]) (hT : ArrT P T e n) (tmps : Array Value) (g : Nat) (hp : tmps.getD p undef = .pointer (some ⟨g, 0, none⟩))
    (T' : TypeId) (zs : List Int) (hg : ArrAt w g T' zs) (hl : zs.length = n) : (results fn tmps).run P w = .ok (.agg (arr zs)) w := by
  have hp' : tmps[p]?.getD undef = .pointer (some ⟨g, 0, none⟩) := by simpa using hp
  simp [results, h, hp', asAddr, run_load_arr hT g 0 zs hg.row hl]
end
end Go.Proofs.Ytjokgiheabmolaa
