/-
  Arrays of bytes: as a value; as a variable that the call made; copy into one, its index, its equality. Nothing of the program.
-/
import Derived.Test.YthcbiohmghaobaaDoorPz01
import Derived.Laws.Rows
import Derived.Laws.CopyOwn
import Derived.Laws.StructEq
import Derived.Deep.WholeRow
import Derived.ChangeKeysEq
import Derived.Deep.Quiet
import Derived.Maps.RangeWalk
import Derived.Deep.RegionHeld3
import Derived.Deep.AppendLies
import Derived.Laws.Cover1
import Derived.Test.YthcbiohmghaobaaDoorRows
import Derived.Deep.QuietTactic
import Derived.BigQuiet
import Derived.BigRegion
namespace Go.Proofs.YthcbiohmghaobaaDoor
open Go.RowKit

/-- n zeros -/
def zeros (n : Nat) : List Int := List.replicate n 0
theorem zeros_length (n : Nat) : (zeros n).length = n := List.length_replicate
/-- the cells of an array of bytes -/
def arr (zs : List Int) : Array Value := (zs.map (Value.int .u8)).toArray
theorem arr_size (zs : List Int) : (arr zs).size = zs.length := by simp [arr]
theorem arr_toList (zs : List Int) : (arr zs).toList = zs.map (Value.int .u8) := by simp [arr]
theorem arr_get {zs : List Int} {i : Nat} (h : i < zs.length) : (arr zs)[i]? = some (.int .u8 (zs.getD i 0)) := by
  simp [arr, List.getElem?_map, List.getElem?_eq_getElem h, List.getD_eq_getElem?_getD]
theorem arr_inj {xs ys : List Int} (h : arr xs = arr ys) : xs = ys := by
  have h := congrArg Array.toList h
  rw [arr_toList, arr_toList] at h
  exact List.map_inj_right (by intro a b e; injection e) |>.1 h
theorem arr_one (zs : List Int) : (arr zs).all (·.oneCell') = true := by
  rw [Array.all_eq_true_iff_forall_mem]
  intro u hu
  exact one_map _ zs u (by simpa [arr] using hu)

/-- each number of zs is a byte -/
def Bytes (zs : List Int) : Prop := ∀ z ∈ zs, 0 ≤ z ∧ z ≤ 255
theorem Bytes.replicate {c : Int} (n : Nat) (h : 0 ≤ c ∧ c ≤ 255) : Bytes (List.replicate n c) := fun z hz => by
  rw [List.eq_of_mem_replicate hz]; exact h
theorem Bytes.append {xs ys : List Int} (h : Bytes xs) (h' : Bytes ys) : Bytes (xs ++ ys) := fun z hz => (List.mem_append.1 hz).elim (h z) (h' z)
theorem Bytes.take {xs : List Int} (h : Bytes xs) (n : Nat) : Bytes (xs.take n) := fun z hz => h z (List.mem_of_mem_take hz)
theorem Bytes.drop {xs : List Int} (h : Bytes xs) (n : Nat) : Bytes (xs.drop n) := fun z hz => h z (List.mem_of_mem_drop hz)
theorem Bytes.getD {xs : List Int} (h : Bytes xs) (i : Nat) : 0 ≤ xs.getD i 0 ∧ xs.getD i 0 ≤ 255 := by
  rcases Nat.lt_or_ge i xs.length with hi | hi
  · rw [List.getD_eq_getElem?_getD, List.getElem?_eq_getElem hi]; exact h _ (List.getElem_mem hi)
  · rw [List.getD_eq_getElem?_getD, List.getElem?_eq_none hi]; exact ⟨Int.le_refl 0, by decide⟩
theorem Bytes.set {xs : List Int} (h : Bytes xs) (i : Nat) {c : Int} (hc : 0 ≤ c ∧ c ≤ 255) : Bytes (xs.set i c) := fun z hz => by
  rcases List.mem_or_eq_of_mem_set hz with hz | rfl
  · exact h z hz
  · exact hc

theorem zeros_bytes (n : Nat) : Bytes (zeros n) := .replicate n (by decide)
/-- block g is just the array zs of the type T -/
def ArrAt (w : World) (g : Nat) (T : TypeId) (zs : List Int) : Prop := w.heap[g]? = some (.cells (arr zs) T (0, 0)) ∧ Bytes zs

theorem ArrAt.row {w : World} {g : Nat} {T : TypeId} {zs : List Int} (h : ArrAt w g T zs) : RowAt w g 0 zs :=
  ⟨fun i hi => by rw [Nat.zero_add, cell_of_row w g i _ _ _ h.1, arr_get hi], h.2⟩
theorem ArrAt.lt {w : World} {g : Nat} {T : TypeId} {zs : List Int} (h : ArrAt w g T zs) : g < w.heap.size := by
  rcases Nat.lt_or_ge g w.heap.size with hl | hl
  · exact hl
  · rw [ArrAt, Array.getElem?_eq_none hl] at h; cases h.1
theorem ArrAt.below {w w' : World} {B g : Nat} {T : TypeId} {zs : List Int} (h : ArrAt w g T zs) (hb : Below B w w') (hg : g < B) : ArrAt w' g T zs := ⟨(hb.block g hg).trans h.1, h.2⟩
theorem ArrAt.bytes {w : World} {g : Nat} {T : TypeId} {zs : List Int} (h : ArrAt w g T zs) : BytesIn w (some ⟨g, 0, none⟩) zs := .of_row h.row h.lt
theorem ArrAt.of_own {w : World} {base g n : Nat} {e : TypeId} {zs : List Int} (h : w.ownsRow base e 1 (.slice (some ⟨g, 0, none⟩) n n) n (zs.map (.int .u8))) (hz : Bytes zs) : ArrAt w g e zs := by
  obtain ⟨h1, h2⟩ := h
  rcases h2 with ⟨h2, _⟩ | ⟨g', cap', cur, hv, _, hh, _, _, hcs, htake⟩
  · simp at h2
  · simp only [Value.slice.injEq, Option.some.injEq, Addr.mk.injEq, and_true, true_and] at hv
    obtain ⟨rfl, rfl⟩ := hv
    refine ⟨?_, hz⟩
    have : cur = arr zs := by
      apply Array.ext'
      rw [arr_toList, ← htake, List.take_of_length_le (by simp; omega)]
    rw [← this]; exact hh

/-- what the call owns stays where nothing that was there turns -/
theorem own_keep {w w' : World} {base B n : Nat} {e : TypeId} {v : Value} {xs : List Value} (h : w.ownsRow base e 1 v n xs) (hb : Below B w w') (hB : w.heap.size ≤ B) : w'.ownsRow base e 1 v n xs := by
  obtain ⟨h1, h2⟩ := h
  refine ⟨h1, h2.imp id ?_⟩
  rintro ⟨g, cap, cur, hv, hbg, hg, r⟩
  have hlt : g < w.heap.size := by
    rcases Nat.lt_or_ge g w.heap.size with hl | hl
    · exact hl
    · rw [Array.getElem?_eq_none hl] at hg; cases hg
  exact ⟨g, cap, cur, hv, hbg, (hb.block g (Nat.lt_of_lt_of_le hlt hB)).trans hg, r⟩
theorem own_form {w : World} {base n : Nat} {e : TypeId} {v : Value} {zs : List Int} (h : w.ownsRow base e 1 v n (zs.map (.int .u8))) (hn : 0 < n) (hz : Bytes zs) :
    ∃ g cap, v = .slice (some ⟨g, 0, none⟩) n cap ∧ base ≤ g ∧ g < w.heap.size ∧ RowAt w g 0 zs ∧ n ≤ cap ∧ cap ≤ maxLen := by
  rcases h.2 with ⟨_, h'⟩ | ⟨g, cap, cur, rfl, hb, hg, hc, hm, _⟩
  · omega
  · exact ⟨g, cap, rfl, hb, (own_lt h).2, .of_own h hz, hc, hm⟩
theorem RowAt.cell0 {w : World} {b : Nat} {zs : List Int} (h : RowAt w b 0 zs) (i : Nat) (hi : i < zs.length) : w.cell? ⟨b, i, none⟩ = some (.int .u8 (zs.getD i 0)) := by
  have := h.1 i hi
  rwa [Nat.zero_add] at this
theorem RowAt.take {w : World} {b off : Nat} {zs : List Int} (h : RowAt w b off zs) (n : Nat) : RowAt w b off (zs.take n) := by
  refine ⟨fun i hi => ?_, Bytes.take h.2 n⟩
  rw [List.length_take] at hi
  rw [h.1 i (by omega)]
  congr 2
  rw [List.getD_eq_getElem?_getD, List.getD_eq_getElem?_getD, List.getElem?_take, if_pos (by omega)]
theorem RowAt.drop {w : World} {b off : Nat} {zs : List Int} (h : RowAt w b off zs) (n : Nat) : RowAt w b (off + n) (zs.drop n) := by
  refine ⟨fun i hi => ?_, Bytes.drop h.2 n⟩
  rw [List.length_drop] at hi
  have := h.1 (n + i) (by omega)
  rw [← Nat.add_assoc] at this
  rw [this]
  congr 2
  rw [List.getD_eq_getElem?_getD, List.getD_eq_getElem?_getD, List.getElem?_drop]

theorem belT {w0 w1 w2 : World} (h : Below w0.heap.size w0 w1) (h' : Below w1.heap.size w1 w2) : Below w0.heap.size w0 w2 := h.trans (h'.mono h.size)
theorem BytesIn.bytes {w : World} {a : Option Addr} {zs : List Int} (h : BytesIn w a zs) : Bytes zs := by
  rcases h with h | ⟨_, _, _, _, h⟩
  · rw [h]; exact fun z hz => by simp at hz
  · exact h.2

/-- block g alone has turned -/
def Turned (w w' : World) (g : Nat) : Prop := ∃ cs, w' = w.setRow g cs
theorem Turned.below {w w' : World} {g : Nat} (h : Turned w w' g) {B : Nat} (hB : B ≤ g) : Below B w w' := by
  obtain ⟨cs, rfl⟩ := h
  exact below_setRow (Below.refl _ _) hB cs
theorem Turned.other {w w' : World} {g : Nat} (h : Turned w w' g) {k : Nat} (hk : k ≠ g) : w'.heap[k]? = w.heap[k]? := by
  obtain ⟨cs, rfl⟩ := h
  exact setRow_other w g k cs (by omega)
theorem Turned.size {w w' : World} {g : Nat} (h : Turned w w' g) : w'.heap.size = w.heap.size := by
  obtain ⟨cs, rfl⟩ := h
  exact size_setRow w g cs
theorem ArrAt.turned {w w' : World} {g k : Nat} {T : TypeId} {zs : List Int} (h : ArrAt w k T zs) (ht : Turned w w' g) (hk : k ≠ g) : ArrAt w' k T zs := ⟨(ht.other hk).trans h.1, h.2⟩
theorem RowAt.turned {w w' : World} {g k off : Nat} {zs : List Int} (h : RowAt w k off zs) (ht : Turned w w' g) (hk : k ≠ g) : RowAt w' k off zs :=
  ⟨fun i hi => (World.cell?_of_block (ht.other (k := k) hk)).trans (h.1 i hi), h.2⟩

theorem ArrAt.set {w : World} {g : Nat} {T : TypeId} {zs : List Int} (h : ArrAt w g T zs) (i : Nat) {d : Int} (hd : 0 ≤ d ∧ d ≤ 255) : ArrAt (w.setCell ⟨g, i, none⟩ (.int .u8 d)) g T (zs.set i d) := by
  refine ⟨?_, h.2.set i hd⟩
  rw [heap_setCell_same w g i (arr zs) T (.int .u8 d) h.1]
  congr 2
  apply Array.ext'
  simp [arr]
theorem ArrAt.frozen {w : World} {g : Nat} {T : TypeId} {zs : List Int} (h : ArrAt w g T zs) (i : Nat) : w.frozen? ⟨g, i, none⟩ = false := frozen_of_row w g i (arr zs) T h.1

section
variable {P : Program} {w : World} {ops : Array Oper} {rest : List Oper} {o : Oper} {a : Act} {Q : Exit → Act → World → Prop}

/-- what a walk asks of an array's type -/
def ArrT (P : Program) (T e : TypeId) (n : Nat) : Prop :=
  P.underlying T = some (.array n e) ∧ (P.info? T).map (fun i => (i.zero, i.size)) = some (some (.agg (arr (zeros n))), n) ∧ P.underlying e = some (.int .u8) ∧ (P.info? e).map (fun i => (i.zero, i.size, i.bytes)) = some (some (.int .u8 0), 1, 1)
theorem ArrT.zero {T e : TypeId} {n : Nat} (h : ArrT P T e n) (w : World) : (zeroValue T).run P w = .ok (.agg (arr (zeros n))) w := (zero_of_info h.2.1).1 w
theorem ArrT.size {T e : TypeId} {n : Nat} (h : ArrT P T e n) : (P.info? T).map (·.size) = some n := (zero_of_info h.2.1).2
theorem ArrT.elem {T e : TypeId} {n : Nat} (h : ArrT P T e n) : (P.info? e).map (·.size) = some 1 := by
  have := h.2.2.2
  cases hq : P.info? e with
  | none => simp [hq] at this
  | some i => simp [hq] at this; simp [this.2.1]

/-- a new variable of an array -/
theorem wpList_alloc_arr (hgd : o.guard = none) (T e : TypeId) (n : Nat) (hT : ArrT P T e n) (ho : o.op = .alloc T)
    (K : ∀ w', ArrAt w' w.heap.size T (zeros n) → Below w.heap.size w w' → wpList P ops Q rest (a.put o.dst (.pointer (some ⟨w.heap.size, 0, none⟩))) w') : wpList P ops Q (o :: rest) a w := by
  refine wpList_plain hgd fun K' hK => ?_
  unfold Oper.wp
  simp [execOp, ho, Instr.alloc, hT.zero, newVar, newRow, Result.andThen, Value.cells]
  exact hK _ _ (K _ ⟨heap_alloc_new w _, zeros_bytes n⟩ ((Below.refl _ _).alloc (Nat.le_refl _) _))

/-- a variable for an array that came by value -/
theorem wpList_box_arr (hgd : o.guard = none) (T : TypeId) (x : Operand) (ho : o.op = .box T x) (zs : List Int) (hx : a.eval x = .agg (arr zs)) (hz : Bytes zs)
    (K : ∀ w', ArrAt w' w.heap.size T zs → Below w.heap.size w w' → wpList P ops Q rest (a.put o.dst (.pointer (some ⟨w.heap.size, 0, none⟩))) w') : wpList P ops Q (o :: rest) a w := by
  refine wpList_plain hgd fun K' hK => ?_
  unfold Oper.wp
  simp [execOp, ho, hx, Instr.box, newVar, newRow, Result.andThen, Value.cells]
  exact hK _ _ (K _ ⟨heap_alloc_new w _, hz⟩ ((Below.refl _ _).alloc (Nat.le_refl _) _))

/-- an array of zeros -/
theorem wpList_build_arr (hgd : o.guard = none) (T e : TypeId) (n : Nat) (hT : ArrT P T e n) (ho : o.op = .build T #[])
    (K : wpList P ops Q rest (a.put o.dst (.agg (arr (zeros n)))) w) : wpList P ops Q (o :: rest) a w := by
  refine wpList_plain hgd fun K' hK => ?_
  unfold Oper.wp
  simp [execOp, ho, Instr.build, hT.zero, run_underlying hT.1, Result.andThen, Value.cells, Instr.fill, sizeOf, typeInfo]
  have := hT.elem
  cases hq : P.info? e with
  | none => simp [hq] at this
  | some i =>
    simp
    exact hK _ _ K

theorem run_load_arr {T e : TypeId} {n : Nat} (hT : ArrT P T e n) (b off : Nat) (zs : List Int) (hr : RowAt w b off zs) (hl : zs.length = n) :
    (loadVar T ⟨b, off, none⟩).run P w = .ok (.agg (arr zs)) w := by
  have hll := run_loadCells_list (P := P) w ⟨b, off, none⟩ (zs.map (.int .u8)) (fun j u hj => hr.news j u hj)
  rw [List.length_map, hl] at hll
  have hs := hT.size
  cases hq : P.info? T with
  | none => simp [hq] at hs
  | some i =>
    have hs : i.size = n := by simpa [hq] using hs
    have hagg : (isAgg T).run P w = .ok true w := by
      unfold isAgg
      rw [Sem.run_bind, run_underlying hT.1 w]
      simp
    simp [loadVar, Sem.run_bind, hagg, sizeOf, typeInfo, hq, hs, hll]
    rfl

/-- the array that lies at an address -/
theorem wpList_load_arr (hgd : o.guard = none) (T e : TypeId) (n : Nat) (hT : ArrT P T e n) (x : Operand) (ho : o.op = .load T x) (b off : Nat) (hx : a.eval x = .pointer (some ⟨b, off, none⟩))
    (zs : List Int) (hr : RowAt w b off zs) (hl : zs.length = n) (K : wpList P ops Q rest (a.put o.dst (.agg (arr zs))) w) : wpList P ops Q (o :: rest) a w := by
  refine wpList_plain hgd fun K' hK => ?_
  unfold Oper.wp execOp
  simp only [ho, hx, Instr.loadAt, Instr.sureAddr, Sem.run_bind, Sem.run_pure, Result.andThen_ok, run_load_arr hT b off zs hr hl]
  exact hK _ _ K

/-- the same as one step of a quiet region -/
theorem quiet_load_arr {C : World → Prop} {K : Act → Prop} (T e : TypeId) (n : Nat) (hT : ArrT P T e n) (x : Operand) (ho : o.op = .load T x) (b off : Nat) (hx : a.eval x = .pointer (some ⟨b, off, none⟩))
    (zs : List Int) (hr : ∀ w, C w → RowAt w b off zs) (hl : zs.length = n) (hk : K (a.put o.dst (.agg (arr zs)))) : o.quiet P a C K :=
  ⟨_, fun w hw => by
    unfold Oper.quietAt execOp
    simp only [ho, hx, Instr.loadAt, Instr.sureAddr, Sem.run_bind, Sem.run_pure, Result.andThen_ok, run_load_arr hT b off zs (hr w hw) hl]
    exact ⟨rfl, rfl⟩, hk⟩

/-- a slice as an array -/
theorem run_arrayAt {T e : TypeId} {n : Nat} (hT : ArrT P T e n) (x : Option Addr) (len cap : Nat) (hl : n ≤ len) : (Instr.arrayAt T (.slice x len cap)).run P w = .ok (.pointer x) w := by
  simp [Instr.arrayAt, run_underlying hT.1, Nat.not_lt.2 hl]

/-- an array into its variable -/
theorem wpList_store_arr (hgd : o.guard = none) (T e : TypeId) (n : Nat) (hT : ArrT P T e n) (x y : Operand) (ho : o.op = .store T x y) (g : Nat) (hx : a.eval x = .pointer (some ⟨g, 0, none⟩))
    (zs : List Int) (hy : a.eval y = .agg (arr zs)) (hz : Bytes zs) (hl : zs.length = n) (T' : TypeId) (old : List Int) (hg : ArrAt w g T' old) (hol : old.length = n)
    (K : ∀ w', ArrAt w' g T' zs → Turned w w' g → wpList P ops Q rest (a.put o.dst undef) w') : wpList P ops Q (o :: rest) a w := by
  refine wpList_store_row hgd T x y ho g (arr zs) hx hy T' (arr old) hg.1 (by rw [hT.size, arr_size, hl]) (by rw [arr_size, arr_size, hl, hol]) (arr_one zs) ?_
  exact K _ ⟨setRow_heap w g _ _ T' _ hg.1, hz⟩ ⟨_, rfl⟩

/-- ys laid over zs from off on -/
def lay (zs : List Int) (off : Nat) (ys : List Int) : List Int := zs.take off ++ (ys ++ zs.drop (off + ys.length))
theorem lay_length (zs : List Int) (off : Nat) (ys : List Int) (h : off + ys.length ≤ zs.length) : (lay zs off ys).length = zs.length := by simp [lay]; omega
theorem lay_bytes {zs ys : List Int} (off : Nat) (hz : Bytes zs) (hy : Bytes ys) : Bytes (lay zs off ys) := (hz.take off).append (hy.append (hz.drop _))

theorem setRow_lay (w : World) (g : Nat) (T : TypeId) (zs : List Int) (off : Nat) (ys : List Int) (hg : ArrAt w g T zs) (hy : Bytes ys) :
    ArrAt (w.setRow g ((arr zs).toList.take off ++ (ys.map (Value.int .u8)) ++ (arr zs).toList.drop (off + ys.length)).toArray) g T (lay zs off ys) := by
  refine ⟨?_, lay_bytes off hg.2 hy⟩
  rw [setRow_heap w g _ _ T _ hg.1]
  simp [arr, lay]

/-- 'copy(a[off:], s)' into an array of the call's own -/
theorem wpList_copy_arr_str (hgd : o.guard = none) (d x : Operand) (dT sT : TypeId) (ho : o.op = .call { callee := .builtin .copy, args := #[d, x], argTypes := #[dT, sT] })
    (e : TypeId) (hT : P.underlying dT = some (.slice e)) (he : (P.info? e).map (·.size) = some 1)
    (g off n cap : Nat) (hd : a.eval d = .slice (some ⟨g, off, none⟩) n cap) (s : ByteArray) (hx : a.eval x = .string s) (T : TypeId) (zs : List Int) (hg : ArrAt w g T zs) (hl : s.size ≤ n) (hfit : off + s.size ≤ zs.length)
    (K : ∀ w', ArrAt w' g T (lay zs off (numsOf s)) → Turned w w' g → wpList P ops Q rest (a.put o.dst (goInt s.size)) w') : wpList P ops Q (o :: rest) a w := by
  refine wpList_plain hgd fun K' hK => ?_
  have hlen : ((numsOf s).map (Value.int .u8)).length = s.size := by rw [List.length_map, numsOf_length]
  have hst := run_storeCells_at P g off T ((numsOf s).map (Value.int .u8)) 0 (arr zs) w hg.1 (by rw [hlen, arr_size]; omega) (one_map _ _)
  have hmin : Nat.min s.size n = s.size := Nat.min_eq_left hl
  have htk : List.take s.size (List.map (fun b : UInt8 => Value.int IntKind.u8 (b.toNat : Int)) s.data.toList) = (numsOf s).map (Value.int .u8) := by
    rw [List.take_of_length_le (by rw [List.length_map]; exact Nat.le_refl _), numsOf_eq, List.map_map]
    rfl
  rw [Nat.add_zero, List.length_map] at hst
  have hrun : (Builtin.copy_ #[dT, sT] o.type #[.slice (some ⟨g, off, none⟩) n cap, .string s]).run P w = .ok (goInt s.size) (w.setRow g ((arr zs).toList.take off ++ ((numsOf s).map (Value.int .u8)) ++ (arr zs).toList.drop (off + (numsOf s).length)).toArray) := by
    cases hq : P.info? e with
    | none => simp [hq] at he
    | some i =>
      have hs : i.size = 1 := by simpa [hq] using he
      simp [Builtin.copy_, run_underlying hT, Builtin.lenOf, Builtin.firstCells, sizeOf, typeInfo, hq, hmin]
      rw [htk, hst]
      simp [Result.andThen, numsOf_length]
  unfold Oper.wp
  simp [execOp, ho, resolve, invoke, builtin, hd, hx, hrun, Result.andThen]
  exact hK _ _ (K _ (by simpa using setRow_lay w g T zs off (numsOf s) hg (numsOf_bd s)) ⟨_, rfl⟩)

/-- 'copy(a[off:], b)' into an array (or a row) of the call's own -/
theorem wpList_copy_arr (hgd : o.guard = none) (d x : Operand) (dT sT : TypeId) (ho : o.op = .call { callee := .builtin .copy, args := #[d, x], argTypes := #[dT, sT] })
    (e : TypeId) (hT : P.underlying dT = some (.slice e)) (he : (P.info? e).map (·.size) = some 1)
    (g off n cap : Nat) (hd : a.eval d = .slice (some ⟨g, off, none⟩) n cap) (b : Option Addr) (m c : Nat) (hx : a.eval x = .slice b m c) (ys : List Int) (hy : BytesIn w b ys) (hm : ys.length = m)
    (T : TypeId) (zs : List Int) (hg : ArrAt w g T zs) (hfit : off + n ≤ zs.length)
    (K : ∀ w', ArrAt w' g T (lay zs off (ys.take n)) → Turned w w' g → wpList P ops Q rest (a.put o.dst (goInt (ys.take n).length)) w') : wpList P ops Q (o :: rest) a w := by
  have hmn : (ys.take n).length = Nat.min m n := by rw [List.length_take, hm]; exact Nat.min_comm _ _
  by_cases h0 : Nat.min m n = 0
  · refine wpList_copy_nothing hgd d x dT sT ho e hT he _ _ _ _ _ _ hd hx h0 ?_
    have e0 : ys.take n = [] := List.eq_nil_of_length_eq_zero (hmn.trans h0)
    have := K w (by rw [e0]; simpa [lay] using hg) ⟨arr zs, (setRow_self w g (arr zs) T (0, 0) hg.1).symm⟩
    rw [e0] at this
    exact this
  · rcases hy with hy | ⟨b', off', rfl, _, hr⟩
    · exfalso; apply h0; rw [← hm, hy]; exact Nat.zero_min _
    · have hk := wpList_copy_own (P := P) (w := w) (ops := ops) (rest := rest) (o := o) (a := a) (Q := Q) hgd d x dT sT ho e hT he g off n cap ⟨b', off', none⟩ m c hd hx (arr zs) T hg.1 ((ys.take n).map (Value.int .u8)) (by rw [List.length_map]; exact hmn)
        (fun j v hj => hr.news j v (by
          rw [List.map_take, List.getElem?_take] at hj
          split at hj
          · exact hj
          · cases hj)) (by rw [List.length_map, arr_size, List.length_take]; omega) (one_map _ _)
      rw [List.length_map] at hk
      refine hk (K _ ?_ ⟨_, rfl⟩)
      have := setRow_lay w g T zs off (ys.take n) hg (Bytes.take hr.2 n)
      simpa using this

/-- 'make([]byte, n)' -/
theorem wpList_make_arr (hgd : o.guard = none) (l c : Operand) (t e : TypeId) (ho : o.op = .makeSlice t l c) (ht : P.underlying t = some (.slice e)) (i0 : TypeInfo) (hI : Hid (P.info? e = some i0 ∧ i0.zero = some (.int .u8 0) ∧ i0.size = 1 ∧ i0.bytes = 1))
    (n : Nat) (hl : a.eval l = .int .i64 n) (hc : a.eval c = .int .i64 n) (hn : n ≤ 140737488355328)
    (K : ∀ w', ArrAt w' w.heap.size e (zeros n) → Below w.heap.size w w' → wpList P ops Q rest (a.put o.dst (.slice (some ⟨w.heap.size, 0, none⟩) n n)) w') : wpList P ops Q (o :: rest) a w := by
  refine wpList_make_full w hgd l c t ho w.heap.size e i0 (.int .u8 0) 1 ht hI.out.1 hI.out.2.1 hI.out.2.2.1 .i64 .i64 n n n hl hc rfl rfl (by rw [hI.out.2.2.2]; omega) (by unfold maxLen; omega) (Nat.le_refl _) ?_
  intro w' h1 h2
  have hm : (madeCells (Value.int .u8 0).cells (n * 1)).toList = (zeros n).map (.int .u8) := by
    apply List.ext_getElem?
    intro i
    by_cases h : i < n <;> simp [zeros, madeCells, Value.cells, h, Nat.mod_one]
  rw [hm] at h1
  exact K w' (.of_own h1 (zeros_bytes n)) ((Below.refl _ _).grown h2 (Nat.le_refl _) (fun _ h => by cases h))

/-- '[]byte{}' -/
theorem wpList_lit_none (hgd : o.guard = none) (t e : TypeId) (ho : o.op = .buildSlice t 0 #[]) (ht : P.underlying t = some (.slice e)) (he : (P.info? e).map (·.size) = some 1)
    (K : ∀ w', w'.ownsRow w.heap.size e 1 (.slice (some ⟨w.heap.size, 0, none⟩) 0 0) 0 (([] : List Int).map (.int .u8)) → Below w.heap.size w w' → wpList P ops Q rest (a.put o.dst (.slice (some ⟨w.heap.size, 0, none⟩) 0 0)) w') : wpList P ops Q (o :: rest) a w := by
  refine wpList_plain hgd fun K' hK => ?_
  cases hq : P.info? e with
  | none => simp [hq] at he
  | some i =>
    have hrun : (Instr.buildSlice t 0 #[]).run P w = .ok (.slice (some ⟨w.heap.size, 0, none⟩) 0 0) (w.alloc (.cells #[] e)) := by
      simp [Instr.buildSlice, run_underlying ht, sizeOf, typeInfo, hq, Instr.fill, newRow]
      rw [show Array.range 0 = #[] by decide, Array.map_empty]
    unfold Oper.wp
    simp [execOp, ho, hrun, Result.andThen]
    exact hK _ _ (K _ (World.ownsRow_lit w #[] 0 (Nat.le_refl _) (Nat.zero_le _) rfl) ((Below.refl _ _).alloc (Nat.le_refl _) _))

/-- '[]byte{c}' -/
theorem wpList_lit_one (hgd : o.guard = none) (t e : TypeId) (x : Operand) (ho : o.op = .buildSlice t 1 #[(0, x)]) (ht : P.underlying t = some (.slice e)) (hI : (P.info? e).map (fun i => (i.zero, i.size, i.bytes)) = some (some (.int .u8 0), 1, 1))
    (c : Int) (hx : a.eval x = .int .u8 c) (hc : 0 ≤ c ∧ c ≤ 255)
    (K : ∀ w', ArrAt w' w.heap.size e [c] → Below w.heap.size w w' → wpList P ops Q rest (a.put o.dst (.slice (some ⟨w.heap.size, 0, none⟩) 1 1)) w') : wpList P ops Q (o :: rest) a w := by
  refine wpList_plain hgd fun K' hK => ?_
  cases hq : P.info? e with
  | none => simp [hq] at hI
  | some i =>
    simp [hq] at hI
    have hrun : (Instr.buildSlice t 1 #[(0, .int .u8 c)]).run P w = .ok (.slice (some ⟨w.heap.size, 0, none⟩) 1 1) (w.alloc (.cells #[.int .u8 c] e)) := by
      simp [Instr.buildSlice, run_underlying ht, sizeOf, typeInfo, zeroValue, hq, hI.1, hI.2.1, Instr.fill, newRow, Value.cells]
      rw [show Array.range 1 = #[0] by decide]; simp
    unfold Oper.wp
    simp [execOp, ho, hx, hrun, Result.andThen]
    refine hK _ _ (K _ ⟨heap_alloc_new w _, fun z hz => ?_⟩ ((Below.refl _ _).alloc (Nat.le_refl _) _))
    obtain rfl : z = c := by simpa using hz
    exact hc

/-- a slice of two one-cell values -/
theorem wpList_lit_two (hgd : o.guard = none) (t e : TypeId) (x y : Operand) (ho : o.op = .buildSlice t 2 #[(0, x), (1, y)]) (ht : P.underlying t = some (.slice e)) (z : Value) (hI : (P.info? e).map (fun i => (i.zero, i.size)) = some (some z, 1))
    (u v : Value) (hx : a.eval x = u) (hy : a.eval y = v) (hu : u.cells = #[u]) (hv : v.cells = #[v]) (hz : z.cells = #[z])
    (K : ∀ w', w'.heap[w.heap.size]? = some (.cells #[u, v] e (0, 0)) → Below w.heap.size w w' → wpList P ops Q rest (a.put o.dst (.slice (some ⟨w.heap.size, 0, none⟩) 2 2)) w') : wpList P ops Q (o :: rest) a w := by
  refine wpList_plain hgd fun K' hK => ?_
  cases hq : P.info? e with
  | none => simp [hq] at hI
  | some i =>
    simp [hq] at hI
    have hrun : (Instr.buildSlice t 2 #[(0, u), (1, v)]).run P w = .ok (.slice (some ⟨w.heap.size, 0, none⟩) 2 2) (w.alloc (.cells #[u, v] e)) := by
      simp [Instr.buildSlice, run_underlying ht, sizeOf, typeInfo, zeroValue, hq, hI.1, hI.2, Instr.fill, newRow, hu, hv, hz]
      rw [show Array.range 2 = #[0, 1] by decide]; simp
    unfold Oper.wp
    simp [execOp, ho, hx, hy, hrun, Result.andThen]
    exact hK _ _ (K _ (heap_alloc_new w _) ((Below.refl _ _).alloc (Nat.le_refl _) _))

/-- an array's byte -/
theorem run_index_arr {T e : TypeId} {n : Nat} (hT : ArrT P T e n) (zs : List Int) (hl : zs.length = n) (i : Nat) (hi : i < n) :
    (Instr.index T (.agg (arr zs)) (.int .i64 i)).run P w = .ok (.int .u8 (zs.getD i 0)) w := by
  have he := hT.elem
  have hagg : (isAgg e).run P w = .ok false w := by
    unfold isAgg
    rw [Sem.run_bind, run_underlying hT.2.2.1 w]
    simp
  cases hq : P.info? e with
  | none => simp [hq] at he
  | some j =>
    have hs : j.size = 1 := by simpa [hq] using he
    have hg := arr_get (zs := zs) (i := i) (by omega)
    simp [Instr.index, asIntOf, run_underlying hT.1, hi, sizeOf, typeInfo, hq, hs, part, hagg, hg]

theorem run_eqItems_arr (d : Nat) {e : TypeId} (he : P.underlying e = some (.int .u8)) (xs ys : List Int) (hl : xs.length = ys.length) : ∀ (m k : Nat), k + m = xs.length →
    (Op.eqItems (d + 1) e 1 (arr xs) (arr ys) (List.range' k m)).run P w = .ok (decide (xs.drop k = ys.drop k)) w
  | 0, k, h => by
    rw [List.drop_eq_nil_of_le (by omega), List.drop_eq_nil_of_le (by omega)]
    simp [Op.eqItems]
  | m + 1, k, h => by
    have ih := run_eqItems_arr d he xs ys hl m (k + 1) (by omega)
    have hagg : (isAgg e).run P w = .ok false w := by
      unfold isAgg
      rw [Sem.run_bind, run_underlying he w]
      simp
    have hx : xs.drop k = xs.getD k 0 :: xs.drop (k + 1) := by
      rw [List.drop_eq_getElem_cons (by omega), List.getD_eq_getElem?_getD, List.getElem?_eq_getElem (by omega)]; rfl
    have hy : ys.drop k = ys.getD k 0 :: ys.drop (k + 1) := by
      rw [List.drop_eq_getElem_cons (by omega), List.getD_eq_getElem?_getD, List.getElem?_eq_getElem (by omega)]; rfl
    rw [List.range'_succ, hx, hy]
    simp only [Op.eqItems, part, Sem.run_bind, hagg, Result.andThen_ok, Nat.mul_one, arr_get (show k < xs.length by omega), arr_get (show k < ys.length by omega), Sem.run_pure, Bool.false_eq_true, if_false, Sem.run_ite]
    rw [run_equalIn_int w d e .u8 .u8 _ _ he]
    simp only [Result.andThen_ok]
    by_cases hc : xs.getD k 0 = ys.getD k 0
    · have hb : (xs.getD k 0 == ys.getD k 0) = true := by simpa using hc
      rw [hb]
      simp only [Bool.not_true, Bool.false_eq_true, if_false, ih]
      rw [hc]
      simp
    · have hb : (xs.getD k 0 == ys.getD k 0) = false := by simpa using hc
      rw [hb]
      simp only [Bool.not_false, if_true]
      have : ¬ (xs.getD k 0 :: xs.drop (k + 1) = ys.getD k 0 :: ys.drop (k + 1)) := fun e => hc (List.cons.inj e).1
      rw [decide_eq_false this]

/-- two arrays are compared -/
theorem run_neq_arr {T e : TypeId} {n : Nat} (hT : ArrT P T e n) (xs ys : List Int) (hx : xs.length = n) (hy : ys.length = n) :
    (binOp .neq T (.agg (arr xs)) (.agg (arr ys))).run P w = .ok (.bool (!decide (xs = ys))) w := by
  rw [run_neq_struct w T]
  have he := hT.elem
  cases hq : P.info? e with
  | none => simp [hq] at he
  | some i =>
    have hs : P.cellsOf e = 1 := by simpa [Program.cellsOf, hq] using he
    rw [run_equalIn_array w 9999 _ _ hT.1 hq, hs, List.range_eq_range', run_eqItems_arr 9998 hT.2.2.1 xs ys (by omega) n 0 (by omega)]
    simp [Result.andThen]

/-- the results are an array's variable and a slot -/
theorem results_arr_tmp {fn : Func} {p q : Tmp} {T e : TypeId} {n : Nat} (h : fn.results = #[.cell p T, .tmp q]) (hT : ArrT P T e n) (tmps : Array Value) (g : Nat) (hp : tmps.getD p undef = .pointer (some ⟨g, 0, none⟩))
    (T' : TypeId) (zs : List Int) (hg : ArrAt w g T' zs) (hl : zs.length = n) : (results fn tmps).run P w = .ok (.tuple #[.agg (arr zs), tmps.getD q undef]) w := by
  have hp' : tmps[p]?.getD undef = .pointer (some ⟨g, 0, none⟩) := by simpa using hp
  simp [results, h, hp', asAddr, run_load_arr hT g 0 zs hg.row hl]
theorem results_arr {fn : Func} {p : Tmp} {T e : TypeId} {n : Nat} (h : fn.results = #[.cell p T]) (hT : ArrT P T e n) (tmps : Array Value) (g : Nat) (hp : tmps.getD p undef = .pointer (some ⟨g, 0, none⟩))
    (T' : TypeId) (zs : List Int) (hg : ArrAt w g T' zs) (hl : zs.length = n) : (results fn tmps).run P w = .ok (.agg (arr zs)) w := by
  have hp' : tmps[p]?.getD undef = .pointer (some ⟨g, 0, none⟩) := by simpa using hp
  simp [results, h, hp', asAddr, run_load_arr hT g 0 zs hg.row hl]
end
end Go.Proofs.YthcbiohmghaobaaDoor
/-
  Objects: structs behind pointers, known whole; integers of any kind in a slice; what a call may turn besides new memory. Nothing of the program.
-/
namespace Go.Proofs.YthcbiohmghaobaaDoor
open Go.RowKit

/-- outside of the blocks lo .. hi nothing that was there has turned -/
structure Out (lo hi : Nat) (w w' : World) : Prop where
  os : w'.os = w.os
  tape : w'.tape = w.tape
  output : w'.output = w.output
  size : w.heap.size ≤ w'.heap.size
  block : ∀ k, k < w.heap.size → (k < lo ∨ hi ≤ k) → w'.heap[k]? = w.heap[k]?
theorem Out.refl (lo hi : Nat) (w : World) : Out lo hi w w := ⟨rfl, rfl, rfl, Nat.le_refl _, fun _ _ _ => rfl⟩
theorem Out.trans {lo hi : Nat} {a b c : World} (h : Out lo hi a b) (k : Out lo hi b c) : Out lo hi a c :=
  ⟨k.os.trans h.os, k.tape.trans h.tape, k.output.trans h.output, Nat.le_trans h.size k.size, fun i hi hj => (k.block i (Nat.lt_of_lt_of_le hi h.size) hj).trans (h.block i hi hj)⟩
theorem Out.of_below {lo hi B : Nat} {w w' : World} (h : Below B w w') (hB : w.heap.size ≤ B) : Out lo hi w w' := ⟨h.os, h.tape, h.output, h.size, fun k hk _ => h.block k (Nat.lt_of_lt_of_le hk hB)⟩
theorem Out.below {lo hi B : Nat} {w w' : World} (h : Out lo hi w w') (hB : B ≤ lo) (hw : B ≤ w.heap.size) : Below B w w' := ⟨h.os, h.tape, h.output, h.size, fun k hk => h.block k (Nat.lt_of_lt_of_le hk hw) (.inl (Nat.lt_of_lt_of_le hk hB))⟩
theorem Out.drew {lo hi : Nat} {a w : World} (h : Out lo hi a w) : Out lo hi a w.drew := ⟨h.os, h.tape, h.output, h.size, h.block⟩
theorem Out.setCell {lo hi : Nat} {a w : World} (h : Out lo hi a w) {p : Addr} (h1 : lo ≤ p.block) (h2 : p.block < hi) (v : Value) : Out lo hi a (w.setCell p v) :=
  ⟨h.os, h.tape, h.output, by simpa [World.setCell] using h.size, fun k hk hj => (Below.heap_setCell w p v k (by omega)).trans (h.block k hk hj)⟩
theorem Out.turned {lo hi g : Nat} {w w' : World} (h : Turned w w' g) (h1 : lo ≤ g) (h2 : g < hi) : Out lo hi w w' := by
  have hs := h.size
  have ho := fun k => h.other (k := k)
  obtain ⟨cs, rfl⟩ := h
  exact ⟨rfl, rfl, rfl, by omega, fun k _ hj => ho k (by omega)⟩
theorem Out.wide {lo hi lo' hi' : Nat} {w w' : World} (h : Out lo hi w w') (h1 : lo' ≤ lo) (h2 : hi ≤ hi') : Out lo' hi' w w' := ⟨h.os, h.tape, h.output, h.size, fun k hk hj => h.block k hk (by omega)⟩

/-- block g is just these cells -/
def ObjAt (w : World) (g : Nat) (T : TypeId) (vs : List Value) : Prop := w.heap[g]? = some (.cells vs.toArray T (0, 0))
theorem ObjAt.lt {w : World} {g : Nat} {T : TypeId} {vs : List Value} (h : ObjAt w g T vs) : g < w.heap.size := by
  rcases Nat.lt_or_ge g w.heap.size with hl | hl
  · exact hl
  · rw [ObjAt, Array.getElem?_eq_none hl] at h; cases h
theorem ObjAt.block {w w' : World} {g : Nat} {T : TypeId} {vs : List Value} (h : ObjAt w g T vs) (e : w'.heap[g]? = w.heap[g]?) : ObjAt w' g T vs := e.trans h
theorem ObjAt.below {w w' : World} {B g : Nat} {T : TypeId} {vs : List Value} (h : ObjAt w g T vs) (hb : Below B w w') (hg : g < B) : ObjAt w' g T vs := (hb.block g hg).trans h
theorem ObjAt.out {w w' : World} {lo hi g : Nat} {T : TypeId} {vs : List Value} (h : ObjAt w g T vs) (ho : Out lo hi w w') (hg : g < lo ∨ hi ≤ g) : ObjAt w' g T vs := (ho.block g h.lt hg).trans h
theorem ObjAt.turned {w w' : World} {g k : Nat} {T : TypeId} {vs : List Value} (h : ObjAt w k T vs) (ht : Turned w w' g) (hk : k ≠ g) : ObjAt w' k T vs := (ht.other hk).trans h
theorem ObjAt.cell {w : World} {g : Nat} {T : TypeId} {vs : List Value} (h : ObjAt w g T vs) (i : Nat) : w.cell? ⟨g, i, none⟩ = vs[i]? := by
  rw [cell_of_row w g i _ _ _ h]; simp
theorem ObjAt.get {w : World} {g : Nat} {T : TypeId} {vs : List Value} (h : ObjAt w g T vs) (i : Nat) {v : Value} (hv : vs[i]? = some v) : w.cell? ⟨g, i, none⟩ = some v := (h.cell i).trans hv
theorem ObjAt.frozen {w : World} {g : Nat} {T : TypeId} {vs : List Value} (h : ObjAt w g T vs) (i : Nat) : w.frozen? ⟨g, i, none⟩ = false := frozen_of_row w g i _ T h
theorem ObjAt.set {w : World} {g : Nat} {T : TypeId} {vs : List Value} (h : ObjAt w g T vs) (i : Nat) (v : Value) : ObjAt (w.setCell ⟨g, i, none⟩ v) g T (vs.set i v) := by
  unfold ObjAt
  rw [Go.heap_setCell_same w g i vs.toArray T v h]
  congr 2
  simp
theorem ObjAt.set_other {w : World} {g k : Nat} {T : TypeId} {vs : List Value} (h : ObjAt w k T vs) (i : Nat) (v : Value) (hk : k ≠ g) : ObjAt (w.setCell ⟨g, i, none⟩ v) k T vs :=
  (Below.heap_setCell w ⟨g, i, none⟩ v k hk).trans h

/-- the integers zs are what the slice at a holds (a slice of none may lie anywhere) -/
def InK (k : IntKind) (w : World) (a : Option Addr) (zs : List Int) : Prop :=
  zs = [] ∨ ∃ b off, a = some ⟨b, off, none⟩ ∧ b < w.heap.size ∧ ∀ i, i < zs.length → w.cell? ⟨b, off + i, none⟩ = some (.int k (zs.getD i 0))
theorem ArgInts.inK {k : IntKind} {w : World} {a : Option Addr} {len cap : Nat} {zs : List Int} (h : ArgInts k w a len cap zs) : InK k w a zs := by
  obtain ⟨h1, _, _, _, h5⟩ := h
  rcases h5 with h5 | h5
  · exact .inl (List.length_eq_zero_iff.1 (h1.trans h5))
  · exact .inr h5
theorem BytesIn.inK {w : World} {a : Option Addr} {zs : List Int} (h : BytesIn w a zs) : InK .u8 w a zs := by
  rcases h with h | ⟨b, off, h1, h2, h3⟩
  · exact .inl h
  · exact .inr ⟨b, off, h1, h2, h3.1⟩
theorem InK.bytes {w : World} {a : Option Addr} {zs : List Int} (h : InK .u8 w a zs) (hz : Bytes zs) : BytesIn w a zs := by
  rcases h with h | ⟨b, off, h1, h2, h3⟩
  · exact .inl h
  · exact .inr ⟨b, off, h1, h2, h3, hz⟩
theorem InK.block {k : IntKind} {w w' : World} {a : Option Addr} {zs : List Int} (h : InK k w a zs) (hs : w.heap.size ≤ w'.heap.size) (e : ∀ x, a = some x → x.block < w.heap.size → w'.heap[x.block]? = w.heap[x.block]?) : InK k w' a zs := by
  rcases h with h | ⟨b, off, h1, h2, h3⟩
  · exact .inl h
  · exact .inr ⟨b, off, h1, Nat.lt_of_lt_of_le h2 hs, fun i hi => (World.cell?_of_block (a := ⟨b, off + i, none⟩) (show w'.heap[b]? = w.heap[b]? from e _ h1 h2)).trans (h3 i hi)⟩
theorem InK.below {k : IntKind} {w w' : World} {a : Option Addr} {zs : List Int} (h : InK k w a zs) (hb : Below w.heap.size w w') : InK k w' a zs := h.block hb.size fun _ _ h => hb.block _ h
theorem InK.out {k : IntKind} {w w' : World} {a : Option Addr} {zs : List Int} {lo hi : Nat} (h : InK k w a zs) (ho : Out lo hi w w') (e : ∀ x, a = some x → x.block < lo ∨ hi ≤ x.block) : InK k w' a zs := h.block ho.size fun x hx hl => ho.block _ hl (e x hx)
theorem InK.set {k : IntKind} {w : World} {a : Option Addr} {zs : List Int} {g i : Nat} (h : InK k w a zs) (v : Value) (e : ∀ x, a = some x → x.block ≠ g) : InK k (w.setCell ⟨g, i, none⟩ v) a zs :=
  h.block (by simp [World.setCell]) fun x hx _ => Below.heap_setCell w ⟨g, i, none⟩ v _ (e x hx)
theorem InK.get {k : IntKind} {w : World} {b off : Nat} {zs : List Int} (h : InK k w (some ⟨b, off, none⟩) zs) (i : Nat) (hi : i < zs.length) : w.cell? ⟨b, off + i, none⟩ = some (.int k (zs.getD i 0)) := by
  rcases h with h | ⟨b', off', h1, _, h3⟩
  · rw [h] at hi; cases hi
  · cases h1; exact h3 i hi
theorem InK.plain {k : IntKind} {w : World} {a : Option Addr} {zs : List Int} (h : InK k w a zs) (hp : 0 < zs.length) : ∃ b off, a = some ⟨b, off, none⟩ ∧ b < w.heap.size := by
  rcases h with h | ⟨b, off, h1, h2, _⟩
  · rw [h] at hp; cases hp
  · exact ⟨b, off, h1, h2⟩
theorem InK.of_own {k : IntKind} {w : World} {base g n cap : Nat} {e : TypeId} {zs : List Int} (h : w.ownsRow base e 1 (.slice (some ⟨g, 0, none⟩) n cap) n (zs.map (.int k))) : InK k w (some ⟨g, 0, none⟩) zs := by
  refine .inr ⟨g, 0, rfl, (own_lt h).2, fun i hi => ?_⟩
  have hl := h.1
  rw [List.length_map] at hl
  rw [Nat.zero_add, h.cellAt i (by omega), List.getElem?_map, List.getElem?_eq_getElem hi, List.getD_eq_getElem?_getD, List.getElem?_eq_getElem hi]
  rfl
theorem BytesIn.block {w w' : World} {a : Option Addr} {zs : List Int} (h : BytesIn w a zs) (hs : w.heap.size ≤ w'.heap.size) (e : ∀ x, a = some x → x.block < w.heap.size → w'.heap[x.block]? = w.heap[x.block]?) : BytesIn w' a zs := (h.inK.block hs e).bytes h.bytes
theorem BytesIn.out {w w' : World} {a : Option Addr} {zs : List Int} {lo hi : Nat} (h : BytesIn w a zs) (ho : Out lo hi w w') (e : ∀ x, a = some x → x.block < lo ∨ hi ≤ x.block) : BytesIn w' a zs := h.block ho.size fun x hx hl => ho.block _ hl (e x hx)
theorem BytesIn.set {w : World} {a : Option Addr} {zs : List Int} {g i : Nat} (h : BytesIn w a zs) (v : Value) (e : ∀ x, a = some x → x.block ≠ g) : BytesIn (w.setCell ⟨g, i, none⟩ v) a zs :=
  h.block (by simp [World.setCell]) fun x hx _ => Below.heap_setCell w ⟨g, i, none⟩ v _ (e x hx)
theorem BytesIn.take {w : World} {a : Option Addr} {zs : List Int} (h : BytesIn w a zs) (n : Nat) : BytesIn w a (zs.take n) := by
  rcases h with h | ⟨b, off, h1, h2, h3⟩
  · rw [h]; exact .inl (by simp)
  · exact .inr ⟨b, off, h1, h2, h3.take n⟩

section
variable {P : Program} {w : World} {ops : Array Oper} {rest : List Oper} {o : Oper} {a : Act} {Q : Exit → Act → World → Prop}

/-- a new variable for a struct that came by value -/
theorem wpList_box_obj (hgd : o.guard = none) (T : TypeId) (x : Operand) (ho : o.op = .box T x) (vs : List Value) (hx : a.eval x = .agg vs.toArray)
    (K : ∀ w', ObjAt w' w.heap.size T vs → Below w.heap.size w w' → wpList P ops Q rest (a.put o.dst (.pointer (some ⟨w.heap.size, 0, none⟩))) w') : wpList P ops Q (o :: rest) a w := by
  refine wpList_plain hgd fun K' hK => ?_
  unfold Oper.wp
  simp [execOp, ho, hx, Instr.box, newVar, newRow, Result.andThen, Value.cells]
  exact hK _ _ (K _ (heap_alloc_new w _) ((Below.refl _ _).alloc (Nat.le_refl _) _))

/-- a new variable of a struct -/
theorem wpList_alloc_obj (hgd : o.guard = none) (T : TypeId) (ho : o.op = .alloc T) (vs : List Value) (hz : (P.info? T).map (·.zero) = some (some (.agg vs.toArray)))
    (K : ∀ w', ObjAt w' w.heap.size T vs → Below w.heap.size w w' → wpList P ops Q rest (a.put o.dst (.pointer (some ⟨w.heap.size, 0, none⟩))) w') : wpList P ops Q (o :: rest) a w := by
  refine wpList_plain hgd fun K' hK => ?_
  cases hq : P.info? T with
  | none => simp [hq] at hz
  | some i =>
    simp [hq] at hz
    unfold Oper.wp
    simp [execOp, ho, Instr.alloc, zeroValue, typeInfo, hq, hz, newVar, newRow, Result.andThen, Value.cells]
    exact hK _ _ (K _ (heap_alloc_new w _) ((Below.refl _ _).alloc (Nat.le_refl _) _))

/-- a struct into its variable -/
theorem wpList_store_obj (hgd : o.guard = none) (T : TypeId) (x y : Operand) (ho : o.op = .store T x y) (g : Nat) (hx : a.eval x = .pointer (some ⟨g, 0, none⟩))
    (vs old : List Value) (hy : a.eval y = .agg vs.toArray) (T' : TypeId) (hg : ObjAt w g T' old) (hs : (P.info? T).map (·.size) = some vs.length) (hl : old.length = vs.length) (h1 : ∀ v ∈ vs, v.oneCell' = true)
    (K : ∀ w', ObjAt w' g T' vs → Turned w w' g → wpList P ops Q rest (a.put o.dst undef) w') : wpList P ops Q (o :: rest) a w := by
  refine wpList_store_row hgd T x y ho g vs.toArray hx hy T' old.toArray hg (by simpa using hs) (by simpa using hl) ?_ ?_
  · rw [Array.all_eq_true_iff_forall_mem]
    intro u hu
    exact h1 u (by simpa using hu)
  · exact K _ (setRow_heap w g _ _ T' _ hg) ⟨_, rfl⟩

theorem newsK {k : IntKind} {w : World} {b off : Nat} {zs : List Int} (h : ∀ i, i < zs.length → w.cell? ⟨b, off + i, none⟩ = some (.int k (zs.getD i 0))) : ∀ j u, (zs.map (Value.int k))[j]? = some u → w.cell? ((⟨b, off, none⟩ : Addr).add j) = some u := by
  intro j u hj
  have hl : j < zs.length := by
    rcases Nat.lt_or_ge j zs.length with h | h
    · exact h
    · rw [List.getElem?_eq_none (by simpa using h)] at hj; cases hj
  rw [add_plain', h j hl]
  rw [List.getElem?_map, List.getElem?_eq_getElem hl] at hj
  rw [List.getD_eq_getElem?_getD, List.getElem?_eq_getElem hl]
  exact hj

/-- what an append asks of the elements' type -/
def ElemT (P : Program) (e : TypeId) (k : IntKind) (B : Nat) : Prop := ∃ i0, P.info? e = some i0 ∧ i0.zero = some (.int k 0) ∧ i0.size = 1 ∧ i0.bytes = B
theorem elemT {e : TypeId} {k : IntKind} {B : Nat} (h : (P.info? e).map (fun i => (i.zero, i.size, i.bytes)) = some (some (.int k 0), 1, B)) : ElemT P e k B := by
  cases hq : P.info? e with
  | none => simp [hq] at h
  | some i => simp [hq] at h; exact ⟨i, hq, h.1, h.2.1, h.2.2⟩

/-- 'append(s, x...)' on integers of the call's own, x anywhere -/
theorem run_append_k (base : Nat) (t ty e : TypeId) (k : IntKind) (B : Nat) (hT : P.underlying t = some (.slice e)) (hI : ElemT P e k B)
    (v : Value) (n : Nat) (zs : List Int) (hown : w.ownsRow base e 1 v n (zs.map (.int k)))
    (b : Option Addr) (m c : Nat) (ys : List Int) (hy : InK k w b ys) (hl : ys.length = m) (h63 : n + m ≤ maxLen) (h47 : (n + m) * B ≤ 140737488355328) (hbase : base ≤ w.heap.size) :
    ∃ v' w', (Builtin.append_ #[t, t] ty #[v, .slice b m c]).run P w = .ok v' w' ∧ w'.ownsRow base e 1 v' (n + m) ((zs ++ ys).map (.int k)) ∧ Below base w w' := by
  obtain ⟨i0, h1, h2, h3, h4⟩ := hI
  rcases hy with hy | ⟨b', off, rfl, _, hy⟩
  · subst hy
    obtain rfl : m = 0 := hl.symm
    exact ⟨v, w, run_append_empty (P := P) w base t ty e i0 1 hT h1 v n _ hown b c, by simpa using hown, Below.refl _ _⟩
  · obtain ⟨v', w', hr, ho, hg, _⟩ := run_append_own (P := P) w base t ty e i0 (.int k 0) 1 B hT h1 h2 h3 h4 rfl (by decide) v n _ hown ⟨b', off, none⟩ m c (ys.map (.int k)) (by rw [List.length_map, hl, Nat.mul_one]) (newsK hy) (one_map _ _) h63 h47 hbase
    exact ⟨v', w', hr, by rw [List.map_append]; exact ho, (Below.refl _ _).grown hg hbase (own_block hown)⟩

theorem wpList_append_k (hgd : o.guard = none) (s x : Operand) (t : TypeId)
    (ho : o.op = .call { callee := .builtin .append, args := #[s, x], argTypes := #[t, t] })
    (base : Nat) (e : TypeId) (k : IntKind) (B : Nat) (hT : P.underlying t = some (.slice e)) (hI : ElemT P e k B)
    (v : Value) (n : Nat) (zs : List Int) (hs : a.eval s = v) (hown : w.ownsRow base e 1 v n (zs.map (.int k)))
    (b : Option Addr) (m c : Nat) (ys : List Int) (hx : a.eval x = .slice b m c) (hy : InK k w b ys) (hl : ys.length = m) (h63 : n + m ≤ maxLen) (h47 : (n + m) * B ≤ 140737488355328) (hbase : base ≤ w.heap.size)
    (K : ∀ v' w', w'.ownsRow base e 1 v' (n + m) ((zs ++ ys).map (.int k)) → Below base w w' → wpList P ops Q rest (a.put o.dst v') w') : wpList P ops Q (o :: rest) a w := by
  obtain ⟨v', w', hr, h1, h2⟩ := run_append_k (P := P) (w := w) base t o.type e k B hT hI v n zs hown b m c ys hy hl h63 h47 hbase
  refine wpList_plain hgd fun K' hK => ?_
  unfold Oper.wp
  simp [execOp, ho, resolve, invoke, builtin, hs, hx, hr, Result.andThen]
  exact hK _ _ (K _ _ h1 h2)

/-- the same as a step of a region that draws its order -/
theorem step_append_k {K : Act → World → Prop} {E : Prop} (hgd : o.guard = none) (s x : Operand) (t : TypeId)
    (ho : o.op = .call { callee := .builtin .append, args := #[s, x], argTypes := #[t, t] })
    (base : Nat) (e : TypeId) (k : IntKind) (B : Nat) (hT : P.underlying t = some (.slice e)) (hI : ElemT P e k B)
    (v : Value) (n : Nat) (zs : List Int) (hs : a.eval s = v) (hown : w.ownsRow base e 1 v n (zs.map (.int k)))
    (b : Option Addr) (m c : Nat) (ys : List Int) (hx : a.eval x = .slice b m c) (hy : InK k w b ys) (hl : ys.length = m) (h63 : n + m ≤ maxLen) (h47 : (n + m) * B ≤ 140737488355328) (hbase : base ≤ w.heap.size)
    (h : ∀ v' w', w'.ownsRow base e 1 v' (n + m) ((zs ++ ys).map (.int k)) → Below base w w' → K (a.put o.dst v') w') :
    if Region.wanted o (yielded ops a.tmps) = true then Oper.wp P o a w K Q else E := by
  have hw : Region.wanted o (yielded ops a.tmps) = true := by simp [Region.wanted, hgd]
  rw [if_pos hw]
  obtain ⟨v', w', hr, h1, h2⟩ := run_append_k (P := P) (w := w) base t o.type e k B hT hI v n zs hown b m c ys hy hl h63 h47 hbase
  unfold Oper.wp
  simp [execOp, ho, resolve, invoke, builtin, hs, hx, hr, Result.andThen]
  exact h _ _ h1 h2

/-- 'min' of three integers -/
theorem wpList_min3 (hgd : o.guard = none) (x y z : Operand) (ts : Array TypeId) (ho : o.op = .call { callee := .builtin .min, args := #[x, y, z], argTypes := ts }) (k k' k'' : IntKind) (p q s m : Int)
    (hx : a.eval x = .int k p) (hy : a.eval y = .int k' q) (hz : a.eval z = .int k'' s) (hm : min (min p q) s = m) (K : wpList P ops Q rest (a.put o.dst (.int k m)) w) : wpList P ops Q (o :: rest) a w := by
  have hv : (if s < (if q < p then q else p) then s else (if q < p then q else p)) = m := by rw [← hm]; split <;> split at * <;> omega
  have hrun : (Builtin.min_ ts o.type #[.int k p, .int k' q, .int k'' s]).run P w = .ok (.int k m) w := by rw [run_min_int3, hv]
  refine wpList_plain hgd fun K' hK => ?_
  unfold Oper.wp
  simp [execOp, ho, resolve, invoke, builtin, hx, hy, hz, hrun, Result.andThen]
  exact hK _ _ K

/-- 'min' of two integers -/
theorem wpList_min2 (hgd : o.guard = none) (x y : Operand) (ts : Array TypeId) (ho : o.op = .call { callee := .builtin .min, args := #[x, y], argTypes := ts }) (k k' : IntKind) (p q m : Int)
    (hx : a.eval x = .int k p) (hy : a.eval y = .int k' q) (hm : min p q = m) (K : wpList P ops Q rest (a.put o.dst (.int k m)) w) : wpList P ops Q (o :: rest) a w := by
  have hv : (if q < p then q else p) = m := by rw [← hm]; split <;> omega
  have hrun : (Builtin.min_ ts o.type #[.int k p, .int k' q]).run P w = .ok (.int k m) w := by rw [run_min_int2, hv]
  refine wpList_plain hgd fun K' hK => ?_
  unfold Oper.wp
  simp [execOp, ho, resolve, invoke, builtin, hx, hy, hrun, Result.andThen]
  exact hK _ _ K
/-- 'max' of two integers -/
theorem wpList_max2 (hgd : o.guard = none) (x y : Operand) (ts : Array TypeId) (ho : o.op = .call { callee := .builtin .max, args := #[x, y], argTypes := ts }) (k k' : IntKind) (p q m : Int)
    (hx : a.eval x = .int k p) (hy : a.eval y = .int k' q) (hm : max p q = m) (K : wpList P ops Q rest (a.put o.dst (.int k m)) w) : wpList P ops Q (o :: rest) a w := by
  have hv : (if q > p then q else p) = m := by rw [← hm]; split <;> omega
  have hrun : (Builtin.max_ ts o.type #[.int k p, .int k' q]).run P w = .ok (.int k m) w := by rw [run_max_int2, hv]
  refine wpList_plain hgd fun K' hK => ?_
  unfold Oper.wp
  simp [execOp, ho, resolve, invoke, builtin, hx, hy, hrun, Result.andThen]
  exact hK _ _ K

/-- 'make([]T, n)' of integers -/
theorem wpList_make_k (hgd : o.guard = none) (l c : Operand) (t e : TypeId) (k : IntKind) (B : Nat) (ho : o.op = .makeSlice t l c) (ht : P.underlying t = some (.slice e)) (hI : ElemT P e k B)
    (n : Nat) (hl : a.eval l = .int .i64 n) (hc : a.eval c = .int .i64 n) (hn : n * B ≤ 140737488355328) (hm : n ≤ maxLen)
    (K : ∀ w', ObjAt w' w.heap.size e ((zeros n).map (.int k)) → Below w.heap.size w w' → wpList P ops Q rest (a.put o.dst (.slice (some ⟨w.heap.size, 0, none⟩) n n)) w') : wpList P ops Q (o :: rest) a w := by
  obtain ⟨i0, h1, h2, h3, h4⟩ := hI
  refine wpList_make_full w hgd l c t ho w.heap.size e i0 (.int k 0) 1 ht h1 h2 h3 .i64 .i64 n n n hl hc rfl rfl (by rw [h4, Nat.mul_comm]; omega) hm (Nat.le_refl _) ?_
  intro w' h1 h2
  have hm : (madeCells (Value.int k 0).cells (n * 1)).toList = (zeros n).map (.int k) := by
    apply List.ext_getElem?
    intro i
    by_cases h : i < n <;> simp [zeros, madeCells, Value.cells, h, Nat.mod_one]
  rw [hm] at h1
  refine K w' ?_ ((Below.refl _ _).grown h2 (Nat.le_refl _) (fun _ h => by cases h))
  obtain ⟨h1, h2⟩ := h1
  rcases h2 with ⟨h2, _⟩ | ⟨g', cap', cur, hv, _, hh, _, _, hcs, htake⟩
  · simp at h2
  · simp only [Value.slice.injEq, Option.some.injEq, Addr.mk.injEq, and_true, true_and] at hv
    obtain ⟨rfl, rfl⟩ := hv
    have : cur = ((zeros n).map (Value.int k)).toArray := by
      apply Array.ext'
      rw [← htake, List.take_of_length_le (by simp; omega)]
    rw [ObjAt, ← this]; exact hh

/-- '[]T{}': what is laid owns nothing -/
theorem own_lit0 (w : World) (e : TypeId) (k : IntKind) : (w.alloc (.cells #[] e)).ownsRow w.heap.size e 1 (.slice (some ⟨w.heap.size, 0, none⟩) 0 0) 0 (([] : List Int).map (.int k)) :=
  World.ownsRow_lit w #[] 0 (Nat.le_refl _) (Nat.zero_le _) rfl

/-- '[]T{}' -/
theorem wpList_lit_k (hgd : o.guard = none) (t e : TypeId) (k : IntKind) (ho : o.op = .buildSlice t 0 #[]) (ht : P.underlying t = some (.slice e)) (he : (P.info? e).map (·.size) = some 1)
    (K : ∀ w', w'.ownsRow w.heap.size e 1 (.slice (some ⟨w.heap.size, 0, none⟩) 0 0) 0 (([] : List Int).map (.int k)) → Below w.heap.size w w' → wpList P ops Q rest (a.put o.dst (.slice (some ⟨w.heap.size, 0, none⟩) 0 0)) w') : wpList P ops Q (o :: rest) a w := by
  refine wpList_plain hgd fun K' hK => ?_
  cases hq : P.info? e with
  | none => simp [hq] at he
  | some i =>
    have hrun : (Instr.buildSlice t 0 #[]).run P w = .ok (.slice (some ⟨w.heap.size, 0, none⟩) 0 0) (w.alloc (.cells #[] e)) := by
      simp [Instr.buildSlice, run_underlying ht, sizeOf, typeInfo, hq, Instr.fill, newRow]
      rw [show Array.range 0 = #[] by decide, Array.map_empty]
    unfold Oper.wp
    simp [execOp, ho, hrun, Result.andThen]
    exact hK _ _ (K _ (own_lit0 w e k) ((Below.refl _ _).alloc (Nat.le_refl _) _))
end

/-- a slice of the call's own, in plain words -/
theorem own_any {k : IntKind} {w : World} {base n : Nat} {e : TypeId} {v : Value} {zs : List Int} (h : w.ownsRow base e 1 v n (zs.map (.int k))) :
    ∃ b cap, v = .slice b n cap ∧ InK k w b zs ∧ n ≤ cap ∧ cap ≤ maxLen ∧ zs.length = n ∧ ∀ x, b = some x → base ≤ x.block ∧ x.block < w.heap.size ∧ x.spot = none := by
  have hl := h.1
  rw [List.length_map, Nat.mul_one] at hl
  rcases h.2 with ⟨rfl, rfl⟩ | ⟨g, cap, cur, rfl, hb, hg, hc, hm, _⟩
  · exact ⟨none, 0, rfl, .inl (List.length_eq_zero_iff.1 hl), Nat.le_refl _, by unfold maxLen; omega, hl, fun _ h => by cases h⟩
  · exact ⟨_, cap, rfl, .of_own h, hc, hm, hl, fun x hx => by cases hx; exact ⟨hb, (own_lt h).2, rfl⟩⟩

/-- 'append([]T{}, x...)': the elements of x, in memory of the call's own; nothing that was there has turned -/
theorem run_append_fresh {P : Program} {w : World} (t ty e : TypeId) (k : IntKind) (B : Nat) (hT : P.underlying t = some (.slice e)) (hI : ElemT P e k B) (g : Nat) (hg : g < w.heap.size)
    (b : Option Addr) (m c : Nat) (ys : List Int) (hy : InK k w b ys) (hl : ys.length = m) (hm : m ≤ 140737488355328) (h47 : m * B ≤ 140737488355328) :
    ∃ b' c' w', (Builtin.append_ #[t, t] ty #[.slice (some ⟨g, 0, none⟩) 0 0, .slice b m c]).run P w = .ok (.slice b' m c') w' ∧ InK k w' b' ys ∧ m ≤ c' ∧ c' ≤ maxLen ∧ Below w.heap.size w w' ∧ ∀ x, b' = some x → (x.block = g ∨ w.heap.size ≤ x.block) ∧ x.block < w'.heap.size := by
  obtain ⟨i, hi, hz, hsz, hby⟩ := hI
  rcases hy with hy | ⟨b', off, rfl, _, hy⟩
  · subst hy
    obtain rfl : m = 0 := hl.symm
    have hll : ∀ x : Addr, (loadCells x 0).run P w = .ok #[] w := fun x => by simp [loadCells, loadCellsFrom]
    refine ⟨some ⟨g, 0, none⟩, 0, w, ?_, .inl rfl, Nat.le_refl _, by unfold maxLen; omega, Below.refl _ _, fun x hx => by cases hx; exact ⟨.inl rfl, hg⟩⟩
    cases b <;> simp [Builtin.append_, run_underlying hT, sizeOf, typeInfo, hi, Builtin.lenOf, Builtin.firstCells, storeCells, hll]
  · rcases Nat.eq_zero_or_pos m with h0 | hp
    · subst h0
      have hll : ∀ x : Addr, (loadCells x 0).run P w = .ok #[] w := fun x => by simp [loadCells, loadCellsFrom]
      refine ⟨some ⟨g, 0, none⟩, 0, w, ?_, .inl (List.length_eq_zero_iff.1 hl), Nat.le_refl _, by unfold maxLen; omega, Below.refl _ _, fun x hx => by cases hx; exact ⟨.inl rfl, hg⟩⟩
      simp [Builtin.append_, run_underlying hT, sizeOf, typeInfo, hi, Builtin.lenOf, Builtin.firstCells, storeCells, hll]
    · have hgr := run_append_grow (P := P) w t ty e i (.int k 0) hT hi hz ⟨g, 0, none⟩ 0 0 [] (by simp) (fun j u hj => by simp at hj) ⟨b', off, none⟩ m c (ys.map (Value.int k)) (by rw [List.length_map, hl, hsz, Nat.mul_one]) (newsK hy) (by omega) (by omega)
        (by rw [hby, Nat.zero_add]; exact growslice_fits (need := m) (old := 0) (bytes := B) (by omega) (by omega))
      have hge := grownCap_ge w (0 + m) 0 e
      have hcm := grownCap_le_maxLen w (0 + m) 0 e (by unfold maxLen; omega)
      refine ⟨_, _, _, by rw [Nat.zero_add] at hgr; exact hgr, .inr ⟨w.heap.size, 0, rfl, by simp, fun j hj => ?_⟩, by rw [Nat.zero_add] at hge; exact hge, by rw [Nat.zero_add] at hcm; exact hcm, (Below.refl _ _).drew.alloc (Nat.le_refl _) _, fun x hx => by cases hx; exact ⟨.inr (Nat.le_refl _), by simp⟩⟩
      rw [Nat.zero_add, World.cell?_alloc_at (w := w.drew) _ _ w.heap.size j rfl, Array.getElem?_append_left (by simpa using hj), List.append_toArray, List.nil_append, List.getElem?_toArray, List.getElem?_map, List.getElem?_eq_getElem hj, List.getD_eq_getElem?_getD, List.getElem?_eq_getElem hj]
      rfl

/-- the same as a step of a region that draws its order; w0, wb: worlds behind which only new memory was laid -/
theorem step_append_fresh {P : Program} {w : World} {ops : Array Oper} {o : Oper} {a : Act} {Q : Exit → Act → World → Prop} {K : Act → World → Prop} {E : Prop} (hgd : o.guard = none) (s x : Operand) (t : TypeId)
    (ho : o.op = .call { callee := .builtin .append, args := #[s, x], argTypes := #[t, t] })
    (e : TypeId) (k : IntKind) (B : Nat) (hT : P.underlying t = some (.slice e)) (hI : ElemT P e k B) (w0 wb : World) (h0 : Below w0.heap.size w0 w) (hb : Below wb.heap.size wb w)
    (g : Nat) (hs : a.eval s = .slice (some ⟨g, 0, none⟩) 0 0) (hg0 : w0.heap.size ≤ g) (hg : g < w.heap.size)
    (b : Option Addr) (m c : Nat) (ys : List Int) (hx : a.eval x = .slice b m c) (hy : InK k w0 b ys) (hl : ys.length = m) (hm : m ≤ 140737488355328) (h47 : m * B ≤ 140737488355328)
    (h : ∀ b' c' w', InK k w' b' ys → m ≤ c' → c' ≤ maxLen → Below w0.heap.size w0 w' → Below wb.heap.size wb w' → w.heap.size ≤ w'.heap.size → (∀ x, b' = some x → w0.heap.size ≤ x.block ∧ x.block < w'.heap.size) → K (a.put o.dst (.slice b' m c')) w') :
    if Region.wanted o (yielded ops a.tmps) = true then Oper.wp P o a w K Q else E := by
  have hw : Region.wanted o (yielded ops a.tmps) = true := by simp [Region.wanted, hgd]
  rw [if_pos hw]
  obtain ⟨b', c', w', hr, h1, h2, h3, h4, h5⟩ := run_append_fresh (P := P) (w := w) t o.type e k B hT hI g hg b m c ys (hy.below h0) hl hm h47
  unfold Oper.wp
  simp [execOp, ho, resolve, invoke, builtin, hs, hx, hr, Result.andThen]
  exact h _ _ _ h1 h2 h3 (h0.trans (h4.mono h0.size)) (hb.trans (h4.mono hb.size)) h4.size fun x hx => ⟨by have := (h5 x hx).1; have := h0.size; omega, (h5 x hx).2⟩

theorem drewN_out (lo hi : Nat) (w : World) (n : Nat) : Out lo hi w (w.drewN n) := ⟨rfl, rfl, rfl, Nat.le_refl _, fun _ _ _ => rfl⟩

theorem own_base {w : World} {base base' n : Nat} {e : TypeId} {v : Value} {xs : List Value} (h : w.ownsRow base e 1 v n xs) (hb : base' ≤ base) : w.ownsRow base' e 1 v n xs := by
  obtain ⟨h1, h2⟩ := h
  refine ⟨h1, h2.imp id ?_⟩
  rintro ⟨g, cap, cur, hv, hbg, r⟩
  exact ⟨g, cap, cur, hv, Nat.le_trans hb hbg, r⟩

theorem own_none (w : World) (base : Nat) (e : TypeId) (k : IntKind) : w.ownsRow base e 1 (.slice none 0 0) 0 (([] : List Int).map (.int k)) := ⟨rfl, .inl ⟨rfl, rfl⟩⟩

theorem cells_row {w : World} {g : Nat} {T : TypeId} {k : IntKind} {zs : List Int} (h : ObjAt w g T (zs.map (.int k))) : InK k w (some ⟨g, 0, none⟩) zs := by
  refine .inr ⟨g, 0, rfl, h.lt, fun i hi => ?_⟩
  rw [Nat.zero_add, h.cell, List.getElem?_map, List.getElem?_eq_getElem hi, List.getD_eq_getElem?_getD, List.getElem?_eq_getElem hi]
  rfl

theorem own_bytes {w : World} {base n : Nat} {e : TypeId} {v : Value} {zs : List Int} (h : w.ownsRow base e 1 v n (zs.map (.int .u8))) (hz : Bytes zs) : ∃ b cap, v = .slice b n cap ∧ BytesIn w b zs ∧ ∀ x, b = some x → base ≤ x.block := by
  obtain ⟨b, cap, rfl, h1, _, _, h4, h5⟩ := own_any h
  exact ⟨b, cap, rfl, h1.bytes hz, fun x hx => (h5 x hx).1⟩

theorem own_out {w w' : World} {base lo hi n : Nat} {e : TypeId} {v : Value} {xs : List Value} (h : w.ownsRow base e 1 v n xs) (ho : Out lo hi w w') (hb : hi ≤ base) : w'.ownsRow base e 1 v n xs := by
  obtain ⟨h1, h2⟩ := h
  refine ⟨h1, h2.imp id ?_⟩
  rintro ⟨g, cap, cur, hv, hbg, hg, r⟩
  have hlt : g < w.heap.size := by
    rcases Nat.lt_or_ge g w.heap.size with hl | hl
    · exact hl
    · rw [Array.getElem?_eq_none hl] at hg; cases hg
  exact ⟨g, cap, cur, hv, hbg, (ho.block g hlt (.inr (Nat.le_trans hb hbg))).trans hg, r⟩

/-- what turns nothing below B turns nothing outside of B .. -/
theorem out_of_below {B h : Nat} {w w' : World} (hb : Below B w w') : Out B (w'.heap.size + h) w w' := ⟨hb.os, hb.tape, hb.output, hb.size, fun k hk hj => hb.block k (by have := hb.size; omega)⟩

theorem xor_bd (d : Int) : ∃ v, Hid (bits .xor .u8 d 255 = v ∧ 0 ≤ v ∧ v ≤ 255) := ⟨_, rfl, bounds_u8 (wf_bits _ _ _ _)⟩

/-- a store into a row of the call's own, in plain words -/
theorem own_store {w : World} {base n cap g : Nat} {e : TypeId} {ys : List Int} (h : w.ownsRow base e 1 (.slice (some ⟨g, 0, none⟩) n cap) n (ys.map (.int .u8))) (j : Nat) (v : Int) :
    (w.setCell ⟨g, j, none⟩ (.int .u8 v)).ownsRow base e 1 (.slice (some ⟨g, 0, none⟩) n cap) n ((ys.set j v).map (.int .u8)) := by
  have := (h.stored j (.int .u8 v)).1
  rwa [← List.map_set] at this

theorem drewN_below (B : Nat) (w : World) (n : Nat) : Below B w (w.drewN n) := ⟨rfl, rfl, rfl, Nat.le_refl _, fun _ _ => rfl⟩

end Go.Proofs.YthcbiohmghaobaaDoor
/-
  The elements of []byte and []int; the chunk size with a number.
-/
namespace Go.Proofs.YthcbiohmghaobaaDoor
open Go.RowKit

theorem u8T : ElemT Tryd.prog 5 .u8 1 := elemT (by kernel_rfl)

theorem i64T : ElemT Tryd.prog 3 .i64 8 := elemT (by kernel_rfl)

/-- the chunk size with the number r -/
def chunkZ (cs : List Int) (r : Nat) : Int := if cs.length = 0 then 1048576 else max (cs.getD (r % cs.length) 0) 1

theorem chunkZ_pos (cs : List Int) (r : Nat) : 1 ≤ chunkZ cs r := by unfold chunkZ; split <;> omega

/-- where the sequence stands behind r reads -/
def ixN (cs : List Int) (r : Nat) : Nat := if cs.length = 0 then 0 else r % cs.length
end Go.Proofs.YthcbiohmghaobaaDoor
/-
  Layer 8: the reference's Split.
-/
namespace Go.Proofs.YthcbiohmghaobaaDoor.Pnm
open Go.RowKit

theorem drop_num (s : ByteArray) (j : Nat) (h : j < s.size) : (numsOf s).drop j = (s[j].toNat : Int) :: (numsOf s).drop (j + 1) := by
  have hl : j < (numsOf s).length := by rw [numsOf_length]; exact h
  rw [List.drop_eq_getElem_cons hl]
  have := num_at s j h
  rw [List.getD_eq_getElem?_getD, List.getElem?_eq_getElem hl] at this
  rw [← this]; rfl
theorem drop_all (s : ByteArray) : (numsOf s).drop s.size = [] := by rw [List.drop_eq_nil_iff, numsOf_length]; exact Nat.le_refl _

end Go.Proofs.YthcbiohmghaobaaDoor.Pnm
