/-
  Layer 7: the empty header.
-/
import Derived.Test.YtbbaleambgaanaaGreatDoorPk04
import Derived.Test.YtbbaleambgaanaaGreatDoorPk06
import Derived.Test.YtbbaleambgaanaaGreatDoorPk03
import Derived.Test.YtbbaleambgaanaaGreatDoorRows
import Derived.Test.YtbbaleambgaanaaGreatDoorPk02
import Derived.Lib.LaidTab
import Derived.ChangeArms
import Derived.Stop.LaidErr
import Derived.MakeChecks
import Derived.Test.YtbbaleambgaanaaGreatDoorShelf
import Derived.Test.YtbbaleambgaanaaGreatDoorPk05
namespace Go.Proofs.YtbbaleambgaanaaGreatDoor.Ust
open Oct Cst Chk

/-- the header of nothing -/
abbrev hd0 : List Go.Value := hdV 0 { data := #[] } { data := #[] } { data := #[] } 0 0
end Go.Proofs.YtbbaleambgaanaaGreatDoor.Ust
/-
  Layer 12: the program's extendedHeader.
-/
namespace Go.Proofs.YtbbaleambgaanaaGreatDoor.Etr
open Go.RowKit Go.Proofs.YtbbaleambgaanaaGreatDoor.Fit Pxr Pnm

theorem hdTq : ObjT Tryz.prog 56 6 := ⟨⟨_, Tryz.underlying56⟩, by kernel_rfl⟩
theorem zHq : (Tryz.prog.info? 56).map (·.zero) = some (some (.agg (Ust.hd0).toArray)) := by kernel_rfl
theorem hd1 (T : Int) (a b c : ByteArray) (m z : Int) : ∀ v ∈ Ust.hdV T a b c m z, v.oneCell' = true := by simp [Value.oneCell']

theorem ext_any (z : Int) (w : World) : Calls Tryz.prog 58 #[.int .i64 z] w fun e w' => e = .returned (.agg (Ust.hdV 120 kPax emp emp 0 z).toArray) ∧ Below w.heap.size w w' := by
  have HO := Lib.hid hdTq; have HZ := Lib.hid zHq
  go_enter Tryz.func58, Tryz.ntmps58
  go_wp2_with (first | (refine wpList_alloc_obj rfl 56 rfl Ust.hd0 HZ.out ?_; intro w1 h1 b1; have G1 := Lib.hid h1; have B1 := Lib.hid b1; clear h1 b1) | (refine wpList_store_obj rfl 56 _ _ rfl w.heap.size rfl (Ust.hdV 120 kPax emp emp 0 z) Ust.hd0 rfl 56 G1.out HO.out.2 rfl (hd1 _ _ _ _ _ _) ?_; intro w2 g2 t2; have G2 := Lib.hid g2; have T2 := Lib.hid t2; clear g2 t2))
  exact bodyPost_ret (results_obj Tryz.results58 HO.out _ w.heap.size rfl _ (Ust.hdV 120 kPax emp emp 0 z) G2.out rfl) rfl ⟨rfl, B1.out.trans (T2.out.below (Nat.le_refl _))⟩

end Go.Proofs.YtbbaleambgaanaaGreatDoor.Etr
/-
  A store into one field of a struct's variable. Nothing of the program.
-/
namespace Go.Proofs.YtbbaleambgaanaaGreatDoor
open Go.RowKit

/-- block g alone has turned -/
structure TurnB (w w' : World) (g : Nat) : Prop where
  below : ∀ {B : Nat}, B ≤ g → Below B w w'
  other : ∀ {k : Nat}, k ≠ g → w'.heap[k]? = w.heap[k]?
  size : w'.heap.size = w.heap.size
theorem ObjAt.turnB {w w' : World} {g k : Nat} {T : TypeId} {vs : List Value} (h : ObjAt w k T vs) (t : TurnB w w' g) (hk : k ≠ g) : ObjAt w' k T vs := (t.other hk).trans h
theorem own_turnB {w w' : World} {base n size g : Nat} {e : TypeId} {v : Value} {xs : List Value} (h : w.ownsRow base e size v n xs) (t : TurnB w w' g) (hb : g < base) : w'.ownsRow base e size v n xs := by
  obtain ⟨h1, h2⟩ := h
  refine ⟨h1, ?_⟩
  rcases h2 with h2 | ⟨g', cap', cur, hv, hb', hh, r⟩
  · exact Or.inl h2
  · exact Or.inr ⟨g', cap', cur, hv, hb', by rw [t.other (by omega)]; exact hh, r⟩
section
variable {P : Program} {w : World} {ops : Array Oper} {rest : List Oper} {o : Oper} {a : Act} {Q : Exit → Act → World → Prop}
theorem wpList_store_cell (hgd : o.guard = none) (T : TypeId) (x y : Operand) (ho : o.op = .store T x y) (g i : Nat) (hx : a.eval x = .pointer (some ⟨g, i, none⟩))
    (v : Value) (hy : a.eval y = v) (h1 : v.oneCell' = true) (hs : (P.info? T).map (·.size) = some 1) (T' : TypeId) (vs : List Value) (hg : ObjAt w g T' vs) (hi : i < vs.length)
    (K : ∀ w', ObjAt w' g T' (vs.set i v) → TurnB w w' g → wpList P ops Q rest (a.put o.dst undef) w') : wpList P ops Q (o :: rest) a w := by
  refine wpList_plain hgd fun K' hK => ?_
  have hc : w.cell? ⟨g, i, none⟩ = some vs[i] := hg.get i (List.getElem?_eq_getElem hi)
  have hf := hg.frozen i
  have hv : v.cells = #[v] := by cases v <;> first | rfl | (simp [Value.oneCell'] at h1)
  cases hq : P.info? T with
  | none => simp [hq] at hs
  | some j =>
    have hj : j.size = 1 := by simpa [hq] using hs
    have ha : (⟨g, i, none⟩ : Addr).add 0 = ⟨g, i, none⟩ := add_plain' g i 0
    have hrun : (storeVar T ⟨g, i, none⟩ v).run P w = .ok () (w.setCell ⟨g, i, none⟩ v) := by
      simp [storeVar, sizeOf, typeInfo, hq, hj, hv, storeCells, run_store P w _ v _ h1, ha, hc, hf]
    unfold Oper.wp execOp
    simp only [ho, hx, hy, Instr.storeAt, Instr.sureAddr, Sem.run_bind, Sem.run_pure, Result.andThen_ok, hrun]
    exact hK _ _ (K _ (hg.set i v) ⟨fun hB => (Below.refl _ _).setCell hB v, fun hk => Below.heap_setCell _ _ _ _ hk, by simp [World.setCell]⟩)
end
end Go.Proofs.YtbbaleambgaanaaGreatDoor
/-
  Layer 7: two headers are compared.
-/
namespace Go.Proofs.YtbbaleambgaanaaGreatDoor.Ust
open Go.RowKit

def hdFs : Array Field := #[{ name := "Type", type := 5, offset := 0, embedded := false, tag := "", pkgPath := "", byteOffset := 0 }, { name := "Name", type := 9, offset := 1, embedded := false, tag := "", pkgPath := "", byteOffset := 8 },
  { name := "Prefix", type := 9, offset := 2, embedded := false, tag := "", pkgPath := "", byteOffset := 24 }, { name := "Linkname", type := 9, offset := 3, embedded := false, tag := "", pkgPath := "", byteOffset := 40 },
  { name := "Mode", type := 3, offset := 4, embedded := false, tag := "", pkgPath := "", byteOffset := 56 }, { name := "Size", type := 2, offset := 5, embedded := false, tag := "", pkgPath := "", byteOffset := 64 }]

theorem bytes_ne {s t : ByteArray} (h : ¬ s = t) : (s.toList == t.toList) = false := by
  rw [beq_eq_false_iff_ne]
  exact fun e => h (by
    apply ByteArray.ext
    apply Array.ext'
    rw [ByteArray.toList_eq, ByteArray.toList_eq] at e
    exact e)

theorem run_eqH (t : TypeId) (ht : Tryz.prog.underlying t = some (.struct hdFs)) (hp : Tryz.prog.stoodInHeld t = false) (T : Int) (nm pf lk : ByteArray) (md sz : Int) (T' : Int) (nm' pf' lk' : ByteArray) (md' sz' : Int) (w : World) :
    (Op.equalIn 10000 t (.agg (hdV T nm pf lk md sz).toArray) (.agg (hdV T' nm' pf' lk' md' sz').toArray)).run Tryz.prog w = .ok (decide (T = T' ∧ nm = nm' ∧ pf = pf' ∧ lk = lk' ∧ md = md' ∧ sz = sz')) w := by
  have hf : Tryz.prog.fieldsOf t = hdFs := by unfold Program.fieldsOf; rw [ht]
  rw [run_equalIn_struct w 9999 t _ _ (by rw [hf]; exact ht) hp, hf]
  have u5 := Tryz.underlying5
  have u9 := Tryz.underlying9
  have u3 := Tryz.underlying3
  have u2 := Tryz.underlying2
  by_cases h1 : T = T'
  · subst h1
    by_cases h2 : nm = nm'
    · subst h2
      by_cases h3 : pf = pf'
      · subst h3
        by_cases h4 : lk = lk'
        · subst h4
          by_cases h5 : md = md'
          · subst h5
            by_cases h6 : sz = sz'
            · subst h6; simp [hdFs, Op.eqFields, part, isAgg, u5, u9, u3, u2, go_sem]
            · simp [hdFs, Op.eqFields, part, isAgg, u5, u9, u3, u2, h6, go_sem]
          · simp [hdFs, Op.eqFields, part, isAgg, u5, u9, u3, u2, h5, go_sem]
        · have := bytes_ne h4
          simp [hdFs, Op.eqFields, part, isAgg, u5, u9, u3, u2, h4, this, go_sem]
      · have := bytes_ne h3
        simp [hdFs, Op.eqFields, part, isAgg, u5, u9, u3, u2, h3, this, go_sem]
    · have := bytes_ne h2
      simp [hdFs, Op.eqFields, part, isAgg, u5, u9, u3, u2, h2, this, go_sem]
  · simp [hdFs, Op.eqFields, part, isAgg, u5, u9, u3, u2, h1, go_sem]
end Go.Proofs.YtbbaleambgaanaaGreatDoor.Ust
/-
  Layer 9: the package-level variables that the calls read: the powers of ten, the permitted keys.
-/
namespace Go.Proofs.YtbbaleambgaanaaGreatDoor.Pxr
open Go.RowKit

/-- An array of strings that reads as these holds them, cell for cell. -/
theorem cells_of_strs {H : Type} {enc : TypeId × Value → H} {P : Program} {w : World} {base : Nat} {sp : Nat → Bool} {held : Bool} {fuel : Nat} {t e : TypeId} {n : Nat} {cs : List Value} {zs : List (List UInt8)} {p : List MemPlace}
    (ht : P.underlying t = some (.array n e)) (he : P.underlying e = some .string) (hce : P.cellsOf e = 1) (hct : P.cellsOf t = n)
    (h : DataW.trod enc P w base sp held fuel t cs = some (.agg (zs.map fun z => .lit (.string z)), p)) : cs = zs.map fun z => Value.string ⟨z.toArray⟩ := by
  cases fuel with
  | zero => simp [DataW.trod] at h
  | succ fuel =>
    simp only [DataW.trod, ht, hce, hct, Nat.mul_one] at h
    split at h
    · rename_i hl
      obtain ⟨xs, hm, hx⟩ := Option.map_eq_some_iff.1 h
      have hxs : xs.map (·.1) = zs.map fun z => (DataW.lit (.string z) : DataW H) := by
        have := congrArg Prod.fst hx
        simpa using this
      have hxl : xs.length = n := by simpa using Lib.mapM_length hm
      have hzl : zs.length = n := by
        have := congrArg List.length hxs
        simp at this
        omega
      apply List.ext_getElem?
      intro i
      by_cases hi : i < n
      · obtain ⟨b, hb, hf⟩ := Lib.mapM_at hm i i (by simp [hi])
        obtain ⟨z, hc, rfl, _⟩ := DataW.trod_string he hf
        have h1 : cs[i]? = some (.string z) := by
          have := congrArg (·[0]?) hc
          simpa [List.getElem?_take, List.getElem?_drop] using this
        have h2 : (xs.map (·.1))[i]? = some (DataW.lit (.string z.data.toList) : DataW H) := by simp [hb]
        rw [hxs] at h2
        simp only [List.getElem?_map, Option.map_eq_some_iff, DataW.lit.injEq, Lit.string.injEq] at h2
        obtain ⟨z', hz', e⟩ := h2
        subst e
        simp [h1, hz']
      · rw [List.getElem?_eq_none (by omega), List.getElem?_eq_none (by simp; omega)]
    · cases h

/-- WHAT A WALK IS TOLD OF THE VARIABLES -/
structure Vars (w : World) : Prop where
  tab : Lib.TabIs Tryz.prog w "internal/strconv.uint64pow10" .u64 Lib.pow10Tab
  k0 : w.cell? ⟨1, 0, none⟩ = some (.string kLink)
  k1 : w.cell? ⟨1, 1, none⟩ = some (.string kPath)
  k2 : w.cell? ⟨1, 2, none⟩ = some (.string kSize)

theorem cell_lt {w : World} {b o : Nat} {v : Value} (h : w.cell? ⟨b, o, none⟩ = some v) : b < w.heap.size := by
  rcases Nat.lt_or_ge b w.heap.size with h' | h'
  · exact h'
  · rw [World.cell?] at h
    simp [Array.getElem?_eq_none h'] at h

theorem tab_lt {w : World} (h : Lib.TabIs Tryz.prog w "internal/strconv.uint64pow10" .u64 Lib.pow10Tab) : 2 < w.heap.size := by
  unfold Lib.TabIs World.var? at h
  rw [show Tryz.prog.globalNamed "internal/strconv.uint64pow10" = some 2 by kernel_rfl] at h
  rcases Nat.lt_or_ge 2 w.heap.size with h' | h'
  · exact h'
  · simp [Array.getElem?_eq_none h'] at h

theorem Vars.below {w w' : World} {B : Nat} (h : Vars w) (hb : Below B w w') (hB : w.heap.size ≤ B) : Vars w' := by
  have l0 := cell_lt h.k0
  have lt := tab_lt h.tab
  have l1 : 1 < B := Nat.lt_of_lt_of_le l0 hB
  refine ⟨?_, (hb.cell (p := ⟨1, 0, none⟩) l1).trans h.k0, (hb.cell (p := ⟨1, 1, none⟩) l1).trans h.k1, (hb.cell (p := ⟨1, 2, none⟩) l1).trans h.k2⟩
  have ht := h.tab
  unfold Lib.TabIs World.var? at ht ⊢
  rw [show Tryz.prog.globalNamed "internal/strconv.uint64pow10" = some 2 by kernel_rfl] at ht ⊢
  rw [← ht]
  simp only [Option.bind_some]
  rw [hb.block 2 (by omega)]

theorem Vars.go {w w' : World} (h : Vars w) (hb : Below w.heap.size w w') : Vars w' := h.below hb (Nat.le_refl _)

/-- from what the row lists -/
theorem vars_of {W : World} {a b : String × DataW Unit} (h : laidMetH Tryz.prog [a, b, ("internal/strconv.uint64pow10", Rows.laid_internal_strconv_uint64pow10), ("paxtar/paxrec.keys", Rows.laid_paxtar_paxrec_keys)] W)
    (hp : ([a, b, ("internal/strconv.uint64pow10", Rows.laid_internal_strconv_uint64pow10), ("paxtar/paxrec.keys", Rows.laid_paxtar_paxrec_keys)].all fun x => x.2.handleName?.isNone) = true) : Vars W := by
  rw [MakeChecks.laidMetH_plain _ _ _ hp] at h
  have h1 := h.tail.tail
  have e : (Rows.laid_internal_strconv_uint64pow10 : DataW Unit) = Lib.tabData .u64 Lib.pow10Tab := by kernel_rfl
  have h2 := h1.tail
  rw [e] at h1
  have ht := Lib.tabIs_of_head (P := Tryz.prog) (by kernel_rfl : Tryz.prog.globalNamed "internal/strconv.uint64pow10" = some 2) (by kernel_rfl : (Tryz.prog.globals[2]?).map (·.type) = some 236) Tryz.underlying236 Tryz.underlying174 (by kernel_rfl) (by kernel_rfl) h1
  obtain ⟨ps, ⟨g', t', cs, fuel, p, q, hg', ht', hvar, hd, _, _⟩, _⟩ := h2
  obtain rfl := Option.some.inj ((by kernel_rfl : Tryz.prog.globalNamed "paxtar/paxrec.keys" = some 1).symm.trans hg')
  obtain rfl := Option.some.inj ((by kernel_rfl : (Tryz.prog.globals[1]?).map (·.type) = some 231).symm.trans ht')
  have hcs := cells_of_strs (zs := [[108, 105, 110, 107, 112, 97, 116, 104], [112, 97, 116, 104], [115, 105, 122, 101]]) Tryz.underlying231 Tryz.underlying9 (by kernel_rfl) (by kernel_rfl) hd
  have hcells := fun i => World.var?_cell (by kernel_rfl : Tryz.prog.globalNamed "paxtar/paxrec.keys" = some 1) hvar i
  have hc : ∀ i, cs[i]? = cs.toList[i]? := fun i => Array.getElem?_toList.symm
  refine ⟨ht, ?_, ?_, ?_⟩
  · rw [hcells, hc, hcs]; rfl
  · rw [hcells, hc, hcs]; rfl
  · rw [hcells, hc, hcs]; rfl
end Go.Proofs.YtbbaleambgaanaaGreatDoor.Pxr
/-
  Layer 9: strconv.Itoa.
-/
namespace Go.Proofs.YtbbaleambgaanaaGreatDoor.Pxr
open Go.RowKit

theorem str_decD (n : Nat) : (⟨(Lib.decDigits n).toArray⟩ : ByteArray) = strOfNums (decD n) := by
  rw [← strOfNums_numsOf ⟨(Lib.decDigits n).toArray⟩]; rfl
theorem strD_size (n : Nat) : (strOfNums (decD n)).size = Lib.nDigits n := by
  rw [← str_decD, Lib.size_eq]; exact Lib.decDigits_length n

theorem grow_below {B : Nat} (w : World) (k : Nat) (os : Array Obj) (hB : B ≤ w.heap.size) : Below B w (Sort.grow (w.drewN k) os) :=
  ⟨rfl, rfl, rfl, by simp [Sort.grow], fun i hi => by
    show (w.heap ++ os)[i]? = w.heap[i]?
    exact Array.getElem?_append_left (by omega)⟩

theorem itoa_any (n : Nat) (hn : n ≤ 9223372036854775807) (w : World) (V : Vars w) : Calls Tryz.prog 119 #[.int .i64 (n : Int)] w fun e w' => e = .returned (.string (strOfNums (decD n))) ∧ Below w.heap.size w w' := by
  refine (Tryz.strconv_Itoa (n : Int) (by omega) (by omega) w V.tab).mono ?_
  rintro e w' ⟨rfl, k, os, rfl⟩
  refine ⟨?_, grow_below w k os (Nat.le_refl _)⟩
  unfold Lib.itoa
  rw [if_neg (by omega), Int.toNat_natCast, str_decD]
end Go.Proofs.YtbbaleambgaanaaGreatDoor.Pxr
