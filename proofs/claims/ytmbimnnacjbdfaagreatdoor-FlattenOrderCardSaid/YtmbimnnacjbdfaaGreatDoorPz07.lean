/-
  Layer 7: the empty header.
-/
import Derived.Test.YtmbimnnacjbdfaaGreatDoorPz04
import Derived.Test.YtmbimnnacjbdfaaGreatDoorPz06
import Derived.Test.YtmbimnnacjbdfaaGreatDoorPz03
import Derived.Test.YtmbimnnacjbdfaaGreatDoorRows
import Derived.Test.YtmbimnnacjbdfaaGreatDoorPz02
import Derived.Lib.LaidTab
import Derived.ChangeArms
import Derived.Stop.LaidErr
import Derived.MakeChecks
import Derived.Test.YtmbimnnacjbdfaaGreatDoorShelf
import Derived.Test.YtmbimnnacjbdfaaGreatDoorPz05
import Derived.Test.YtmbimnnacjbdfaaGreatDoorPz01
import Derived.Deep.DeepMust
namespace Go.Proofs.YtmbimnnacjbdfaaGreatDoor.Ust
open Oct Cst Chk

/-- the header of nothing -/
abbrev hd0 : List Go.Value := hdV 0 { data := #[] } { data := #[] } { data := #[] } 0 0
end Go.Proofs.YtmbimnnacjbdfaaGreatDoor.Ust
/-
  Layer 12: the program's extendedHeader.
-/
namespace Go.Proofs.YtmbimnnacjbdfaaGreatDoor.Etr
open Go.RowKit Go.Proofs.YtmbimnnacjbdfaaGreatDoor.Fit Pxr Pnm

theorem hdTq : ObjT Tryz.prog 63 6 := ⟨⟨_, Tryz.underlying63⟩, by kernel_rfl⟩
theorem zHq : (Tryz.prog.info? 63).map (·.zero) = some (some (.agg (Ust.hd0).toArray)) := by kernel_rfl
theorem hd1 (T : Int) (a b c : ByteArray) (m z : Int) : ∀ v ∈ Ust.hdV T a b c m z, v.oneCell' = true := by simp [Value.oneCell']

theorem ext_any (z : Int) (w : World) : Calls Tryz.prog 47 #[.int .i64 z] w fun e w' => e = .returned (.agg (Ust.hdV 120 kPax emp emp 0 z).toArray) ∧ Below w.heap.size w w' := by
  have HO := Lib.hid hdTq; have HZ := Lib.hid zHq
  go_enter Tryz.func47, Tryz.ntmps47
  go_wp2_with (first | (refine wpList_alloc_obj rfl 63 rfl Ust.hd0 HZ.out ?_; intro w1 h1 b1; have G1 := Lib.hid h1; have B1 := Lib.hid b1; clear h1 b1) | (refine wpList_store_obj rfl 63 _ _ rfl w.heap.size rfl (Ust.hdV 120 kPax emp emp 0 z) Ust.hd0 rfl 63 G1.out HO.out.2 rfl (hd1 _ _ _ _ _ _) ?_; intro w2 g2 t2; have G2 := Lib.hid g2; have T2 := Lib.hid t2; clear g2 t2))
  exact bodyPost_ret (results_obj Tryz.results47 HO.out _ w.heap.size rfl _ (Ust.hdV 120 kPax emp emp 0 z) G2.out rfl) rfl ⟨rfl, B1.out.trans (T2.out.below (Nat.le_refl _))⟩

end Go.Proofs.YtmbimnnacjbdfaaGreatDoor.Etr
/-
  A store into one field of a struct's variable. Nothing of the program.
-/
namespace Go.Proofs.YtmbimnnacjbdfaaGreatDoor
open Go.RowKit

/-- block g alone has turned -/
structure TurnB (w w' : World) (g : Nat) : Prop where
  below : ∀ {B : Nat}, B ≤ g → Below B w w'
  other : ∀ {k : Nat}, k ≠ g → w'.heap[k]? = w.heap[k]?
  size : w'.heap.size = w.heap.size
theorem ObjAt.turnB {w w' : World} {g k : Nat} {T : TypeId} {vs : List Value} (h : ObjAt w k T vs) (t : TurnB w w' g) (hk : k ≠ g) : ObjAt w' k T vs := (t.other hk).trans h
theorem own_turnB {w w' : World} {base n size g : Nat} {e : TypeId} {v : Value} {xs : List Value} (h : w.ownsRow base e size v n xs) (t : TurnB w w' g) (hb : g < base) : w'.ownsRow base e size v n xs := by
  obtain ⟨h1, h2⟩ := h
  refine ⟨h1, ?_⟩
  rcases h2 with h2 | ⟨g', cap', cur, hv, hb', hh, r⟩
  · exact Or.inl h2
  · exact Or.inr ⟨g', cap', cur, hv, hb', by rw [t.other (by omega)]; exact hh, r⟩
section
variable {P : Program} {w : World} {ops : Array Oper} {rest : List Oper} {o : Oper} {a : Act} {Q : Exit → Act → World → Prop}
theorem wpList_store_cell (hgd : o.guard = none) (T : TypeId) (x y : Operand) (ho : o.op = .store T x y) (g i : Nat) (hx : a.eval x = .pointer (some ⟨g, i, none⟩))
    (v : Value) (hy : a.eval y = v) (h1 : v.oneCell' = true) (hs : (P.info? T).map (·.size) = some 1) (T' : TypeId) (vs : List Value) (hg : ObjAt w g T' vs) (hi : i < vs.length)
    (K : ∀ w', ObjAt w' g T' (vs.set i v) → TurnB w w' g → wpList P ops Q rest (a.put o.dst undef) w') : wpList P ops Q (o :: rest) a w := by
  refine wpList_plain hgd fun K' hK => ?_
  have hc : w.cell? ⟨g, i, none⟩ = some vs[i] := hg.get i (List.getElem?_eq_getElem hi)
  have hf := hg.frozen i
  have hv : v.cells = #[v] := by cases v <;> first | rfl | (simp [Value.oneCell'] at h1)
  cases hq : P.info? T with
  | none => simp [hq] at hs
  | some j =>
    have hj : j.size = 1 := by simpa [hq] using hs
    have ha : (⟨g, i, none⟩ : Addr).add 0 = ⟨g, i, none⟩ := add_plain' g i 0
    have hrun : (storeVar T ⟨g, i, none⟩ v).run P w = .ok () (w.setCell ⟨g, i, none⟩ v) := by
      simp [storeVar, sizeOf, typeInfo, hq, hj, hv, storeCells, run_store P w _ v _ h1, ha, hc, hf]
    unfold Oper.wp execOp
    simp only [ho, hx, hy, Instr.storeAt, Instr.sureAddr, Sem.run_bind, Sem.run_pure, Result.andThen_ok, hrun]
    exact hK _ _ (K _ (hg.set i v) ⟨fun hB => (Below.refl _ _).setCell hB v, fun hk => Below.heap_setCell _ _ _ _ hk, by simp [World.setCell]⟩)
end
end Go.Proofs.YtmbimnnacjbdfaaGreatDoor
/-
  Layer 7: two headers are compared.
-/
namespace Go.Proofs.YtmbimnnacjbdfaaGreatDoor.Ust
open Go.RowKit

def hdFs : Array Field := #[{ name := "Type", type := 5, offset := 0, embedded := false, tag := "", pkgPath := "", byteOffset := 0 }, { name := "Name", type := 9, offset := 1, embedded := false, tag := "", pkgPath := "", byteOffset := 8 },
  { name := "Prefix", type := 9, offset := 2, embedded := false, tag := "", pkgPath := "", byteOffset := 24 }, { name := "Linkname", type := 9, offset := 3, embedded := false, tag := "", pkgPath := "", byteOffset := 40 },
  { name := "Mode", type := 3, offset := 4, embedded := false, tag := "", pkgPath := "", byteOffset := 56 }, { name := "Size", type := 2, offset := 5, embedded := false, tag := "", pkgPath := "", byteOffset := 64 }]

theorem bytes_ne {s t : ByteArray} (h : ¬ s = t) : (s.toList == t.toList) = false := by
  rw [beq_eq_false_iff_ne]
  exact fun e => h (by
    apply ByteArray.ext
    apply Array.ext'
    rw [ByteArray.toList_eq, ByteArray.toList_eq] at e
    exact e)

theorem run_eqH (t : TypeId) (ht : Tryz.prog.underlying t = some (.struct hdFs)) (hp : Tryz.prog.stoodInHeld t = false) (T : Int) (nm pf lk : ByteArray) (md sz : Int) (T' : Int) (nm' pf' lk' : ByteArray) (md' sz' : Int) (w : World) :
    (Op.equalIn 10000 t (.agg (hdV T nm pf lk md sz).toArray) (.agg (hdV T' nm' pf' lk' md' sz').toArray)).run Tryz.prog w = .ok (decide (T = T' ∧ nm = nm' ∧ pf = pf' ∧ lk = lk' ∧ md = md' ∧ sz = sz')) w := by
  have hf : Tryz.prog.fieldsOf t = hdFs := by unfold Program.fieldsOf; rw [ht]
  rw [run_equalIn_struct w 9999 t _ _ (by rw [hf]; exact ht) hp, hf]
  have u5 := Tryz.underlying5
  have u9 := Tryz.underlying9
  have u3 := Tryz.underlying3
  have u2 := Tryz.underlying2
  by_cases h1 : T = T'
  · subst h1
    by_cases h2 : nm = nm'
    · subst h2
      by_cases h3 : pf = pf'
      · subst h3
        by_cases h4 : lk = lk'
        · subst h4
          by_cases h5 : md = md'
          · subst h5
            by_cases h6 : sz = sz'
            · subst h6; simp [hdFs, Op.eqFields, part, isAgg, u5, u9, u3, u2, go_sem]
            · simp [hdFs, Op.eqFields, part, isAgg, u5, u9, u3, u2, h6, go_sem]
          · simp [hdFs, Op.eqFields, part, isAgg, u5, u9, u3, u2, h5, go_sem]
        · have := bytes_ne h4
          simp [hdFs, Op.eqFields, part, isAgg, u5, u9, u3, u2, h4, this, go_sem]
      · have := bytes_ne h3
        simp [hdFs, Op.eqFields, part, isAgg, u5, u9, u3, u2, h3, this, go_sem]
    · have := bytes_ne h2
      simp [hdFs, Op.eqFields, part, isAgg, u5, u9, u3, u2, h2, this, go_sem]
  · simp [hdFs, Op.eqFields, part, isAgg, u5, u9, u3, u2, h1, go_sem]
end Go.Proofs.YtmbimnnacjbdfaaGreatDoor.Ust
/-
  Layer 9: the package-level variables that the calls read: the powers of ten, the permitted keys.
-/
namespace Go.Proofs.YtmbimnnacjbdfaaGreatDoor.Pxr
open Go.RowKit

/-- An array of strings that reads as these holds them, cell for cell. -/
theorem cells_of_strs {H : Type} {enc : TypeId × Value → H} {P : Program} {w : World} {base : Nat} {sp : Nat → Bool} {held : Bool} {fuel : Nat} {t e : TypeId} {n : Nat} {cs : List Value} {zs : List (List UInt8)} {p : List MemPlace}
    (ht : P.underlying t = some (.array n e)) (he : P.underlying e = some .string) (hce : P.cellsOf e = 1) (hct : P.cellsOf t = n)
    (h : DataW.trod enc P w base sp held fuel t cs = some (.agg (zs.map fun z => .lit (.string z)), p)) : cs = zs.map fun z => Value.string ⟨z.toArray⟩ := by
  cases fuel with
  | zero => simp [DataW.trod] at h
  | succ fuel =>
    simp only [DataW.trod, ht, hce, hct, Nat.mul_one] at h
    split at h
    · rename_i hl
      obtain ⟨xs, hm, hx⟩ := Option.map_eq_some_iff.1 h
      have hxs : xs.map (·.1) = zs.map fun z => (DataW.lit (.string z) : DataW H) := by
        have := congrArg Prod.fst hx
        simpa using this
      have hxl : xs.length = n := by simpa using Lib.mapM_length hm
      have hzl : zs.length = n := by
        have := congrArg List.length hxs
        simp at this
        omega
      apply List.ext_getElem?
      intro i
      by_cases hi : i < n
      · obtain ⟨b, hb, hf⟩ := Lib.mapM_at hm i i (by simp [hi])
        obtain ⟨z, hc, rfl, _⟩ := DataW.trod_string he hf
        have h1 : cs[i]? = some (.string z) := by
          have := congrArg (·[0]?) hc
          simpa [List.getElem?_take, List.getElem?_drop] using this
        have h2 : (xs.map (·.1))[i]? = some (DataW.lit (.string z.data.toList) : DataW H) := by simp [hb]
        rw [hxs] at h2
        simp only [List.getElem?_map, Option.map_eq_some_iff, DataW.lit.injEq, Lit.string.injEq] at h2
        obtain ⟨z', hz', e⟩ := h2
        subst e
        simp [h1, hz']
      · rw [List.getElem?_eq_none (by omega), List.getElem?_eq_none (by simp; omega)]
    · cases h

/-- WHAT A WALK IS TOLD OF THE VARIABLES -/
structure Vars (w : World) : Prop where
  tab : Lib.TabIs Tryz.prog w "internal/strconv.uint64pow10" .u64 Lib.pow10Tab
  k0 : w.cell? ⟨3, 0, none⟩ = some (.string kLink)
  k1 : w.cell? ⟨3, 1, none⟩ = some (.string kPath)
  k2 : w.cell? ⟨3, 2, none⟩ = some (.string kSize)

theorem cell_lt {w : World} {b o : Nat} {v : Value} (h : w.cell? ⟨b, o, none⟩ = some v) : b < w.heap.size := by
  rcases Nat.lt_or_ge b w.heap.size with h' | h'
  · exact h'
  · rw [World.cell?] at h
    simp [Array.getElem?_eq_none h'] at h

theorem tab_lt {w : World} (h : Lib.TabIs Tryz.prog w "internal/strconv.uint64pow10" .u64 Lib.pow10Tab) : 2 < w.heap.size := by
  unfold Lib.TabIs World.var? at h
  rw [show Tryz.prog.globalNamed "internal/strconv.uint64pow10" = some 2 by kernel_rfl] at h
  rcases Nat.lt_or_ge 2 w.heap.size with h' | h'
  · exact h'
  · simp [Array.getElem?_eq_none h'] at h

theorem Vars.below {w w' : World} {B : Nat} (h : Vars w) (hb : Below B w w') (hB : w.heap.size ≤ B) : Vars w' := by
  have l0 := cell_lt h.k0
  have lt := tab_lt h.tab
  have l1 : 3 < B := Nat.lt_of_lt_of_le l0 hB
  refine ⟨?_, (hb.cell (p := ⟨3, 0, none⟩) l1).trans h.k0, (hb.cell (p := ⟨3, 1, none⟩) l1).trans h.k1, (hb.cell (p := ⟨3, 2, none⟩) l1).trans h.k2⟩
  have ht := h.tab
  unfold Lib.TabIs World.var? at ht ⊢
  rw [show Tryz.prog.globalNamed "internal/strconv.uint64pow10" = some 2 by kernel_rfl] at ht ⊢
  rw [← ht]
  simp only [Option.bind_some]
  rw [hb.block 2 (by omega)]

theorem Vars.go {w w' : World} (h : Vars w) (hb : Below w.heap.size w w') : Vars w' := h.below hb (Nat.le_refl _)

/-- from what the row lists -/
theorem vars_of {W : World} {a b : String × DataW Unit} (h : laidMetH Tryz.prog [a, b, ("internal/strconv.uint64pow10", Rows.laid_internal_strconv_uint64pow10), ("paxtar/paxrec.keys", Rows.laid_paxtar_paxrec_keys)] W)
    (hp : ([a, b, ("internal/strconv.uint64pow10", Rows.laid_internal_strconv_uint64pow10), ("paxtar/paxrec.keys", Rows.laid_paxtar_paxrec_keys)].all fun x => x.2.handleName?.isNone) = true) : Vars W := by
  rw [MakeChecks.laidMetH_plain _ _ _ hp] at h
  have h1 := h.tail.tail
  have e : (Rows.laid_internal_strconv_uint64pow10 : DataW Unit) = Lib.tabData .u64 Lib.pow10Tab := by kernel_rfl
  have h2 := h1.tail
  rw [e] at h1
  have ht := Lib.tabIs_of_head (P := Tryz.prog) (by kernel_rfl : Tryz.prog.globalNamed "internal/strconv.uint64pow10" = some 2) (by kernel_rfl : (Tryz.prog.globals[2]?).map (·.type) = some 157) Tryz.underlying157 Tryz.underlying139 (by kernel_rfl) (by kernel_rfl) h1
  obtain ⟨ps, ⟨g', t', cs, fuel, p, q, hg', ht', hvar, hd, _, _⟩, _⟩ := h2
  obtain rfl := Option.some.inj ((by kernel_rfl : Tryz.prog.globalNamed "paxtar/paxrec.keys" = some 3).symm.trans hg')
  obtain rfl := Option.some.inj ((by kernel_rfl : (Tryz.prog.globals[3]?).map (·.type) = some 164).symm.trans ht')
  have hcs := cells_of_strs (zs := [[108, 105, 110, 107, 112, 97, 116, 104], [112, 97, 116, 104], [115, 105, 122, 101]]) Tryz.underlying164 Tryz.underlying9 (by kernel_rfl) (by kernel_rfl) hd
  have hcells := fun i => World.var?_cell (by kernel_rfl : Tryz.prog.globalNamed "paxtar/paxrec.keys" = some 3) hvar i
  have hc : ∀ i, cs[i]? = cs.toList[i]? := fun i => Array.getElem?_toList.symm
  refine ⟨ht, ?_, ?_, ?_⟩
  · rw [hcells, hc, hcs]; rfl
  · rw [hcells, hc, hcs]; rfl
  · rw [hcells, hc, hcs]; rfl
end Go.Proofs.YtmbimnnacjbdfaaGreatDoor.Pxr
/-
  Layer 9: strconv.Itoa.
-/
namespace Go.Proofs.YtmbimnnacjbdfaaGreatDoor.Pxr
open Go.RowKit

theorem str_decD (n : Nat) : (⟨(Lib.decDigits n).toArray⟩ : ByteArray) = strOfNums (decD n) := by
  rw [← strOfNums_numsOf ⟨(Lib.decDigits n).toArray⟩]; rfl
theorem strD_size (n : Nat) : (strOfNums (decD n)).size = Lib.nDigits n := by
  rw [← str_decD, Lib.size_eq]; exact Lib.decDigits_length n

theorem grow_below {B : Nat} (w : World) (k : Nat) (os : Array Obj) (hB : B ≤ w.heap.size) : Below B w (Sort.grow (w.drewN k) os) :=
  ⟨rfl, rfl, rfl, by simp [Sort.grow], fun i hi => by
    show (w.heap ++ os)[i]? = w.heap[i]?
    exact Array.getElem?_append_left (by omega)⟩

theorem itoa_any (n : Nat) (hn : n ≤ 9223372036854775807) (w : World) (V : Vars w) : Calls Tryz.prog 90 #[.int .i64 (n : Int)] w fun e w' => e = .returned (.string (strOfNums (decD n))) ∧ Below w.heap.size w w' := by
  refine (Tryz.strconv_Itoa (n : Int) (by omega) (by omega) w V.tab).mono ?_
  rintro e w' ⟨rfl, k, os, rfl⟩
  refine ⟨?_, grow_below w k os (Nat.le_refl _)⟩
  unfold Lib.itoa
  rw [if_neg (by omega), Int.toNat_natCast, str_decD]
end Go.Proofs.YtmbimnnacjbdfaaGreatDoor.Pxr
/-
  Layer 10: the package-level variables that the calls read: besides those of layer 9 the header types, and the two errors of strconv.
-/
namespace Go.Proofs.YtmbimnnacjbdfaaGreatDoor.Fit
open Go.RowKit Pxr

/-- what Check and Plan read -/
structure FVars (w : World) : Prop where
  v : Vars w
  tys : Lib.TabIs Tryz.prog w "paxtar/fit.types" .u8 [53, 48, 50, 49]

theorem var_below {w w' : World} {B g : Nat} {n : String} {cs : Array Value} (hg : Tryz.prog.globalNamed n = some g) (h : w.var? Tryz.prog n = some cs) (hb : Below B w w') (hB : w.heap.size ≤ B) : w'.var? Tryz.prog n = some cs := by
  unfold World.var? at h ⊢
  rw [hg] at h ⊢
  have hl : g < w.heap.size := by
    rcases Nat.lt_or_ge g w.heap.size with h' | h'
    · exact h'
    · simp [Array.getElem?_eq_none h'] at h
  rw [← h]
  simp only [Option.bind_some]
  rw [hb.block g (by omega)]
theorem gTys : Tryz.prog.globalNamed "paxtar/fit.types" = some 0 := by kernel_rfl
theorem FVars.below {w w' : World} {B : Nat} (h : FVars w) (hb : Below B w w') (hB : w.heap.size ≤ B) : FVars w' :=
  ⟨h.v.below hb hB, var_below gTys h.tys hb hB⟩
theorem FVars.go {w w' : World} (h : FVars w) (hb : Below w.heap.size w w') : FVars w' := h.below hb (Nat.le_refl _)
theorem FVars.ty {w : World} (h : FVars w) {k : Int} (h0 : 0 ≤ k) (h4 : k < 4) : w.cell? ⟨0, k.toNat, none⟩ = some (.int .u8 (tyZ k)) := by
  have hc := h.tys.cell gTys
  rcases (show k = 0 ∨ k = 1 ∨ k = 2 ∨ k = 3 by omega) with rfl | rfl | rfl | rfl
  · exact hc 0 (by decide)
  · exact hc 1 (by decide)
  · exact hc 2 (by decide)
  · exact hc 3 (by decide)

/-! from what a row lists -/
theorem keys_of_head {W : World} {rest : List (String × DataW Unit)} (h2 : laidMet Tryz.prog (("paxtar/paxrec.keys", Rows.laid_paxtar_paxrec_keys) :: rest) W) :
    W.cell? ⟨3, 0, none⟩ = some (.string kLink) ∧ W.cell? ⟨3, 1, none⟩ = some (.string kPath) ∧ W.cell? ⟨3, 2, none⟩ = some (.string kSize) := by
  obtain ⟨ps, ⟨g', t', cs, fuel, p, q, hg', ht', hvar, hd, _, _⟩, _⟩ := h2
  obtain rfl := Option.some.inj ((by kernel_rfl : Tryz.prog.globalNamed "paxtar/paxrec.keys" = some 3).symm.trans hg')
  obtain rfl := Option.some.inj ((by kernel_rfl : (Tryz.prog.globals[3]?).map (·.type) = some 164).symm.trans ht')
  have hcs := cells_of_strs (zs := [[108, 105, 110, 107, 112, 97, 116, 104], [112, 97, 116, 104], [115, 105, 122, 101]]) Tryz.underlying164 Tryz.underlying9 (by kernel_rfl) (by kernel_rfl) hd
  have hcells := fun i => World.var?_cell (by kernel_rfl : Tryz.prog.globalNamed "paxtar/paxrec.keys" = some 3) hvar i
  have hc : ∀ i, cs[i]? = cs.toList[i]? := fun i => Array.getElem?_toList.symm
  refine ⟨?_, ?_, ?_⟩
  · rw [hcells, hc, hcs]; rfl
  · rw [hcells, hc, hcs]; rfl
  · rw [hcells, hc, hcs]; rfl
theorem tab_of_head {W : World} {rest : List (String × DataW Unit)} (h : laidMet Tryz.prog (("internal/strconv.uint64pow10", Rows.laid_internal_strconv_uint64pow10) :: rest) W) : Lib.TabIs Tryz.prog W "internal/strconv.uint64pow10" .u64 Lib.pow10Tab := by
  have e : (Rows.laid_internal_strconv_uint64pow10 : DataW Unit) = Lib.tabData .u64 Lib.pow10Tab := by kernel_rfl
  rw [e] at h
  exact Lib.tabIs_of_head (P := Tryz.prog) (by kernel_rfl : Tryz.prog.globalNamed "internal/strconv.uint64pow10" = some 2) (by kernel_rfl : (Tryz.prog.globals[2]?).map (·.type) = some 157) Tryz.underlying157 Tryz.underlying139 (by kernel_rfl) (by kernel_rfl) h
theorem tys_of_head {W : World} {rest : List (String × DataW Unit)} (h : laidMet Tryz.prog (("paxtar/fit.types", Rows.laid_paxtar_fit_types) :: rest) W) : Lib.TabIs Tryz.prog W "paxtar/fit.types" .u8 [53, 48, 50, 49] := by
  have e : (Rows.laid_paxtar_fit_types : DataW Unit) = Lib.tabData .u8 [53, 48, 50, 49] := by kernel_rfl
  rw [e] at h
  exact Lib.tabIs_of_head (P := Tryz.prog) gTys (by kernel_rfl : (Tryz.prog.globals[0]?).map (·.type) = some 82) Tryz.underlying82 Tryz.underlying5 (by kernel_rfl) (by kernel_rfl) h
/-- the shorter list -/
theorem fvars_of {W : World} {a b : String × DataW Unit} (h : laidMetH Tryz.prog [a, b, ("internal/strconv.uint64pow10", Rows.laid_internal_strconv_uint64pow10), ("paxtar/paxrec.keys", Rows.laid_paxtar_paxrec_keys), ("paxtar/fit.types", Rows.laid_paxtar_fit_types)] W)
    (hp : ([a, b, ("internal/strconv.uint64pow10", Rows.laid_internal_strconv_uint64pow10), ("paxtar/paxrec.keys", Rows.laid_paxtar_paxrec_keys), ("paxtar/fit.types", Rows.laid_paxtar_fit_types)].all fun x => x.2.handleName?.isNone) = true) : FVars W := by
  rw [MakeChecks.laidMetH_plain _ _ _ hp] at h
  have h1 := h.tail.tail
  obtain ⟨k0, k1, k2⟩ := keys_of_head h1.tail
  exact ⟨⟨tab_of_head h1, k0, k1, k2⟩, tys_of_head h1.tail.tail⟩
theorem star : "*" ++ "errors.errorString" = "*errors.errorString" := by decide
end Go.Proofs.YtmbimnnacjbdfaaGreatDoor.Fit
/-
  Layer 8: the reference's Join; strings as numbers.
-/
namespace Go.Proofs.YtmbimnnacjbdfaaGreatDoor.Pnm
open Go.RowKit

theorem wrapP {z : Int} (h1 : 0 ≤ z) (h2 : z ≤ 9223372036854775807) : IntKind.i64.wrap z = z := by
  have hb : IntKind.i64.bits = 64 := rfl
  have hs : IntKind.i64.signed = true := rfl
  unfold IntKind.wrap
  simp only [hb, hs, Bool.true_and]
  have e : (2 : Int) ^ 64 = 18446744073709551616 := by decide
  have e' : (2 : Int) ^ (64 - 1) = 9223372036854775808 := by decide
  rw [e, e', Int.emod_eq_of_lt h1 (by omega), if_neg (by simp; omega)]
theorem bytes_neq {s t : ByteArray} (h : ¬ s = t) : (s.toList == t.toList) = false := by
  rw [beq_eq_false_iff_ne]
  exact fun e => h (by
    apply ByteArray.ext
    apply Array.ext'
    rw [ByteArray.toList_eq, ByteArray.toList_eq] at e
    exact e)
theorem empty_no {s : ByteArray} (h : ¬ s = { data := #[] }) : s.toList.isEmpty = false := by
  have h1 := bytes_neq h
  have e : ({ data := #[] } : ByteArray).toList = [] := by rw [ByteArray.toList_eq]
  rw [e] at h1
  cases hl : s.toList with
  | nil => rw [hl] at h1; simp at h1
  | cons x xs => rfl
theorem nums_cat (s t : ByteArray) : numsOf (s ++ t) = numsOf s ++ numsOf t := by
  unfold numsOf
  rw [ByteArray.data_append, Array.toList_append, List.map_append]
theorem num_at (s : ByteArray) (j : Nat) (h : j < s.size) : (numsOf s).getD j 0 = (s[j].toNat : Int) := by
  have h1 : (numsOf s)[j]? = some (s[j].toNat : Int) := by
    unfold numsOf
    rw [List.getElem?_map, Array.getElem?_toList, Array.getElem?_eq_getElem (by exact h)]
    rfl
  rw [List.getD_eq_getElem?_getD, h1]; rfl

theorem nums_ext (s : ByteArray) (a b : Nat) : numsOf (s.extract a b) = ((numsOf s).drop a).take (b - a) := by
  unfold numsOf
  rw [ByteArray.data_extract, Array.toList_extract, List.extract_eq_take_drop, List.map_take, List.map_drop]
theorem ext_str (s : ByteArray) (a b : Nat) : s.extract a b = strOfNums (((numsOf s).drop a).take (b - a)) := by
  rw [← nums_ext, strOfNums_numsOf]

end Go.Proofs.YtmbimnnacjbdfaaGreatDoor.Pnm
/-
  Layer 8: the reference's part, Check.
-/
namespace Go.Proofs.YtmbimnnacjbdfaaGreatDoor.Pnm
open Go.RowKit

theorem nums_inj {s t : ByteArray} (h : numsOf s = numsOf t) : s = t := by rw [← strOfNums_numsOf s, ← strOfNums_numsOf t, h]

set_option maxHeartbeats 1000000 in
theorem rpart_any (s : ByteArray) (w : World) (hs : s.size ≤ maxLen) : Calls Tryz.prog 118 #[.string s] w fun e w' => e = .returned (.bool (decide (partOk (numsOf s)))) ∧ w = w' := by
  unfold maxLen at hs
  by_cases h1 : s = { data := #[] }
  · subst h1
    rw [decide_eq_false (fun h => h.1 rfl)]
    go_enter Tryz.func118, Tryz.ntmps118
    go_wp2
    go_ret
    exact ⟨rfl, rfl⟩
  · by_cases h2 : s = { data := #[46] }
    · subst h2
      rw [decide_eq_false (fun h => h.2.1 rfl)]
      go_enter Tryz.func118, Tryz.ntmps118
      go_wp2
      go_ret
      exact ⟨rfl, rfl⟩
    · by_cases h3 : s = { data := #[46, 46] }
      · subst h3
        rw [decide_eq_false (fun h => h.2.2.1 rfl)]
        go_enter Tryz.func118, Tryz.ntmps118
        go_wp2
        go_ret
        exact ⟨rfl, rfl⟩
      · have n1 : s.toList.isEmpty = false := empty_no h1
        have n2 := bytes_neq h2
        have n3 := bytes_neq h3
        have e2 : ({ data := #[46] } : ByteArray).toList = [46] := by rw [ByteArray.toList_eq]
        have e3 : ({ data := #[46, 46] } : ByteArray).toList = [46, 46] := by rw [ByteArray.toList_eq]
        have n2' : (s.toList == [46]) = false := by rw [← e2]; exact n2
        have n3' : (s.toList == [46, 46]) = false := by rw [← e3]; exact n3
        have g1 : numsOf s ≠ [] := fun h => h1 (nums_inj h)
        have g2 : numsOf s ≠ [46] := fun h => h2 (nums_inj h)
        have g3 : numsOf s ≠ [46, 46] := fun h => h3 (nums_inj h)
        obtain ⟨R, hR⟩ := named (decide (partOk (numsOf s)))
        have HR : Hid (R = !decide ((0 : Int) ∈ numsOf s)) := by
          show _ = _; rw [hR.out]
          by_cases hz : (0 : Int) ∈ numsOf s
          · rw [decide_eq_false (fun h => h.2.2.2 hz), decide_eq_true hz]; rfl
          · rw [decide_eq_true (show partOk (numsOf s) from ⟨g1, g2, g3, hz⟩), decide_eq_false hz]; rfl
        have HA : Hid (∀ j (h : j < s.size), (numsOf s).getD j 0 = (s[j].toNat : Int)) := num_at s
        have NL := Lib.hid (numsOf_length s)
        rw [← hR.out]
        clear hR g1 g2 g3 h1 h2 h3 e2 e3 n2 n3
        go_enter Tryz.func118, Tryz.ntmps118
        go_wp2
        go_loop [3] (fun i => ∃ j : Nat, j ≤ s.size ∧ i = .int .i64 j ∧ ∀ k, k < j → (numsOf s).getD k 0 ≠ 0) (fun i => s.size + 1 - (intOf i).toNat)
        case atStart => exact ⟨0, Nat.zero_le _, rfl, fun k hk => by omega⟩
        case round =>
          obtain ⟨j, hj, rfl, hz⟩ := hrel
          have HZ := Lib.hid hz
          clear hz
          by_cases hlt : j < s.size
          · have m1 : (j : Int) < s.size := by omega
            have hx := HA.out j hlt
            obtain ⟨x, hxe⟩ : ∃ x : Int, ((s[j].toNat : Nat) : Int) = x := ⟨_, rfl⟩
            rw [hxe] at hx
            by_cases h0 : x = 0
            · have m2 : (x == 0) = true := by rw [h0]; rfl
              have e : Hid (R = false) := by
                show _ = _
                rw [HR.out, decide_eq_true]; rfl
                have hl : j < (numsOf s).length := by rw [NL.out]; exact hlt
                rw [h0, List.getD_eq_getElem?_getD, List.getElem?_eq_getElem hl] at hx
                have hx' : (numsOf s)[j] = 0 := hx
                rw [← hx']; exact List.getElem_mem hl
              clear hx h0
              go_wp2
              go_ret
              rw [e.out]
              exact ⟨rfl, rfl⟩
            · have m2 : (x == 0) = false := by simpa using h0
              have HX : Hid ((numsOf s).getD j 0 ≠ 0) := by show _ ≠ _; rw [hx]; exact h0
              clear hx h0
              go_wp2
              go_round
              case rel => exact ⟨j + 1, by omega, by go_num, fun k hk => by
                by_cases e : k = j
                · rw [e]; exact HX.out
                · exact HZ.out k (by omega)⟩
              case measure => simp [intOf]; omega
          · obtain rfl : j = s.size := by omega
            have e : Hid (R = true) := by
              show _ = _
              rw [HR.out, decide_eq_false]; rfl
              intro hm
              obtain ⟨k, hk, he⟩ := List.getElem_of_mem hm
              refine HZ.out k (by rw [NL.out] at hk; exact hk) ?_
              rw [List.getD_eq_getElem?_getD, List.getElem?_eq_getElem hk]; exact he
            go_wp2
            go_ret
            rw [e.out]
            exact ⟨rfl, rfl⟩

theorem ext_size (s : ByteArray) (a b : Nat) : (s.extract a b).size ≤ s.size := by
  rw [← numsOf_length, nums_ext, List.length_take, List.length_drop, numsOf_length]; omega
theorem mem_getD {l : List Int} {x : Int} (h : x ∈ l) : ∃ i, i < l.length ∧ l.getD i 0 = x := by
  obtain ⟨i, hi, e⟩ := List.getElem_of_mem h
  exact ⟨i, hi, by rw [List.getD_eq_getElem?_getD, List.getElem?_eq_getElem hi]; exact e⟩
/-- the bytes from a up to j hold no slash -/
theorem no_slash {zs : List Int} {a j : Nat} (h : ∀ k, a ≤ k → k < j → zs.getD k 0 ≠ 47) : (47 : Int) ∉ (zs.drop a).take (j - a) := by
  intro hm
  obtain ⟨i, hi, he⟩ := mem_getD hm
  rw [List.length_take, List.length_drop] at hi
  rw [List.getD_eq_getElem?_getD, List.getElem?_take, if_pos (by omega), List.getElem?_drop, ← List.getD_eq_getElem?_getD] at he
  exact h (a + i) (by omega) (by omega) he
theorem cut_at {zs : List Int} {a j : Nat} (ha : a ≤ j) (hj : j < zs.length) (h : zs.getD j 0 = 47) : zs.drop a = (zs.drop a).take (j - a) ++ 47 :: zs.drop (j + 1) := by
  have hg : zs[j] = 47 := by rw [List.getD_eq_getElem?_getD, List.getElem?_eq_getElem hj] at h; exact h
  have e : zs.drop j = 47 :: zs.drop (j + 1) := by rw [List.drop_eq_getElem_cons hj, hg]
  rw [← e]
  conv => lhs; rw [← List.take_append_drop (j - a) (zs.drop a)]
  rw [List.drop_drop, show a + (j - a) = j by omega]

set_option maxRecDepth 100000 in
set_option maxHeartbeats 4000000 in
theorem rcheck_any (s : ByteArray) (w : World) (hs : s.size ≤ maxLen) : Calls Tryz.prog 92 #[.string s] w fun e w' => e = .returned (.int .i64 (chE (numsOf s))) ∧ w = w' := by
  have hs0 := hs
  unfold maxLen at hs
  have NL := Lib.hid (numsOf_length s)
  by_cases h1 : 65536 < s.size
  · have h1' : (65536 : Int) < s.size := by omega
    have e : chE (numsOf s) = 7 := by unfold chE; rw [if_pos (by rw [NL.out]; exact h1)]
    rw [e]
    go_enter Tryz.func92, Tryz.ntmps92
    go_wp2
    go_ret
    exact ⟨rfl, rfl⟩
  · have h1' : ¬ (65536 : Int) < s.size := by omega
    have h1'' : (s.size : Int) ≤ 65536 := by omega
    obtain ⟨R, hR⟩ := named (chE (numsOf s))
    have RG : Hid (pathOk (numsOf s) → R = 0) := fun h => by rw [hR.out]; unfold chE; rw [if_neg (by rw [NL.out]; exact h1), if_pos h]
    have RB : Hid (¬ pathOk (numsOf s) → R = 6) := fun h => by rw [hR.out]; unfold chE; rw [if_neg (by rw [NL.out]; exact h1), if_neg h]
    have HA : Hid (∀ j (h : j < s.size), (numsOf s).getD j 0 = (s[j].toNat : Int)) := num_at s
    have HSM := Lib.hid hs0
    rw [← hR.out]
    clear hR hs0
    go_enter Tryz.func92, Tryz.ntmps92
    go_wp2
    go_loop [3, 4] (fun f i => ∃ a j : Nat, f = .int .i64 a ∧ i = .int .i64 j ∧ ((j ≤ s.size ∧ a ≤ j ∧ (∀ k, a ≤ k → k < j → (numsOf s).getD k 0 ≠ 47) ∧ (pathOk (numsOf s) ↔ pathOk ((numsOf s).drop a))) ∨ (j = s.size + 1 ∧ pathOk (numsOf s)))) (fun _ i => s.size + 2 - (intOf i).toNat)
    case atStart => exact ⟨0, 0, rfl, rfl, .inl ⟨Nat.zero_le _, Nat.le_refl _, fun k _ h => by omega, Iff.rfl⟩⟩
    case round =>
      obtain ⟨a, j, rfl, rfl, hc⟩ := hrel
      rcases hc with ⟨hj, ha, hn, hi⟩ | ⟨hj, hok⟩
      · have HN := Lib.hid hn; have HI := Lib.hid hi
        clear hn hi
        have m0 : (j : Int) ≤ s.size := by omega
        have m1 : (a : Int) ≤ j := by omega
        by_cases hlt : j < s.size
        · have m2 : ((j : Int) == s.size) = false := by simp; omega
          have m3 : (j : Int) < s.size := by omega
          have hx := HA.out j hlt
          obtain ⟨x, hxe⟩ : ∃ x : Int, ((s[j].toNat : Nat) : Int) = x := ⟨_, rfl⟩
          rw [hxe] at hx
          by_cases h47 : x = 47
          · have m4 : (x == 47) = true := by rw [h47]; rfl
            have cut := cut_at (zs := numsOf s) ha (by rw [NL.out]; exact hlt) (by rw [hx]; exact h47)
            have nsl := no_slash (zs := numsOf s) HN.out
            have STEP : Hid (pathOk (numsOf s) ↔ partOk (numsOf (s.extract a j)) ∧ pathOk ((numsOf s).drop (j + 1))) := by
              show _ ↔ _
              rw [HI.out, cut, pathOk_app, nums_ext, pathOk_one nsl]
            clear hx h47 cut nsl
            go_wp2_with fail
            refine (rpart_any (s.extract a j) w (Nat.le_trans (ext_size s a j) HSM.out)).mono ?_; rintro e w1 ⟨rfl, rfl⟩
            by_cases hp : partOk (numsOf (s.extract a j))
            · have HP := Lib.hid hp
              rw [decide_eq_true hp]
              clear hp
              go_wp2
              go_round
              case rel => exact ⟨j + 1, j + 1, by go_num, by go_num, .inl ⟨by omega, Nat.le_refl _, fun k h1 h2 => by omega, ⟨fun h => (STEP.out.1 h).2, fun h => STEP.out.2 ⟨HP.out, h⟩⟩⟩⟩
              case measure => simp [intOf]; omega
            · have e := Lib.hid (RB.out fun h => hp (STEP.out.1 h).1)
              rw [decide_eq_false hp]
              clear hp
              go_wp2
              go_ret
              rw [e.out]
              exact ⟨rfl, rfl⟩
          · have m4 : (x == 47) = false := by simpa using h47
            have HX : Hid ((numsOf s).getD j 0 ≠ 47) := by show _ ≠ _; rw [hx]; exact h47
            clear hx h47
            go_wp2
            go_round
            case rel => exact ⟨a, j + 1, rfl, by go_num, .inl ⟨by omega, by omega, fun k h1 h2 => by
              by_cases e : k = j
              · rw [e]; exact HX.out
              · exact HN.out k h1 (by omega), HI.out⟩⟩
            case measure => simp [intOf]; omega
        · obtain rfl : j = s.size := by omega
          have nsl := no_slash (zs := numsOf s) HN.out
          have STEP : Hid (pathOk (numsOf s) ↔ partOk (numsOf (s.extract a s.size))) := by
            show _ ↔ _
            rw [HI.out, nums_ext, ← pathOk_one nsl, List.take_of_length_le (by rw [List.length_drop, NL.out]; exact Nat.le_refl _)]
          clear nsl
          go_wp2_with fail
          refine (rpart_any (s.extract a s.size) w (Nat.le_trans (ext_size s a s.size) HSM.out)).mono ?_; rintro e w1 ⟨rfl, rfl⟩
          by_cases hp : partOk (numsOf (s.extract a s.size))
          · have HP := Lib.hid (STEP.out.2 hp)
            rw [decide_eq_true hp]
            clear hp
            go_wp2
            go_round
            case rel => exact ⟨s.size + 1, s.size + 1, by go_num, by go_num, .inr ⟨rfl, HP.out⟩⟩
            case measure => simp [intOf]
          · have e := Lib.hid (RB.out fun h => hp (STEP.out.1 h))
            rw [decide_eq_false hp]
            clear hp
            go_wp2
            go_ret
            rw [e.out]
            exact ⟨rfl, rfl⟩
      · have e := Lib.hid (RG.out hok)
        have m0 : decide ((j : Int) ≤ s.size) = false := by simp; omega
        clear hok
        go_wp2
        go_ret
        rw [e.out]
        exact ⟨rfl, rfl⟩
end Go.Proofs.YtmbimnnacjbdfaaGreatDoor.Pnm
/-
  Layer 12: the variables from the shorter list of this layer's cards.
-/
namespace Go.Proofs.YtmbimnnacjbdfaaGreatDoor.Etr
open Go.RowKit Go.Proofs.YtmbimnnacjbdfaaGreatDoor.Fit Pxr

/-- the shorter list -/
theorem fvars_of {W : World} {a b c d : String × DataW Unit} (h : laidMetH Tryz.prog [a, b, ("internal/strconv.uint64pow10", Rows.laid_internal_strconv_uint64pow10), c, ("paxtar/paxrec.keys", Rows.laid_paxtar_paxrec_keys), ("paxtar/fit.types", Rows.laid_paxtar_fit_types), d] W)
    (hp : ([a, b, ("internal/strconv.uint64pow10", Rows.laid_internal_strconv_uint64pow10), c, ("paxtar/paxrec.keys", Rows.laid_paxtar_paxrec_keys), ("paxtar/fit.types", Rows.laid_paxtar_fit_types), d].all fun x => x.2.handleName?.isNone) = true) : FVars W := by
  rw [MakeChecks.laidMetH_plain _ _ _ hp] at h
  have h1 := h.tail.tail
  have h2 := h1.tail.tail
  obtain ⟨k0, k1, k2⟩ := keys_of_head h2
  exact ⟨⟨tab_of_head h1, k0, k1, k2⟩, tys_of_head h2.tail⟩
end Go.Proofs.YtmbimnnacjbdfaaGreatDoor.Etr
