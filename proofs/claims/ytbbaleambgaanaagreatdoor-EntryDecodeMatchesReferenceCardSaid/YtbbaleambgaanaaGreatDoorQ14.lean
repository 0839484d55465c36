/- FitVars PnmRefJ PnmRefK PnmIter -/
import Derived.Test.YtbbaleambgaanaaGreatDoorQ5
import Derived.Test.YtbbaleambgaanaaGreatDoorQ1
import Derived.Test.YtbbaleambgaanaaGreatDoorRows
import Derived.Test.YtbbaleambgaanaaGreatDoorQ0
import Derived.Deep.DeepMust
import Derived.RangeFuncNested
import Derived.RangeFuncBound
import Derived.RangeFuncCalls
import Derived.RangeFuncLeaves
import Derived.Shelf.Abstract
import Derived.Shelf.RegionOpen
import Derived.WalkKit
import Derived.OwnWalkIn
import Derived.TacticsInMore
import Derived.LoopNIn
import Derived.LoopIn
namespace Go.Proofs.YtbbaleambgaanaaGreatDoor.Fit
open Go.RowKit Pxr
structure FVars (w : World) : Prop where
  v : Vars w
  tys : Lib.TabIs Tryz.prog w "paxtar/fit.types" .u8 [53, 48, 50, 49]
structure MVars (w : World) : Prop where
  f : FVars w
  syn : ∃ tp p, w.var? Tryz.prog "strconv.ErrSyntax" = some #[.iface tp p]
  rng : ∃ tp p, w.var? Tryz.prog "strconv.ErrRange" = some #[.iface tp p]
theorem var_below {w w' : World} {B g : Nat} {n : String} {cs : Array Value} (hg : Tryz.prog.globalNamed n = some g) (h : w.var? Tryz.prog n = some cs) (hb : Below B w w') (hB : w.heap.size ≤ B) : w'.var? Tryz.prog n = some cs := by
  unfold World.var? at h ⊢
  rw [hg] at h ⊢
  have hl : g < w.heap.size := by
    rcases Nat.lt_or_ge g w.heap.size with h' | h'
    · exact h'
    · simp [Array.getElem?_eq_none h'] at h
  rw [← h]
  simp only [Option.bind_some]
  rw [hb.block g (by omega)]
theorem gTys : Tryz.prog.globalNamed "paxtar/fit.types" = some 0 := by kernel_rfl
theorem gSyn : Tryz.prog.globalNamed "strconv.ErrSyntax" = some 6 := by kernel_rfl
theorem gRng : Tryz.prog.globalNamed "strconv.ErrRange" = some 7 := by kernel_rfl
theorem FVars.below {w w' : World} {B : Nat} (h : FVars w) (hb : Below B w w') (hB : w.heap.size ≤ B) : FVars w' :=
  ⟨h.v.below hb hB, var_below gTys h.tys hb hB⟩
theorem FVars.go {w w' : World} (h : FVars w) (hb : Below w.heap.size w w') : FVars w' := h.below hb (Nat.le_refl _)
theorem MVars.below {w w' : World} {B : Nat} (h : MVars w) (hb : Below B w w') (hB : w.heap.size ≤ B) : MVars w' := by
  obtain ⟨f, ⟨a, b, c⟩, ⟨d, e, g⟩⟩ := h
  exact ⟨f.below hb hB, ⟨a, b, var_below gSyn c hb hB⟩, ⟨d, e, var_below gRng g hb hB⟩⟩
theorem MVars.go {w w' : World} (h : MVars w) (hb : Below w.heap.size w w') : MVars w' := h.below hb (Nat.le_refl _)
theorem FVars.ty {w : World} (h : FVars w) {k : Int} (h0 : 0 ≤ k) (h4 : k < 4) : w.cell? ⟨0, k.toNat, none⟩ = some (.int .u8 (tyZ k)) := by
  have hc := h.tys.cell gTys
  rcases (show k = 0 ∨ k = 1 ∨ k = 2 ∨ k = 3 by omega) with rfl | rfl | rfl | rfl
  · exact hc 0 (by decide)
  · exact hc 1 (by decide)
  · exact hc 2 (by decide)
  · exact hc 3 (by decide)
theorem keys_of_head {W : World} {rest : List (String × DataW Unit)} (h2 : laidMet Tryz.prog (("paxtar/paxrec.keys", Rows.laid_paxtar_paxrec_keys) :: rest) W) :
    W.cell? ⟨1, 0, none⟩ = some (.string kLink) ∧ W.cell? ⟨1, 1, none⟩ = some (.string kPath) ∧ W.cell? ⟨1, 2, none⟩ = some (.string kSize) := by
  obtain ⟨ps, ⟨g', t', cs, fuel, p, q, hg', ht', hvar, hd, _, _⟩, _⟩ := h2
  obtain rfl := Option.some.inj ((by kernel_rfl : Tryz.prog.globalNamed "paxtar/paxrec.keys" = some 1).symm.trans hg')
  obtain rfl := Option.some.inj ((by kernel_rfl : (Tryz.prog.globals[1]?).map (·.type) = some 231).symm.trans ht')
  have hcs := cells_of_strs (zs := [[108, 105, 110, 107, 112, 97, 116, 104], [112, 97, 116, 104], [115, 105, 122, 101]]) Tryz.underlying231 Tryz.underlying9 (by kernel_rfl) (by kernel_rfl) hd
  have hcells := fun i => World.var?_cell (by kernel_rfl : Tryz.prog.globalNamed "paxtar/paxrec.keys" = some 1) hvar i
  have hc : ∀ i, cs[i]? = cs.toList[i]? := fun i => Array.getElem?_toList.symm
  refine ⟨?_, ?_, ?_⟩
  · rw [hcells, hc, hcs]; rfl
  · rw [hcells, hc, hcs]; rfl
  · rw [hcells, hc, hcs]; rfl
theorem tab_of_head {W : World} {rest : List (String × DataW Unit)} (h : laidMet Tryz.prog (("internal/strconv.uint64pow10", Rows.laid_internal_strconv_uint64pow10) :: rest) W) : Lib.TabIs Tryz.prog W "internal/strconv.uint64pow10" .u64 Lib.pow10Tab := by
  have e : (Rows.laid_internal_strconv_uint64pow10 : DataW Unit) = Lib.tabData .u64 Lib.pow10Tab := by kernel_rfl
  rw [e] at h
  exact Lib.tabIs_of_head (P := Tryz.prog) (by kernel_rfl : Tryz.prog.globalNamed "internal/strconv.uint64pow10" = some 2) (by kernel_rfl : (Tryz.prog.globals[2]?).map (·.type) = some 236) Tryz.underlying236 Tryz.underlying174 (by kernel_rfl) (by kernel_rfl) h
theorem tys_of_head {W : World} {rest : List (String × DataW Unit)} (h : laidMet Tryz.prog (("paxtar/fit.types", Rows.laid_paxtar_fit_types) :: rest) W) : Lib.TabIs Tryz.prog W "paxtar/fit.types" .u8 [53, 48, 50, 49] := by
  have e : (Rows.laid_paxtar_fit_types : DataW Unit) = Lib.tabData .u8 [53, 48, 50, 49] := by kernel_rfl
  rw [e] at h
  exact Lib.tabIs_of_head (P := Tryz.prog) gTys (by kernel_rfl : (Tryz.prog.globals[0]?).map (·.type) = some 105) Tryz.underlying105 Tryz.underlying5 (by kernel_rfl) (by kernel_rfl) h
theorem star : "*" ++ "errors.errorString" = "*errors.errorString" := by decide
theorem rowE (u : TypeId) (h : Tryz.prog.typeName? 3 u = some "*errors.errorString") : u = 271 :=
  typeName_ptr_named (nm := "errors.errorString") (by rw [star]; kernel_rfl) (by kernel_rfl) (by decide) u (by rw [star]; exact h)
theorem mvars_of {W : World} {a b : String × DataW Unit} (h : laidMetH Tryz.prog [a, b, ("internal/strconv.uint64pow10", Rows.laid_internal_strconv_uint64pow10), ("strconv.ErrRange", Rows.laid_strconv_ErrRange), ("strconv.ErrSyntax", Rows.laid_strconv_ErrSyntax), ("paxtar/paxrec.keys", Rows.laid_paxtar_paxrec_keys), ("paxtar/fit.types", Rows.laid_paxtar_fit_types)] W)
    (hp : ([a, b, ("internal/strconv.uint64pow10", Rows.laid_internal_strconv_uint64pow10), ("strconv.ErrRange", Rows.laid_strconv_ErrRange), ("strconv.ErrSyntax", Rows.laid_strconv_ErrSyntax), ("paxtar/paxrec.keys", Rows.laid_paxtar_paxrec_keys), ("paxtar/fit.types", Rows.laid_paxtar_fit_types)].all fun x => x.2.handleName?.isNone) = true) : MVars W := by
  rw [MakeChecks.laidMetH_plain _ _ _ hp] at h
  have h1 := h.tail.tail
  have h2 := h1.tail
  have h3 := h2.tail
  have h4 := h3.tail
  obtain ⟨k0, k1, k2⟩ := keys_of_head h4
  obtain ⟨a0, s0, hr, -, -, -⟩ := laid_sentinel h2 gRng (by kernel_rfl : (Tryz.prog.globals[7]?).map (·.type) = some 120) Tryz.underlying120 rowE Tryz.underlying271 Tryz.underlying273 rfl rfl Tryz.underlying9 (by kernel_rfl) (by kernel_rfl)
  obtain ⟨a1, s1, hs, -, -, -⟩ := laid_sentinel h3 gSyn (by kernel_rfl : (Tryz.prog.globals[6]?).map (·.type) = some 120) Tryz.underlying120 rowE Tryz.underlying271 Tryz.underlying273 rfl rfl Tryz.underlying9 (by kernel_rfl) (by kernel_rfl)
  exact ⟨⟨⟨tab_of_head h1, k0, k1, k2⟩, tys_of_head h4.tail⟩, ⟨_, _, hs⟩, ⟨_, _, hr⟩⟩
end Go.Proofs.YtbbaleambgaanaaGreatDoor.Fit
namespace Go.Proofs.YtbbaleambgaanaaGreatDoor.Pnm
open Go.RowKit
theorem wrapP {z : Int} (h1 : 0 ≤ z) (h2 : z ≤ 9223372036854775807) : IntKind.i64.wrap z = z := by
  have hb : IntKind.i64.bits = 64 := rfl
  have hs : IntKind.i64.signed = true := rfl
  unfold IntKind.wrap
  simp only [hb, hs, Bool.true_and]
  have e : (2 : Int) ^ 64 = 18446744073709551616 := by decide
  have e' : (2 : Int) ^ (64 - 1) = 9223372036854775808 := by decide
  rw [e, e', Int.emod_eq_of_lt h1 (by omega), if_neg (by simp; omega)]
theorem bytes_neq {s t : ByteArray} (h : ¬ s = t) : (s.toList == t.toList) = false := by
  rw [beq_eq_false_iff_ne]
  exact fun e => h (by
    apply ByteArray.ext
    apply Array.ext'
    rw [ByteArray.toList_eq, ByteArray.toList_eq] at e
    exact e)
theorem empty_no {s : ByteArray} (h : ¬ s = { data := #[] }) : s.toList.isEmpty = false := by
  have h1 := bytes_neq h
  have e : ({ data := #[] } : ByteArray).toList = [] := by rw [ByteArray.toList_eq]
  rw [e] at h1
  cases hl : s.toList with
  | nil => rw [hl] at h1; simp at h1
  | cons x xs => rfl
theorem nums_cat (s t : ByteArray) : numsOf (s ++ t) = numsOf s ++ numsOf t := by
  unfold numsOf
  rw [ByteArray.data_append, Array.toList_append, List.map_append]
theorem num_at (s : ByteArray) (j : Nat) (h : j < s.size) : (numsOf s).getD j 0 = (s[j].toNat : Int) := by
  have h1 : (numsOf s)[j]? = some (s[j].toNat : Int) := by
    unfold numsOf
    rw [List.getElem?_map, Array.getElem?_toList, Array.getElem?_eq_getElem (by exact h)]
    rfl
  rw [List.getD_eq_getElem?_getD, h1]; rfl
theorem nums_ext (s : ByteArray) (a b : Nat) : numsOf (s.extract a b) = ((numsOf s).drop a).take (b - a) := by
  unfold numsOf
  rw [ByteArray.data_extract, Array.toList_extract, List.extract_eq_take_drop, List.map_take, List.map_drop]
theorem ext_str (s : ByteArray) (a b : Nat) : s.extract a b = strOfNums (((numsOf s).drop a).take (b - a)) := by
  rw [← nums_ext, strOfNums_numsOf]
theorem rjoin_any (s t : ByteArray) (w : World) (hs : s.size ≤ 1000000) (ht : t.size ≤ 1000000) : Calls Tryz.prog 86 #[.string s, .string t] w fun e w' => e = .returned (.string (strOfNums (joinZ (numsOf s) (numsOf t)))) ∧ w = w' := by
  have h1 : (s.size : Int) ≤ 1000000 := by omega
  have h2 : (t.size : Int) ≤ 1000000 := by omega
  by_cases he : s = { data := #[] }
  · subst he
    have e : joinZ (numsOf { data := #[] }) (numsOf t) = numsOf t := rfl
    rw [e, strOfNums_numsOf]
    go_enter Tryz.func86, Tryz.ntmps86
    go_wp2
    go_ret
    exact ⟨rfl, rfl⟩
  · have hn : numsOf s ≠ [] := fun h => he (by have := congrArg strOfNums h; rw [strOfNums_numsOf] at this; rw [this]; rfl)
    have e : joinZ (numsOf s) (numsOf t) = numsOf (s ++ { data := #[47] } ++ t) := by
      unfold joinZ; rw [if_neg hn, nums_cat, nums_cat, List.append_assoc]; rfl
    rw [e, strOfNums_numsOf]
    have hne : s.toList.isEmpty = false := empty_no he
    clear hn e he hs ht
    go_enter Tryz.func86, Tryz.ntmps86
    go_wp2
    go_ret
    exact ⟨rfl, rfl⟩
end Go.Proofs.YtbbaleambgaanaaGreatDoor.Pnm
namespace Go.Proofs.YtbbaleambgaanaaGreatDoor.Pnm
open Go.RowKit
theorem nums_inj {s t : ByteArray} (h : numsOf s = numsOf t) : s = t := by rw [← strOfNums_numsOf s, ← strOfNums_numsOf t, h]
set_option maxHeartbeats 1000000 in
theorem rpart_any (s : ByteArray) (w : World) (hs : s.size ≤ maxLen) : Calls Tryz.prog 156 #[.string s] w fun e w' => e = .returned (.bool (decide (partOk (numsOf s)))) ∧ w = w' := by
  unfold maxLen at hs
  by_cases h1 : s = { data := #[] }
  · subst h1
    rw [decide_eq_false (fun h => h.1 rfl)]
    go_enter Tryz.func156, Tryz.ntmps156
    go_wp2
    go_ret
    exact ⟨rfl, rfl⟩
  · by_cases h2 : s = { data := #[46] }
    · subst h2
      rw [decide_eq_false (fun h => h.2.1 rfl)]
      go_enter Tryz.func156, Tryz.ntmps156
      go_wp2
      go_ret
      exact ⟨rfl, rfl⟩
    · by_cases h3 : s = { data := #[46, 46] }
      · subst h3
        rw [decide_eq_false (fun h => h.2.2.1 rfl)]
        go_enter Tryz.func156, Tryz.ntmps156
        go_wp2
        go_ret
        exact ⟨rfl, rfl⟩
      · have n1 : s.toList.isEmpty = false := empty_no h1
        have n2 := bytes_neq h2
        have n3 := bytes_neq h3
        have e2 : ({ data := #[46] } : ByteArray).toList = [46] := by rw [ByteArray.toList_eq]
        have e3 : ({ data := #[46, 46] } : ByteArray).toList = [46, 46] := by rw [ByteArray.toList_eq]
        have n2' : (s.toList == [46]) = false := by rw [← e2]; exact n2
        have n3' : (s.toList == [46, 46]) = false := by rw [← e3]; exact n3
        have g1 : numsOf s ≠ [] := fun h => h1 (nums_inj h)
        have g2 : numsOf s ≠ [46] := fun h => h2 (nums_inj h)
        have g3 : numsOf s ≠ [46, 46] := fun h => h3 (nums_inj h)
        obtain ⟨R, hR⟩ := named (decide (partOk (numsOf s)))
        have HR : Hid (R = !decide ((0 : Int) ∈ numsOf s)) := by
          show _ = _; rw [hR.out]
          by_cases hz : (0 : Int) ∈ numsOf s
          · rw [decide_eq_false (fun h => h.2.2.2 hz), decide_eq_true hz]; rfl
          · rw [decide_eq_true (show partOk (numsOf s) from ⟨g1, g2, g3, hz⟩), decide_eq_false hz]; rfl
        have HA : Hid (∀ j (h : j < s.size), (numsOf s).getD j 0 = (s[j].toNat : Int)) := num_at s
        have NL := Lib.hid (numsOf_length s)
        rw [← hR.out]
        clear hR g1 g2 g3 h1 h2 h3 e2 e3 n2 n3
        go_enter Tryz.func156, Tryz.ntmps156
        go_wp2
        go_loop [3] (fun i => ∃ j : Nat, j ≤ s.size ∧ i = .int .i64 j ∧ ∀ k, k < j → (numsOf s).getD k 0 ≠ 0) (fun i => s.size + 1 - (intOf i).toNat)
        case atStart => exact ⟨0, Nat.zero_le _, rfl, fun k hk => by omega⟩
        case round =>
          obtain ⟨j, hj, rfl, hz⟩ := hrel
          have HZ := Lib.hid hz
          clear hz
          by_cases hlt : j < s.size
          · have m1 : (j : Int) < s.size := by omega
            have hx := HA.out j hlt
            obtain ⟨x, hxe⟩ : ∃ x : Int, ((s[j].toNat : Nat) : Int) = x := ⟨_, rfl⟩
            rw [hxe] at hx
            by_cases h0 : x = 0
            · have m2 : (x == 0) = true := by rw [h0]; rfl
              have e : Hid (R = false) := by
                show _ = _
                rw [HR.out, decide_eq_true]; rfl
                have hl : j < (numsOf s).length := by rw [NL.out]; exact hlt
                rw [h0, List.getD_eq_getElem?_getD, List.getElem?_eq_getElem hl] at hx
                have hx' : (numsOf s)[j] = 0 := hx
                rw [← hx']; exact List.getElem_mem hl
              clear hx h0
              go_wp2
              go_ret
              rw [e.out]
              exact ⟨rfl, rfl⟩
            · have m2 : (x == 0) = false := by simpa using h0
              have HX : Hid ((numsOf s).getD j 0 ≠ 0) := by show _ ≠ _; rw [hx]; exact h0
              clear hx h0
              go_wp2
              go_round
              case rel => exact ⟨j + 1, by omega, by go_num, fun k hk => by
                by_cases e : k = j
                · rw [e]; exact HX.out
                · exact HZ.out k (by omega)⟩
              case measure => simp [intOf]; omega
          · obtain rfl : j = s.size := by omega
            have e : Hid (R = true) := by
              show _ = _
              rw [HR.out, decide_eq_false]; rfl
              intro hm
              obtain ⟨k, hk, he⟩ := List.getElem_of_mem hm
              refine HZ.out k (by rw [NL.out] at hk; exact hk) ?_
              rw [List.getD_eq_getElem?_getD, List.getElem?_eq_getElem hk]; exact he
            go_wp2
            go_ret
            rw [e.out]
            exact ⟨rfl, rfl⟩
theorem ext_size (s : ByteArray) (a b : Nat) : (s.extract a b).size ≤ s.size := by
  rw [← numsOf_length, nums_ext, List.length_take, List.length_drop, numsOf_length]; omega
theorem mem_getD {l : List Int} {x : Int} (h : x ∈ l) : ∃ i, i < l.length ∧ l.getD i 0 = x := by
  obtain ⟨i, hi, e⟩ := List.getElem_of_mem h
  exact ⟨i, hi, by rw [List.getD_eq_getElem?_getD, List.getElem?_eq_getElem hi]; exact e⟩
theorem no_slash {zs : List Int} {a j : Nat} (h : ∀ k, a ≤ k → k < j → zs.getD k 0 ≠ 47) : (47 : Int) ∉ (zs.drop a).take (j - a) := by
  intro hm
  obtain ⟨i, hi, he⟩ := mem_getD hm
  rw [List.length_take, List.length_drop] at hi
  rw [List.getD_eq_getElem?_getD, List.getElem?_take, if_pos (by omega), List.getElem?_drop, ← List.getD_eq_getElem?_getD] at he
  exact h (a + i) (by omega) (by omega) he
theorem cut_at {zs : List Int} {a j : Nat} (ha : a ≤ j) (hj : j < zs.length) (h : zs.getD j 0 = 47) : zs.drop a = (zs.drop a).take (j - a) ++ 47 :: zs.drop (j + 1) := by
  have hg : zs[j] = 47 := by rw [List.getD_eq_getElem?_getD, List.getElem?_eq_getElem hj] at h; exact h
  have e : zs.drop j = 47 :: zs.drop (j + 1) := by rw [List.drop_eq_getElem_cons hj, hg]
  rw [← e]
  conv => lhs; rw [← List.take_append_drop (j - a) (zs.drop a)]
  rw [List.drop_drop, show a + (j - a) = j by omega]
set_option maxRecDepth 100000 in
set_option maxHeartbeats 4000000 in
theorem rcheck_any (s : ByteArray) (w : World) (hs : s.size ≤ maxLen) : Calls Tryz.prog 121 #[.string s] w fun e w' => e = .returned (.int .i64 (chE (numsOf s))) ∧ w = w' := by
  have hs0 := hs
  unfold maxLen at hs
  have NL := Lib.hid (numsOf_length s)
  by_cases h1 : 65536 < s.size
  · have h1' : (65536 : Int) < s.size := by omega
    have e : chE (numsOf s) = 7 := by unfold chE; rw [if_pos (by rw [NL.out]; exact h1)]
    rw [e]
    go_enter Tryz.func121, Tryz.ntmps121
    go_wp2
    go_ret
    exact ⟨rfl, rfl⟩
  · have h1' : ¬ (65536 : Int) < s.size := by omega
    have h1'' : (s.size : Int) ≤ 65536 := by omega
    obtain ⟨R, hR⟩ := named (chE (numsOf s))
    have RG : Hid (pathOk (numsOf s) → R = 0) := fun h => by rw [hR.out]; unfold chE; rw [if_neg (by rw [NL.out]; exact h1), if_pos h]
    have RB : Hid (¬ pathOk (numsOf s) → R = 6) := fun h => by rw [hR.out]; unfold chE; rw [if_neg (by rw [NL.out]; exact h1), if_neg h]
    have HA : Hid (∀ j (h : j < s.size), (numsOf s).getD j 0 = (s[j].toNat : Int)) := num_at s
    have HSM := Lib.hid hs0
    rw [← hR.out]
    clear hR hs0
    go_enter Tryz.func121, Tryz.ntmps121
    go_wp2
    go_loop [3, 4] (fun f i => ∃ a j : Nat, f = .int .i64 a ∧ i = .int .i64 j ∧ ((j ≤ s.size ∧ a ≤ j ∧ (∀ k, a ≤ k → k < j → (numsOf s).getD k 0 ≠ 47) ∧ (pathOk (numsOf s) ↔ pathOk ((numsOf s).drop a))) ∨ (j = s.size + 1 ∧ pathOk (numsOf s)))) (fun _ i => s.size + 2 - (intOf i).toNat)
    case atStart => exact ⟨0, 0, rfl, rfl, .inl ⟨Nat.zero_le _, Nat.le_refl _, fun k _ h => by omega, Iff.rfl⟩⟩
    case round =>
      obtain ⟨a, j, rfl, rfl, hc⟩ := hrel
      rcases hc with ⟨hj, ha, hn, hi⟩ | ⟨hj, hok⟩
      · have HN := Lib.hid hn; have HI := Lib.hid hi
        clear hn hi
        have m0 : (j : Int) ≤ s.size := by omega
        have m1 : (a : Int) ≤ j := by omega
        by_cases hlt : j < s.size
        · have m2 : ((j : Int) == s.size) = false := by simp; omega
          have m3 : (j : Int) < s.size := by omega
          have hx := HA.out j hlt
          obtain ⟨x, hxe⟩ : ∃ x : Int, ((s[j].toNat : Nat) : Int) = x := ⟨_, rfl⟩
          rw [hxe] at hx
          by_cases h47 : x = 47
          · have m4 : (x == 47) = true := by rw [h47]; rfl
            have cut := cut_at (zs := numsOf s) ha (by rw [NL.out]; exact hlt) (by rw [hx]; exact h47)
            have nsl := no_slash (zs := numsOf s) HN.out
            have STEP : Hid (pathOk (numsOf s) ↔ partOk (numsOf (s.extract a j)) ∧ pathOk ((numsOf s).drop (j + 1))) := by
              show _ ↔ _
              rw [HI.out, cut, pathOk_app, nums_ext, pathOk_one nsl]
            clear hx h47 cut nsl
            go_wp2_with fail
            refine (rpart_any (s.extract a j) w (Nat.le_trans (ext_size s a j) HSM.out)).mono ?_; rintro e w1 ⟨rfl, rfl⟩
            by_cases hp : partOk (numsOf (s.extract a j))
            · have HP := Lib.hid hp
              rw [decide_eq_true hp]
              clear hp
              go_wp2
              go_round
              case rel => exact ⟨j + 1, j + 1, by go_num, by go_num, .inl ⟨by omega, Nat.le_refl _, fun k h1 h2 => by omega, ⟨fun h => (STEP.out.1 h).2, fun h => STEP.out.2 ⟨HP.out, h⟩⟩⟩⟩
              case measure => simp [intOf]; omega
            · have e := Lib.hid (RB.out fun h => hp (STEP.out.1 h).1)
              rw [decide_eq_false hp]
              clear hp
              go_wp2
              go_ret
              rw [e.out]
              exact ⟨rfl, rfl⟩
          · have m4 : (x == 47) = false := by simpa using h47
            have HX : Hid ((numsOf s).getD j 0 ≠ 47) := by show _ ≠ _; rw [hx]; exact h47
            clear hx h47
            go_wp2
            go_round
            case rel => exact ⟨a, j + 1, rfl, by go_num, .inl ⟨by omega, by omega, fun k h1 h2 => by
              by_cases e : k = j
              · rw [e]; exact HX.out
              · exact HN.out k h1 (by omega), HI.out⟩⟩
            case measure => simp [intOf]; omega
        · obtain rfl : j = s.size := by omega
          have nsl := no_slash (zs := numsOf s) HN.out
          have STEP : Hid (pathOk (numsOf s) ↔ partOk (numsOf (s.extract a s.size))) := by
            show _ ↔ _
            rw [HI.out, nums_ext, ← pathOk_one nsl, List.take_of_length_le (by rw [List.length_drop, NL.out]; exact Nat.le_refl _)]
          clear nsl
          go_wp2_with fail
          refine (rpart_any (s.extract a s.size) w (Nat.le_trans (ext_size s a s.size) HSM.out)).mono ?_; rintro e w1 ⟨rfl, rfl⟩
          by_cases hp : partOk (numsOf (s.extract a s.size))
          · have HP := Lib.hid (STEP.out.2 hp)
            rw [decide_eq_true hp]
            clear hp
            go_wp2
            go_round
            case rel => exact ⟨s.size + 1, s.size + 1, by go_num, by go_num, .inr ⟨rfl, HP.out⟩⟩
            case measure => simp [intOf]
          · have e := Lib.hid (RB.out fun h => hp (STEP.out.1 h))
            rw [decide_eq_false hp]
            clear hp
            go_wp2
            go_ret
            rw [e.out]
            exact ⟨rfl, rfl⟩
      · have e := Lib.hid (RG.out hok)
        have m0 : decide ((j : Int) ≤ s.size) = false := by simp; omega
        clear hok
        go_wp2
        go_ret
        rw [e.out]
        exact ⟨rfl, rfl⟩
end Go.Proofs.YtbbaleambgaanaaGreatDoor.Pnm
namespace Go.Proofs.YtbbaleambgaanaaGreatDoor.Pnm
open Go.RowKit Go.Shelf
attribute [local go_sem] Oper.semAt_some
def compsB (s : ByteArray) : List ByteArray := (comps (numsOf s)).map strOfNums
set_option maxRecDepth 100000 in
set_option maxHeartbeats 2000000 in
theorem comp1_in (F : Fence) (n : Nat) (hf : F.fn 138) (hro : F.round = none) (hn : 1 ≤ n) (l Bp n₀ : Nat) (s : ByteArray) (hs : s.size ≤ maxLen) (hb : Bp < n₀) (J Jx : List ByteArray → World → Prop)
    (hY : ∀ pre x W, J pre W → pre.length < (compsB s).length → YieldAt F (n - 1) Tryz.prog l #[.string x] W fun e W' =>
      (e = .returned (.bool true) ∧ J (pre ++ [x]) W' ∧ Below n₀ W W') ∨ (e = .returned (.bool false) ∧ Jx (pre ++ [x]) W'))
    (W : World) (hBp : W.cell? ⟨Bp, 0, none⟩ = some (.string s)) (h0 : J [] W) :
    CallsIn F n Tryz.prog 138 #[.func (.yield l) #[] #[], .pointer (some ⟨Bp, 0, none⟩)] W fun e W' => (∃ v, e = .returned v) ∧
      ((∃ ys, ys = compsB s ∧ J ys W') ∨ (∃ pre, pre <+: compsB s ∧ Jx pre W')) := by
  unfold maxLen at hs
  have NL := Lib.hid (numsOf_length s)
  have HA : Hid (∀ j (h : j < s.size), (numsOf s).getD j 0 = (s[j].toNat : Int)) := num_at s
  refine callsIn_of_wp Tryz.func138 rfl hf ?_ hro
  simp only [Tryz.ntmps138, List.size_toArray, List.length_cons, List.length_nil, Nat.reduceAdd, Nat.reduceSub, Array.replicate_succ, Array.replicate_zero, List.push_toArray, List.append_toArray, List.nil_append, List.cons_append]
  gi_wp2
  gi_loopw [3, 7] (fun f i wr => ∃ (a j : Nat) (pre : List ByteArray), f = .int .i64 a ∧ i = .int .i64 j ∧ j ≤ s.size ∧ a ≤ j ∧ (∀ k, a ≤ k → k < j → (numsOf s).getD k 0 ≠ 47) ∧ pre ++ (comps ((numsOf s).drop a)).map strOfNums = compsB s ∧ J pre wr ∧ Below n₀ W wr)
    (fun _ i _ => s.size + 1 - (intOf i).toNat)
  case atStart => exact ⟨0, 0, [], rfl, rfl, Nat.zero_le _, Nat.le_refl _, fun k _ h => by omega, rfl, h0, Below.refl _ _⟩
  case round =>
    obtain ⟨a, j, pre, rfl, rfl, hj, ha, hns, hpre, hJs, hnx⟩ := hrel
    have HP := Lib.hid hpre; have HN := Lib.hid hns; have HJ := Lib.hid hJs; have HX := Lib.hid hnx
    have hcell : wr.cell? ⟨Bp, 0, none⟩ = some (.string s) := (hnx.cell (p := ⟨Bp, 0, none⟩) hb).trans hBp
    clear hpre hns hJs hnx
    have m1 : (a : Int) ≤ j := by omega
    have m0 : (j : Int) ≤ s.size := by omega
    have nsl := Lib.hid (no_slash (zs := numsOf s) HN.out)
    by_cases hlt : j < s.size
    · have m3 : (j : Int) < s.size := by omega
      have hx := HA.out j hlt
      obtain ⟨x, hxe⟩ : ∃ x : Int, ((s[j].toNat : Nat) : Int) = x := ⟨_, rfl⟩
      rw [hxe] at hx
      by_cases h47 : x = 47
      · have m4 : (x != 47) = false := by rw [h47]; rfl
        have cut := cut_at (zs := numsOf s) ha (by rw [NL.out]; exact hlt) (by rw [hx]; exact h47)
        have e1 : Hid ((pre ++ [s.extract a j]) ++ (comps ((numsOf s).drop (j + 1))).map strOfNums = compsB s) := by
          show _ = _
          rw [← HP.out, cut, comps_cut nsl.out, List.map_cons, ext_str, List.append_assoc]; rfl
        have hlen : pre.length < (compsB s).length := by rw [← e1.out]; simp
        obtain ⟨fn, tmps, assign, body, hy, hR⟩ := hY pre (s.extract a j) wr HJ.out hlen
        clear hx h47 cut hlen
        gi_wp2
        refine hR.mono ?_
        rintro e W3 (⟨rfl, hJ3, hk3⟩ | ⟨rfl, hJx3⟩)
        · gi_wp2
          go_roundw
          case rel => exact ⟨j + 1, j + 1, pre ++ [s.extract a j], by go_num, by go_num, by omega, Nat.le_refl _, fun k h1 h2 => by omega, e1.out, hJ3, HX.out.trans hk3⟩
          case measure => simp [intOf]; omega
        · gi_wp2
          refine bodyPost_ret (results_none rfl _ _ _) rfl ?_
          exact ⟨⟨_, rfl⟩, .inr ⟨_, ⟨_, e1.out⟩, hJx3⟩⟩
      · have m4 : (x != 47) = true := by simpa using h47
        have HX47 : Hid ((numsOf s).getD j 0 ≠ 47) := by show _ ≠ _; rw [hx]; exact h47
        clear hx h47
        gi_wp2
        go_roundw
        case rel => exact ⟨a, j + 1, pre, rfl, by go_num, by omega, by omega, fun k h1 h2 => by
          by_cases e : k = j
          · rw [e]; exact HX47.out
          · exact HN.out k h1 (by omega), HP.out, HJ.out, HX.out⟩
        case measure => simp [intOf]; omega
    · obtain rfl : j = s.size := by omega
      have e1 : Hid (pre ++ [s.extract a s.size] = compsB s) := by
        show _ = _
        have e := nsl.out
        rw [List.take_of_length_le (by rw [List.length_drop, NL.out]; exact Nat.le_refl _)] at e
        rw [← HP.out, comps_one e, ext_str, List.take_of_length_le (by rw [List.length_drop, NL.out]; exact Nat.le_refl _)]; rfl
      have hlen : pre.length < (compsB s).length := by rw [← e1.out]; simp
      obtain ⟨fn, tmps, assign, body, hy, hR⟩ := hY pre (s.extract a s.size) wr HJ.out hlen
      clear hlen
      gi_wp2
      refine hR.mono ?_
      rintro e W3 (⟨rfl, hJ3, hk3⟩ | ⟨rfl, hJx3⟩)
      · gi_wp2
        go_end0
        exact ⟨⟨_, rfl⟩, .inl ⟨_, e1.out, hJ3⟩⟩
      · gi_wp2
        go_end0
        exact ⟨⟨_, rfl⟩, .inr ⟨_, ⟨[], by rw [List.append_nil]; exact e1.out⟩, hJx3⟩⟩
set_option maxHeartbeats 1000000 in
theorem comp_in (F : Fence) (n : Nat) (hf : F.fn 90) (hro : F.round = none) (s : ByteArray) (w : World) :
    CallsIn F n Tryz.prog 90 #[.string s] w fun e w' => e = .returned (.func (.func 138) #[] #[.pointer (some ⟨w.heap.size, 0, none⟩)]) ∧ w' = w.alloc (.cells #[.string s] 9) := by
  refine callsIn_of_wp Tryz.func90 rfl hf ?_ hro
  simp only [Tryz.ntmps90, List.size_toArray, List.length_cons, List.length_nil, Nat.reduceAdd, Nat.reduceSub, Array.replicate_succ, Array.replicate_zero, List.push_toArray, List.append_toArray, List.nil_append, List.cons_append]
  gi_wp2
  go_ret
  exact ⟨rfl, rfl⟩
theorem comp_stops (F : Fence) (n : Nat) (hf : F.fn 138) (hro : F.round = none) (hn : 1 ≤ n) (Bp n₀ : Nat) (s : ByteArray) (hs : s.size ≤ maxLen) (hb : Bp < n₀) (w : World) (hB : Bp < w.heap.size)
    (hc : w.cell? ⟨Bp, 0, none⟩ = some (.string s)) :
    SeqStopsK F n Tryz.prog 138 #[.pointer (some ⟨Bp, 0, none⟩)] (fun x : ByteArray => #[Value.string x]) (Below n₀) (fun ys => ys = compsB s) (fun pre => pre <+: compsB s) (compsB s).length w := fun l J Jx W hW _ _ hY h0 =>
  comp1_in F n hf hro hn l Bp n₀ s hs hb J Jx hY W ((hW.cell (p := ⟨Bp, 0, none⟩) hB).trans hc) h0
end Go.Proofs.YtbbaleambgaanaaGreatDoor.Pnm
