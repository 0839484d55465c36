/-
  Several rows of the call's own beside one another: an append onto one of them leaves the others; literals of one element. Nothing of the program.
-/
import Derived.Test.YtinmkgpmoclcoaaDoorPz02
import Derived.Maps.AppendAt
import Derived.Test.YtinmkgpmoclcoaaDoorPz05
import Derived.Test.YtinmkgpmoclcoaaDoorPz10
import Derived.Test.YtinmkgpmoclcoaaDoorPz08
namespace Go.Proofs.YtinmkgpmoclcoaaDoor
open Go.RowKit

/-- two values that own no block together -/
def Apart (u v : Value) : Prop := ∀ k, u.ownBlock = some k → v.ownBlock ≠ some k
theorem Apart.symm {u v : Value} (h : Apart u v) : Apart v u := fun k hv hu => h k hu hv
theorem Apart.none_l (v : Value) (n c : Nat) : Apart (.slice none n c) v := fun k h => by cases h
theorem own_under {w : World} {base n size : Nat} {e : TypeId} {v : Value} {xs : List Value} (h : w.ownsRow base e size v n xs) : ∀ k, v.ownBlock = some k → base ≤ k ∧ k < w.heap.size := by
  intro k hk
  rcases h.2 with ⟨h', _⟩ | ⟨g', cap', cur, hv, hb', hh, _⟩
  · rw [h'] at hk; cases hk
  · rw [hv] at hk
    obtain rfl : g' = k := by simpa [Value.ownBlock] using hk
    exact ⟨hb', (Array.getElem?_eq_some_iff.1 hh).1⟩
theorem own_grown {w w' : World} {base n size : Nat} {e : TypeId} {v : Value} {xs : List Value} {r : Option Nat} (h : w.ownsRow base e size v n xs) (hg : w.grownBy w' r) (hd : ∀ k, v.ownBlock = some k → r ≠ some k) : w'.ownsRow base e size v n xs := by
  obtain ⟨h1, h2⟩ := h
  refine ⟨h1, h2.imp id ?_⟩
  rintro ⟨g, cap, cur, hv, hb, hh, r'⟩
  have hlt : g < w.heap.size := (Array.getElem?_eq_some_iff.1 hh).1
  have ho : v.ownBlock = some g := by rw [hv]; rfl
  exact ⟨g, cap, cur, hv, hb, (hg.block g hlt (fun e => hd g ho e.symm)).trans hh, r'⟩
theorem own_stay' {w w' : World} {base B n size : Nat} {e : TypeId} {v : Value} {xs : List Value} (h : w.ownsRow base e size v n xs) (hb : Below B w w') (hB : w.heap.size ≤ B) : w'.ownsRow base e size v n xs := by
  obtain ⟨h1, h2⟩ := h
  refine ⟨h1, ?_⟩
  rcases h2 with h2 | ⟨g', cap', cur, hv, hb', hh, r⟩
  · exact Or.inl h2
  · have hlt : g' < w.heap.size := (Array.getElem?_eq_some_iff.1 hh).1
    exact Or.inr ⟨g', cap', cur, hv, hb', by rw [hb.block g' (by omega)]; exact hh, r⟩
theorem Apart.next {w : World} {base n size : Nat} {e : TypeId} {u v v' : Value} {xs : List Value} (h : Apart u v) (hu : w.ownsRow base e size u n xs) (hv : v'.ownBlock = v.ownBlock ∨ v'.ownBlock = some w.heap.size) : Apart u v' := fun k hk hk' => by
  rcases hv with hv | hv
  · rw [hv] at hk'; exact h k hk hk'
  · rw [hv] at hk'
    have := (own_under hu k hk).2
    simp only [Option.some.injEq] at hk'
    omega
theorem own_slice {w : World} {base n size : Nat} {e : TypeId} {v : Value} {xs : List Value} (h : w.ownsRow base e size v n xs) : ∃ a c, v = .slice a n c ∧ n ≤ c ∧ c ≤ maxLen := by
  rcases h.2 with ⟨rfl, rfl⟩ | ⟨g, cap, cur, rfl, _, _, hc, hm, _⟩
  · exact ⟨none, 0, rfl, Nat.le_refl _, Nat.zero_le _⟩
  · exact ⟨_, cap, rfl, hc, hm⟩
theorem info_of {P : Program} {e : TypeId} {z : Value} {s b : Nat} (h : (P.info? e).map (fun i => (i.zero, i.size, i.bytes)) = some (some z, s, b)) :
    ∃ i0, Hid (P.info? e = some i0 ∧ i0.zero = some z ∧ i0.size = s ∧ i0.bytes = b) := by
  cases hq : P.info? e with
  | none => simp [hq] at h
  | some i => simp [hq] at h; exact ⟨i, rfl, h.1, h.2.1, h.2.2⟩

section
variable {P : Program} {w : World} {ops : Array Oper} {rest : List Oper} {o : Oper} {a : Act} {Q : Exit → Act → World → Prop}

theorem wpList_append_apart (hgd : o.guard = none) (s x : Operand) (t : TypeId) (ho : o.op = .call { callee := .builtin .append, args := #[s, x], argTypes := #[t, t] })
    (base : Nat) (e : TypeId) (i0 : TypeInfo) (z : Value) (size bytes : Nat) (hT : P.underlying t = some (.slice e)) (hI : Hid (P.info? e = some i0 ∧ i0.zero = some z ∧ i0.size = size ∧ i0.bytes = bytes)) (hz : z.cells.size = size) (h0 : 0 < size)
    (v : Value) (n : Nat) (xs : List Value) (hs : a.eval s = v) (hown : w.ownsRow base e size v n xs)
    (ad : Addr) (m c : Nat) (news : List Value) (hx : a.eval x = .slice (some ad) m c) (hl : news.length = m * size) (hnews : ∀ j u, news[j]? = some u → w.cell? (ad.add j) = some u) (h1 : ∀ u ∈ news, u.oneCell' = true)
    (h63 : n + m ≤ maxLen) (h47 : (n + m) * bytes ≤ 140737488355328) (hbase : base ≤ w.heap.size)
    (K : ∀ v' w', w'.ownsRow base e size v' (n + m) (xs ++ news) → w.grownBy w' v.ownBlock → (v'.ownBlock = v.ownBlock ∨ v'.ownBlock = some w.heap.size) → Below base w w' → wpList P ops Q rest (a.put o.dst v') w') : wpList P ops Q (o :: rest) a w := by
  obtain ⟨v', w', hr, k1, k2, _, k3⟩ := run_append_own_at (P := P) w base t o.type e i0 z size bytes hT hI.out.1 hI.out.2.1 hI.out.2.2.1 hI.out.2.2.2 hz h0 v n xs hown ad m c news hl hnews h1 h63 h47 hbase
  refine wpList_plain hgd fun K' hK => ?_
  unfold Oper.wp
  simp [execOp, ho, resolve, invoke, builtin, hs, hx, hr, Result.andThen]
  exact hK _ _ (K _ _ k1 k2 k3 ((Below.refl _ _).grown k2 hbase (fun k hk => (own_under hown k hk).1)))

/-- .. of a row known whole -/
theorem wpList_append_obj (hgd : o.guard = none) (s x : Operand) (t : TypeId) (ho : o.op = .call { callee := .builtin .append, args := #[s, x], argTypes := #[t, t] })
    (base : Nat) (e : TypeId) (i0 : TypeInfo) (z : Value) (size bytes : Nat) (hT : P.underlying t = some (.slice e)) (hI : Hid (P.info? e = some i0 ∧ i0.zero = some z ∧ i0.size = size ∧ i0.bytes = bytes)) (hz : z.cells.size = size) (h0 : 0 < size)
    (v : Value) (n : Nat) (xs : List Value) (hs : a.eval s = v) (hown : w.ownsRow base e size v n xs)
    (b c : Nat) (T : TypeId) (news : List Value) (hx : a.eval x = .slice (some ⟨b, 0, none⟩) 1 c) (hl : news.length = size) (hob : ObjAt w b T news) (h1 : ∀ u ∈ news, u.oneCell' = true)
    (h63 : n + 1 ≤ maxLen) (h47 : (n + 1) * bytes ≤ 140737488355328) (hbase : base ≤ w.heap.size)
    (K : ∀ v' w', w'.ownsRow base e size v' (n + 1) (xs ++ news) → w.grownBy w' v.ownBlock → (v'.ownBlock = v.ownBlock ∨ v'.ownBlock = some w.heap.size) → Below base w w' → wpList P ops Q rest (a.put o.dst v') w') : wpList P ops Q (o :: rest) a w :=
  wpList_append_apart hgd s x t ho base e i0 z size bytes hT hI hz h0 v n xs hs hown ⟨b, 0, none⟩ 1 c news hx (by omega) (fun j u hj => by rw [add_plain', Nat.zero_add, hob.cell, hj]) h1 h63 h47 hbase K

/-- a literal of one struct of five cells -/
theorem wpList_lit_five (hgd : o.guard = none) (t e : TypeId) (x : Operand) (ho : o.op = .buildSlice t 1 #[(0, x)]) (ht : P.underlying t = some (.slice e)) (z : Value) (hI : (P.info? e).map (fun i => (i.zero, i.size)) = some (some z, 5))
    (u0 u1 u2 u3 u4 : Value) (hx : a.eval x = .agg #[u0, u1, u2, u3, u4])
    (K : ∀ w', ObjAt w' w.heap.size e [u0, u1, u2, u3, u4] → Below w.heap.size w w' → wpList P ops Q rest (a.put o.dst (.slice (some ⟨w.heap.size, 0, none⟩) 1 1)) w') : wpList P ops Q (o :: rest) a w := by
  refine wpList_plain hgd fun K' hK => ?_
  cases hq : P.info? e with
  | none => simp [hq] at hI
  | some i =>
    simp [hq] at hI
    have hrun : (Instr.buildSlice t 1 #[(0, .agg #[u0, u1, u2, u3, u4])]).run P w = .ok (.slice (some ⟨w.heap.size, 0, none⟩) 1 1) (w.alloc (.cells #[u0, u1, u2, u3, u4] e)) := by
      simp [Instr.buildSlice, run_underlying ht, sizeOf, typeInfo, zeroValue, hq, hI.1, hI.2, Instr.fill, newRow, Value.cells]
      rw [show Array.range 5 = #[0, 1, 2, 3, 4] by decide]; simp
    unfold Oper.wp
    simp [execOp, ho, hx, hrun, Result.andThen]
    exact hK _ _ (K _ (heap_alloc_new w _) ((Below.refl _ _).alloc (Nat.le_refl _) _))

/-- a literal of one 64-bit integer -/
theorem wpList_lit_i64 (hgd : o.guard = none) (t e : TypeId) (x : Operand) (ho : o.op = .buildSlice t 1 #[(0, x)]) (ht : P.underlying t = some (.slice e)) (hI : (P.info? e).map (fun i => (i.zero, i.size)) = some (some (.int .i64 0), 1))
    (c : Int) (hx : a.eval x = .int .i64 c)
    (K : ∀ w', ObjAt w' w.heap.size e [.int .i64 c] → Below w.heap.size w w' → wpList P ops Q rest (a.put o.dst (.slice (some ⟨w.heap.size, 0, none⟩) 1 1)) w') : wpList P ops Q (o :: rest) a w := by
  refine wpList_plain hgd fun K' hK => ?_
  cases hq : P.info? e with
  | none => simp [hq] at hI
  | some i =>
    simp [hq] at hI
    have hrun : (Instr.buildSlice t 1 #[(0, .int .i64 c)]).run P w = .ok (.slice (some ⟨w.heap.size, 0, none⟩) 1 1) (w.alloc (.cells #[.int .i64 c] e)) := by
      simp [Instr.buildSlice, run_underlying ht, sizeOf, typeInfo, zeroValue, hq, hI.1, hI.2, Instr.fill, newRow, Value.cells]
      rw [show Array.range 1 = #[0] by decide]; simp
    unfold Oper.wp
    simp [execOp, ho, hx, hrun, Result.andThen]
    exact hK _ _ (K _ (heap_alloc_new w _) ((Below.refl _ _).alloc (Nat.le_refl _) _))
end
end Go.Proofs.YtinmkgpmoclcoaaDoor
/-
  Layer 10: the reference's target, Check.
-/
namespace Go.Proofs.YtinmkgpmoclcoaaDoor.Fit
open Go.RowKit Pxr Pnm

theorem chkT_bad {t : ByteArray} {j : Nat} (h : t.size ≤ 65536) (hj : j < t.size) (hz : (numsOf t).getD j 0 = 0) : chkT t = 6 := by
  unfold chkT
  rw [if_neg (by omega), if_pos]
  have hl : j < (numsOf t).length := by rw [numsOf_length]; exact hj
  rw [List.getD_eq_getElem?_getD, List.getElem?_eq_getElem hl] at hz
  exact .inr (by rw [← (show (numsOf t)[j] = 0 from hz)]; exact List.getElem_mem hl)
theorem chkT_good {t : ByteArray} (h : t.size ≤ 65536) (h0 : t.size ≠ 0) (hz : ∀ q, q < t.size → (numsOf t).getD q 0 ≠ 0) : chkT t = 0 := by
  unfold chkT
  rw [if_neg (by omega), if_neg]
  rintro (e | e)
  · exact h0 e
  · obtain ⟨i, hi, he⟩ := List.getElem_of_mem e
    rw [numsOf_length] at hi
    exact hz i hi (by rw [List.getD_eq_getElem?_getD, List.getElem?_eq_getElem (by rw [numsOf_length]; exact hi)]; exact he)

set_option maxRecDepth 100000 in
set_option maxHeartbeats 4000000 in
theorem rtarget_any (k : Int) (p : ByteArray) (m : Int) (t : ByteArray) (s : Int) (w : World) (ht : t.size ≤ maxLen) :
    Calls Tryd.prog 56 #[.agg (enV k p m t s).toArray] w fun e w' => e = .returned (.int .i64 (tgE k t)) ∧ Below w.heap.size w w' := by
  obtain ⟨R, hR⟩ := named (tgE k t)
  rw [← hR.out]
  by_cases h2 : k = 2
  · subst h2
    have e : R = chkT t := by rw [hR.out]; unfold tgE; rw [if_pos rfl]
    have HR := Lib.hid e
    clear hR e
    by_cases h7 : 65536 < t.size
    · have h7i : (65536 : Int) < t.size := by omega
      have e := HR.out; unfold chkT at e; rw [if_pos h7] at e; subst e
      clear HR h7 ht
      go_enter Tryd.func56, Tryd.ntmps56
      go_wp2_with (first | (refine wpList_box_obj rfl 27 _ rfl (enV 2 p m t s) rfl ?_; intro w1 g1 b1; have B1 := Lib.hid b1; have c0 := g1.get 0 rfl; have c3 := g1.get 3 rfl; clear g1 b1))
      go_ret
      exact ⟨rfl, B1.out⟩
    · have h7i : ¬ (65536 : Int) < t.size := by omega
      by_cases h0 : t = emp
      · have e := HR.out; unfold chkT at e; rw [if_neg h7, if_pos (.inl (emp_size.1 h0))] at e; subst e; subst h0
        clear HR h7 ht
        go_enter Tryd.func56, Tryd.ntmps56
        go_wp2_with (first | (refine wpList_box_obj rfl 27 _ rfl (enV 2 p m emp s) rfl ?_; intro w1 g1 b1; have B1 := Lib.hid b1; have c0 := g1.get 0 rfl; have c3 := g1.get 3 rfl; clear g1 b1))
        go_ret
        exact ⟨rfl, B1.out⟩
      · have hi := empty_no h0
        have HS : Hid (t.size ≠ 0) := fun e => h0 (emp_size.2 e)
        have HA : Hid (∀ j (h : j < t.size), (numsOf t).getD j 0 = (t[j].toNat : Int)) := num_at t
        have H7 : Hid (t.size ≤ 65536) := by show _ ≤ _; omega
        clear h0 h7 ht
        go_enter Tryd.func56, Tryd.ntmps56
        go_wp2_with (first | (refine wpList_box_obj rfl 27 _ rfl (enV 2 p m t s) rfl ?_; intro w1 g1 b1; have B1 := Lib.hid b1; have c0 := g1.get 0 rfl; have c3 := g1.get 3 rfl; clear g1 b1))
        go_loop [3] (fun i => ∃ j : Nat, i = .int .i64 j ∧ j ≤ t.size ∧ ∀ q, q < j → (numsOf t).getD q 0 ≠ 0) (fun i => t.size - (intOf i).toNat)
        case atStart => exact ⟨0, rfl, Nat.zero_le _, fun q hq => by omega⟩
        case round =>
          obtain ⟨j, rfl, hj, hd⟩ := hrel
          have HD := Lib.hid hd
          clear hd
          by_cases hlt : j < t.size
          · have hx := HA.out j hlt
            obtain ⟨x, hxe⟩ : ∃ x : Int, ((t[j].toNat : Nat) : Int) = x := ⟨_, rfl⟩
            rw [hxe] at hx
            have HX := Lib.hid hx
            have m1 : (j : Int) < t.size := by omega
            clear hx
            by_cases c1 : x = 0
            · have e := HR.out; rw [chkT_bad H7.out hlt (by rw [HX.out]; exact c1)] at e; subst e; subst c1
              clear HR
              go_wp2
              go_ret
              exact ⟨rfl, B1.out⟩
            · have n1 : (x == 0) = false := by simpa using c1
              have HC := Lib.hid c1
              clear c1
              go_wp2
              go_round
              case rel => exact ⟨j + 1, by go_num, by omega, fun q hq => by
                by_cases hq' : q < j
                · exact HD.out q hq'
                · obtain rfl : q = j := by omega
                  rw [HX.out]; exact HC.out⟩
              case measure => simp [intOf]; omega
          · obtain rfl : j = t.size := by omega
            have e := HR.out; rw [chkT_good H7.out HS.out HD.out] at e; subst e
            clear HR
            go_wp2
            go_ret
            exact ⟨rfl, B1.out⟩
  · have n2 : (k == 2) = false := by simpa using h2
    by_cases h3 : k = 3
    · subst h3
      have e : R = chE (numsOf t) := by rw [hR.out]; unfold tgE; rw [if_neg (by decide), if_pos rfl]
      have H2 := Lib.hid fun (w' : World) => Pnm.rcheck_any t w' ht
      rw [← e] at H2
      clear hR e ht h2
      go_enter Tryd.func56, Tryd.ntmps56
      go_wp2_with (first | (refine wpList_box_obj rfl 27 _ rfl (enV 3 p m t s) rfl ?_; intro w1 g1 b1; have B1 := Lib.hid b1; have c0 := g1.get 0 rfl; have c3 := g1.get 3 rfl; clear g1 b1))
      refine (H2.out _).mono ?_; rintro e w2 ⟨rfl, rfl⟩
      go_wp2
      go_ret
      exact ⟨rfl, B1.out⟩
    · have n3 : (k == 3) = false := by simpa using h3
      have e : R = if t = emp then 0 else 2 := by rw [hR.out]; unfold tgE; rw [if_neg h2, if_neg h3]
      clear hR h2 h3 ht
      by_cases ht : t = emp
      · rw [if_pos ht] at e
        subst e; subst ht
        go_enter Tryd.func56, Tryd.ntmps56
        go_wp2_with (first | (refine wpList_box_obj rfl 27 _ rfl (enV k p m emp s) rfl ?_; intro w1 g1 b1; have B1 := Lib.hid b1; have c0 := g1.get 0 rfl; have c3 := g1.get 3 rfl; clear g1 b1))
        go_ret
        exact ⟨rfl, B1.out⟩
      · rw [if_neg ht] at e
        have hi := empty_no ht
        clear ht
        subst e
        go_enter Tryd.func56, Tryd.ntmps56
        go_wp2_with (first | (refine wpList_box_obj rfl 27 _ rfl (enV k p m t s) rfl ?_; intro w1 g1 b1; have B1 := Lib.hid b1; have c0 := g1.get 0 rfl; have c3 := g1.get 3 rfl; clear g1 b1))
        go_ret
        exact ⟨rfl, B1.out⟩

set_option maxRecDepth 100000 in
set_option maxHeartbeats 4000000 in
theorem rcheck_any (k : Int) (p : ByteArray) (m : Int) (t : ByteArray) (s : Int) (w : World) (hp : p.size ≤ maxLen) (ht : t.size ≤ maxLen) :
    Calls Tryd.prog 33 #[.agg (enV k p m t s).toArray] w fun e w' => e = .returned (.int .i64 (ckE ⟨k, p, m, t, s⟩)) ∧ Below w.heap.size w w' := by
  obtain ⟨R, hR⟩ := named (ckE ⟨k, p, m, t, s⟩)
  obtain ⟨E1, h1⟩ := named (chE (numsOf p))
  obtain ⟨E2, h2⟩ := named (tgE k t)
  have HR : Hid (R = if k < 0 ∨ 4 ≤ k then 8 else if E1 ≠ 0 then E1 else if m < 0 ∨ 4095 < m ∨ (k = 2 ∧ m ≠ 0) then 16 else if E2 ≠ 0 then E2 else szE k s) := by
    show _ = _; rw [hR.out, h1.out, h2.out]; rfl
  have C1 : Hid (∀ w', Calls Tryd.prog 55 #[.string p] w' fun e w'' => e = .returned (.int .i64 E1) ∧ w' = w'') := fun w' => by rw [h1.out]; exact Pnm.rcheck_any p w' hp
  have C2 : Hid (∀ w', Calls Tryd.prog 56 #[.agg (enV k p m t s).toArray] w' fun e w'' => e = .returned (.int .i64 E2) ∧ Below w'.heap.size w' w'') := fun w' => by rw [h2.out]; exact rtarget_any k p m t s w' ht
  rw [← hR.out]
  clear hR h1 h2 hp ht
  by_cases k0 : k < 0
  · have e := HR.out; rw [if_pos (.inl k0)] at e; subst e; clear HR C1 C2
    go_enter Tryd.func33, Tryd.ntmps33
    go_wp2_with (first | (refine wpList_box_obj rfl 27 _ rfl (enV k p m t s) rfl ?_; intro w1 g1 b1; have B1 := Lib.hid b1; have c0 := g1.get 0 rfl; clear g1 b1))
    go_ret
    exact ⟨rfl, B1.out⟩
  by_cases k4 : 3 < k
  · have e := HR.out; rw [if_pos (.inr (by omega))] at e; subst e; clear HR C1 C2
    go_enter Tryd.func33, Tryd.ntmps33
    go_wp2_with (first | (refine wpList_box_obj rfl 27 _ rfl (enV k p m t s) rfl ?_; intro w1 g1 b1; have B1 := Lib.hid b1; have c0 := g1.get 0 rfl; clear g1 b1))
    go_ret
    exact ⟨rfl, B1.out⟩
  go_enter Tryd.func33, Tryd.ntmps33
  go_wp2_with (first | (refine wpList_box_obj rfl 27 _ rfl (enV k p m t s) rfl ?_; intro w1 g1 b1; have H1 := Lib.hid g1; have B1 := Lib.hid b1; have c0 := g1.get 0 rfl; have c1 := g1.get 1 rfl; clear g1 b1))
  refine (C1.out w1).mono ?_; rintro e w2 ⟨rfl, rfl⟩
  clear c1
  by_cases z1 : E1 = 0
  · subst z1
    have HR' : Hid (R = if m < 0 ∨ 4095 < m ∨ (k = 2 ∧ m ≠ 0) then 16 else if E2 ≠ 0 then E2 else szE k s) := by
      have e := HR.out; rw [if_neg (by omega), if_neg (by simp)] at e; exact e
    clear HR
    have c2 := H1.out.get 2 rfl
    by_cases m0 : m < 0
    · have e := HR'.out; rw [if_pos (.inl m0)] at e; subst e
      go_wp2_with fail
      go_ret
      exact ⟨rfl, B1.out⟩
    by_cases m1 : 4095 < m
    · have e := HR'.out; rw [if_pos (.inr (.inl m1))] at e; subst e
      go_wp2_with fail
      go_ret
      exact ⟨rfl, B1.out⟩
    by_cases k2 : k = 2 ∧ m ≠ 0
    · have e := HR'.out; rw [if_pos (.inr (.inr k2))] at e; subst e
      obtain ⟨rfl, hm⟩ := k2
      have n2 : (m != 0) = true := by simpa using hm
      go_wp2_with fail
      go_ret
      exact ⟨rfl, B1.out⟩
    have HR2 : Hid (R = if E2 ≠ 0 then E2 else szE k s) := by
      have e := HR'.out; rw [if_neg (by omega)] at e; exact e
    clear HR'
    have c1 := H1.out.get 1 rfl
    have c3 := H1.out.get 3 rfl
    have c4 := H1.out.get 4 rfl
    have hk : (k == 2) = false ∨ (k = 2 ∧ m = 0) := by
      by_cases h : k = 2
      · exact .inr ⟨h, by omega⟩
      · exact .inl (by simpa using h)
    clear C1 k0 k4 k2
    rcases hk with n2 | ⟨rfl, rfl⟩
    · go_wp2_with fail
      refine (C2.out w1).mono ?_; rintro e w3 ⟨rfl, b3⟩
      have H3 := Lib.hid (H1.out.below b3 H1.out.lt); have B3 := Lib.hid (belT B1.out b3)
      clear b3 c0 c1 c2 c3 c4
      by_cases z2 : E2 = 0
      · subst z2
        have HE : Hid (R = szE k s) := by have e := HR2.out; rw [if_neg (by simp)] at e; exact e
        clear HR2
        have c0 := H3.out.get 0 rfl
        have c4 := H3.out.get 4 rfl
        by_cases k1 : k = 1
        · subst k1
          by_cases s0 : s < 0
          · have e := HE.out; unfold szE at e; rw [if_pos rfl, if_pos (.inl s0)] at e; subst e
            go_wp2_with fail
            go_ret
            exact ⟨rfl, B3.out⟩
          · by_cases s1 : 1099511627776 < s
            · have e := HE.out; unfold szE at e; rw [if_pos rfl, if_pos (.inr s1)] at e; subst e
              go_wp2_with fail
              go_ret
              exact ⟨rfl, B3.out⟩
            · have e := HE.out; unfold szE at e; rw [if_pos rfl, if_neg (by omega)] at e; subst e
              go_wp2_with fail
              go_ret
              exact ⟨rfl, B3.out⟩
        · have n5 : (k == 1) = false := by simpa using k1
          by_cases s0 : s = 0
          · have e := HE.out; unfold szE at e; rw [if_neg k1, if_pos s0] at e; subst e; subst s0
            go_wp2_with fail
            go_ret
            exact ⟨rfl, B3.out⟩
          · have e := HE.out; unfold szE at e; rw [if_neg k1, if_neg s0] at e; subst e
            have n4 : (s != 0) = true := by simpa using s0
            go_wp2_with fail
            go_ret
            exact ⟨rfl, B3.out⟩
      · have e := HR2.out; rw [if_pos z2] at e; subst e
        have n3 : (R != 0) = true := by simpa using z2
        clear HR2 z2
        go_wp2_with fail
        go_ret
        exact ⟨rfl, B3.out⟩
    · go_wp2_with fail
      refine (C2.out w1).mono ?_; rintro e w3 ⟨rfl, b3⟩
      have H3 := Lib.hid (H1.out.below b3 H1.out.lt); have B3 := Lib.hid (belT B1.out b3)
      clear b3 c0 c1 c2 c3 c4
      by_cases z2 : E2 = 0
      · subst z2
        have HE : Hid (R = szE 2 s) := by have e := HR2.out; rw [if_neg (by simp)] at e; exact e
        clear HR2
        have c0 := H3.out.get 0 rfl
        have c4 := H3.out.get 4 rfl
        by_cases s0 : s = 0
        · have e := HE.out; unfold szE at e; rw [if_neg (by decide), if_pos s0] at e; subst e; subst s0
          go_wp2_with fail
          go_ret
          exact ⟨rfl, B3.out⟩
        · have e := HE.out; unfold szE at e; rw [if_neg (by decide), if_neg s0] at e; subst e
          have n4 : (s != 0) = true := by simpa using s0
          go_wp2_with fail
          go_ret
          exact ⟨rfl, B3.out⟩
      · have e := HR2.out; rw [if_pos z2] at e; subst e
        have n3 : (R != 0) = true := by simpa using z2
        clear HR2 z2
        go_wp2_with fail
        go_ret
        exact ⟨rfl, B3.out⟩
  · have e := HR.out; rw [if_neg (by omega), if_pos z1] at e; subst e
    have n1 : (R != 0) = true := by simpa using z1
    clear HR z1
    go_wp2_with fail
    go_ret
    exact ⟨rfl, B1.out⟩
end Go.Proofs.YtinmkgpmoclcoaaDoor.Fit
/-
  Layer 13: the program's checkNode, the reference's one.
-/
namespace Go.Proofs.YtinmkgpmoclcoaaDoor.Tre
open Go.RowKit Go.Proofs.YtinmkgpmoclcoaaDoor.Fit

/-- what is left to test behind the entry's own check -/
theorem one_of {k : Int} {p : ByteArray} {m : Int} {t : ByteArray} {d : List Int} {c E R : Int} (hR : R = oneE ⟨k, p, m, t, d, c⟩) (h1 : 0 ≤ k) (h2 : k ≤ 2) (hE : E = ckE ⟨k, p, m, t, if k = 1 then (d.length : Int) else 0⟩) :
    R = if E ≠ 0 then E else if k ≠ 1 ∧ 0 < d.length then 2 else if c < 0 ∨ (k ≠ 1 ∧ c ≠ 0) then 15 else 0 := by
  rw [hR, hE]
  unfold oneE entN
  dsimp only
  rw [if_neg (by omega)]
  congr 2
  have e : d ≠ [] ↔ 0 < d.length := List.length_pos_iff.symm
  rw [e]

set_option maxRecDepth 100000 in
set_option maxHeartbeats 4000000 in
theorem pone_any (k : Int) (p : ByteArray) (m : Int) (t : ByteArray) (a : Option Addr) (d : List Int) (cap : Nat) (c : Int) (w : World) (V : FVars w) (hp : p.size ≤ maxLen) (ht : t.size ≤ maxLen) :
    Calls Tryd.prog 39 #[.agg (ndL k p m t a d.length cap c).toArray] w fun e w' => e = .returned (.int .i64 (oneE ⟨k, p, m, t, d, c⟩)) ∧ Below w.heap.size w w' := by
  have EZ := Lib.hid zEn
  have EO := Lib.hid enT
  have S8 := Lib.hid sI64
  obtain ⟨R, hR⟩ := named (oneE ⟨k, p, m, t, d, c⟩)
  obtain ⟨E, hE⟩ := named (ckE ⟨k, p, m, t, if k = 1 then (d.length : Int) else 0⟩)
  have HC : Hid (∀ (s : Int) w', s = (if k = 1 then (d.length : Int) else 0) → Below w.heap.size w w' → Calls Tryd.prog 26 #[.agg (enV k p m t s).toArray] w' fun e w'' => e = .returned (.int .i64 E) ∧ Below w'.heap.size w' w'') := fun s w' hs hb => by
    rw [hE.out, ← hs]; exact pcheck_any k p m t s w' (V.go hb) hp ht
  have HR : Hid (0 ≤ k → k ≤ 2 → R = if E ≠ 0 then E else if k ≠ 1 ∧ 0 < d.length then 2 else if c < 0 ∨ (k ≠ 1 ∧ c ≠ 0) then 15 else 0) := fun h1 h2 => one_of hR.out h1 h2 hE.out
  have HB : Hid (¬ (0 ≤ k ∧ k ≤ 2) → R = 8) := fun h => by rw [hR.out]; unfold oneE; dsimp only; rw [if_pos (by omega)]
  obtain ⟨N, hN⟩ := named d.length
  rw [← hR.out]
  rw [← hN.out] at HC HR ⊢
  clear hR hE hN V hp ht
  by_cases hk : 0 ≤ k ∧ k ≤ 2
  · have HR' := Lib.hid (HR.out hk.1 hk.2)
    clear HR HB
    by_cases k1 : k = 1
    · subst k1
      have HC' := Lib.hid fun (w' : World) => HC.out N w' (by rw [if_pos rfl])
      have HQ : Hid (R = if E ≠ 0 then E else if c < 0 then 15 else 0) := by
        show _ = _
        rw [HR'.out, if_neg (c := (1 : Int) ≠ 1 ∧ _) (by omega)]
        by_cases z : c < 0
        · rw [if_pos (c := c < 0 ∨ _) (.inl z), if_pos z]
        · rw [if_neg (c := c < 0 ∨ _) (by omega), if_neg z]
      clear HC HR' hk
      go_enter Tryd.func39, Tryd.ntmps39
      go_wp2_with (first | (refine wpList_box_obj rfl 55 _ rfl (ndL 1 p m t a N cap c) rfl ?_; intro w1 g1 b1; have G1 := Lib.hid g1; have B1 := Lib.hid b1; have c0 := g1.get 0 rfl; have c1 := g1.get 1 rfl; have c2 := g1.get 2 rfl; have c3 := g1.get 3 rfl; clear g1 b1) | (refine wpList_alloc_obj rfl 27 rfl (enV 0 emp 0 emp 0) EZ.out ?_; intro w2 g2 b2; have G2 := Lib.hid g2; have N1 := Lib.hid G1.out.lt; have K1 := Lib.hid (G1.out.below b2 G1.out.lt); have B2 := Lib.hid (belT B1.out b2); clear g2 b2 c0 c1 c2 c3) | (refine wpList_store_obj rfl 27 _ _ rfl w1.heap.size rfl (enV 1 p m t 0) (enV 0 emp 0 emp 0) rfl 27 G2.out EO.out.2 rfl (en_one _ _ _ _ _) ?_; intro w3 g3 t3; have G3 := Lib.hid g3; have K3 := Lib.hid (K1.out.turned t3 (Nat.ne_of_lt N1.out)); have B3 := Lib.hid (B2.out.trans (t3.below B1.out.size)); have c0 := K3.out.get 0 rfl; have c4 := K3.out.get 4 rfl; clear g3 t3) | (refine wpList_store_cell rfl 2 _ _ rfl w1.heap.size 4 rfl (.int .i64 N) rfl rfl S8.out 27 _ G3.out (by simp) ?_; intro w4 g4 t4; have G4 := Lib.hid (show ObjAt w4 w1.heap.size 27 (enV 1 p m t N) from g4); have K4 := Lib.hid (K3.out.turnB t4 (Nat.ne_of_lt N1.out)); have B4 := Lib.hid (B3.out.trans (t4.below B1.out.size)); have d0 := g4.get 0 rfl; have d1 := g4.get 1 rfl; have d2 := g4.get 2 rfl; have d3 := g4.get 3 rfl; have d4 := g4.get 4 rfl; clear g4 t4 c0 c4))
      refine (HC'.out w4 B4.out).mono ?_; rintro e w5 ⟨rfl, b5⟩
      have K5 := Lib.hid (K4.out.below b5 K4.out.lt)
      have B5 := Lib.hid (belT B4.out b5)
      have c0 := K5.out.get 0 rfl
      have c5 := K5.out.get 5 rfl
      clear b5 d0 d1 d2 d3 d4 HC'
      by_cases z : E = 0
      · subst z
        by_cases zc : c < 0
        · have e := HQ.out; rw [if_neg (by simp), if_pos zc] at e; subst e
          clear HQ
          go_wp2_with fail
          go_ret
          exact ⟨rfl, B5.out⟩
        · have e := HQ.out; rw [if_neg (by simp), if_neg zc] at e; subst e
          clear HQ
          go_wp2_with fail
          go_ret
          exact ⟨rfl, B5.out⟩
      · have e := HQ.out; rw [if_pos z] at e; subst e
        have nz : (R != 0) = true := by simpa using z
        clear HQ z
        go_wp2_with fail
        go_ret
        exact ⟨rfl, B5.out⟩
    · have HC' := Lib.hid fun (w' : World) => HC.out 0 w' (by rw [if_neg k1])
      have n1 : (k == 1) = false := by simpa using k1
      have n2 : (k != 1) = true := by simpa using k1
      have HQ : Hid (R = if E ≠ 0 then E else if 0 < N then 2 else if c = 0 then 0 else 15) := by
        show _ = _
        rw [HR'.out]
        by_cases z : 0 < N
        · rw [if_pos (c := k ≠ 1 ∧ _) ⟨k1, z⟩, if_pos z]
        · rw [if_neg (c := k ≠ 1 ∧ _) (fun h => z h.2), if_neg z]
          by_cases z : c = 0
          · rw [if_neg (c := c < 0 ∨ _) (by omega), if_pos z]
          · rw [if_pos (c := c < 0 ∨ _) (.inr ⟨k1, z⟩), if_neg z]
      have kk : k = 0 ∨ k = 2 := by omega
      clear HC HR' hk k1
      rcases kk with rfl | rfl
      all_goals
        go_enter Tryd.func39, Tryd.ntmps39
        go_wp2_with (first | (refine wpList_box_obj rfl 55 _ rfl (ndL _ p m t a N cap c) rfl ?_; intro w1 g1 b1; have G1 := Lib.hid g1; have B1 := Lib.hid b1; have c0 := g1.get 0 rfl; have c1 := g1.get 1 rfl; have c2 := g1.get 2 rfl; have c3 := g1.get 3 rfl; clear g1 b1) | (refine wpList_alloc_obj rfl 27 rfl (enV 0 emp 0 emp 0) EZ.out ?_; intro w2 g2 b2; have G2 := Lib.hid g2; have N1 := Lib.hid G1.out.lt; have K1 := Lib.hid (G1.out.below b2 G1.out.lt); have B2 := Lib.hid (belT B1.out b2); clear g2 b2 c0 c1 c2 c3) | (refine wpList_store_obj rfl 27 _ _ rfl w1.heap.size rfl (enV _ p m t 0) (enV 0 emp 0 emp 0) rfl 27 G2.out EO.out.2 rfl (en_one _ _ _ _ _) ?_; intro w3 g3 t3; have G3 := Lib.hid g3; have K3 := Lib.hid (K1.out.turned t3 (Nat.ne_of_lt N1.out)); have B3 := Lib.hid (B2.out.trans (t3.below B1.out.size)); have c0 := K3.out.get 0 rfl; have c4 := K3.out.get 4 rfl; have d0 := g3.get 0 rfl; have d1 := g3.get 1 rfl; have d2 := g3.get 2 rfl; have d3 := g3.get 3 rfl; have d4 := g3.get 4 rfl; clear g3 t3))
        refine (HC'.out w3 B3.out).mono ?_; rintro e w5 ⟨rfl, b5⟩
        have K5 := Lib.hid (K3.out.below b5 K3.out.lt)
        have B5 := Lib.hid (belT B3.out b5)
        have c0 := K5.out.get 0 rfl
        have c4 := K5.out.get 4 rfl
        have c5 := K5.out.get 5 rfl
        clear b5 d0 d1 d2 d3 d4 HC'
        by_cases z : E = 0
        · subst z
          by_cases zn : 0 < N
          · have e := HQ.out; rw [if_neg (by simp), if_pos zn] at e; subst e
            have zi : (0 : Int) < N := by omega
            clear HQ zn
            go_wp2_with fail
            go_ret
            exact ⟨rfl, B5.out⟩
          · have zi : ¬ (0 : Int) < N := by omega
            by_cases zc : c = 0
            · have e := HQ.out; rw [if_neg (by simp), if_neg zn, if_pos zc] at e; subst e; subst zc
              clear HQ zn
              go_wp2_with fail
              go_ret
              exact ⟨rfl, B5.out⟩
            · have e := HQ.out; rw [if_neg (by simp), if_neg zn, if_neg zc] at e; subst e
              have nz : (c != 0) = true := by simpa using zc
              clear HQ zn
              by_cases zl : c < 0
              · clear nz zc
                go_wp2_with fail
                go_ret
                exact ⟨rfl, B5.out⟩
              · clear zc
                go_wp2_with fail
                go_ret
                exact ⟨rfl, B5.out⟩
        · have e := HQ.out; rw [if_pos z] at e; subst e
          have nz : (R != 0) = true := by simpa using z
          clear HQ z
          go_wp2_with fail
          go_ret
          exact ⟨rfl, B5.out⟩
  · have e := HB.out hk; subst e
    have k0 : (k == 0) = false := by have : k ≠ 0 := by omega
                                     simpa using this
    have k2 : (k == 2) = false := by have : k ≠ 2 := by omega
                                     simpa using this
    have k1 : (k == 1) = false := by have : k ≠ 1 := by omega
                                     simpa using this
    clear HR HB HC hk
    go_enter Tryd.func39, Tryd.ntmps39
    go_wp2_with (first | (refine wpList_box_obj rfl 55 _ rfl (ndL k p m t a N cap c) rfl ?_; intro w1 g1 b1; have G1 := Lib.hid g1; have B1 := Lib.hid b1; have c0 := g1.get 0 rfl; have c1 := g1.get 1 rfl; have c2 := g1.get 2 rfl; have c3 := g1.get 3 rfl; clear g1 b1) | (refine wpList_alloc_obj rfl 27 rfl (enV 0 emp 0 emp 0) EZ.out ?_; intro w2 g2 b2; have G2 := Lib.hid g2; have N1 := Lib.hid G1.out.lt; have K1 := Lib.hid (G1.out.below b2 G1.out.lt); have B2 := Lib.hid (belT B1.out b2); clear g2 b2 c0 c1 c2 c3) | (refine wpList_store_obj rfl 27 _ _ rfl w1.heap.size rfl (enV k p m t 0) (enV 0 emp 0 emp 0) rfl 27 G2.out EO.out.2 rfl (en_one _ _ _ _ _) ?_; intro w3 g3 t3; have B3 := Lib.hid (B2.out.trans (t3.below B1.out.size)); have c0 := (K1.out.turned t3 (Nat.ne_of_lt N1.out)).get 0 rfl; clear g3 t3))
    go_ret
    exact ⟨rfl, B3.out⟩
end Go.Proofs.YtinmkgpmoclcoaaDoor.Tre
/-
  Layer 13: the program's Check.
-/
namespace Go.Proofs.YtinmkgpmoclcoaaDoor.Tre
open Go.RowKit Go.MapKept Go.Proofs.YtinmkgpmoclcoaaDoor.Fit Pnm

set_option maxRecDepth 100000 in
set_option maxHeartbeats 4000000 in
theorem pchk_any (a : Option Addr) (n cap : Nat) (ys : List NdS) (w : World) (V : FVars w) (ha : ArgNds w a n cap ys) :
    Calls Tryd.prog 22 #[.slice a n cap] w fun e w' => e = .returned (.tuple #[.int .i64 (chk (nds ys)).1, .int .i64 (chk (nds ys)).2]) ∧ Below w.heap.size w w' := by
  have HA := Lib.hid ha
  have HV := Lib.hid V
  have NZ := Lib.hid zNd
  have NO := Lib.hid ndT
  have hn : n ≤ maxLen := Nat.le_trans ha.c ha.m
  have HN : Hid (ys.length = n) := ha.n
  have HL : Hid ((nds ys).length = n) := by show _ = _; rw [nds_len]; exact ha.n
  obtain ⟨X1, hX1⟩ := named (chk (nds ys)).1
  obtain ⟨X2, hX2⟩ := named (chk (nds ys)).2
  have FIN : Hid (∀ R : Int, ∀ i : Nat, i < n → (∀ k, k < i → oneE (nd (nds ys) k) = 0) → R = oneE (nd (nds ys) i) → R ≠ 0 → X1 = i ∧ X2 = R) := fun R i hi hp hR h0 => by
    have := chk_one (l := nds ys) (i := i) (by rw [HL.out]; exact hi) hp (by rw [← hR]; exact h0)
    rw [hX1.out, hX2.out, this, hR]; exact ⟨rfl, rfl⟩
  have HT : Hid ((∀ k, k < n → oneE (nd (nds ys) k) = 0) → ∀ w', Below w.heap.size w w' → Calls Tryd.prog 40 #[.slice a n cap] w' fun e w'' => e = .returned (.tuple #[.int .i64 X1, .int .i64 X2]) ∧ Below w'.heap.size w' w'') := fun h w' hb => by
    rw [hX1.out, hX2.out]; exact ptog_any a n cap ys w' (HA.out.below hb) h
  rw [← hX1.out, ← hX2.out]
  unfold maxLen at hn
  clear ha V hX1 hX2
  go_enter Tryd.func22, Tryd.ntmps22
  go_wp2_with fail
  go_loopw [9] (fun i wr => ∃ j : Nat, i = .int .i64 j ∧ j ≤ n ∧ (∀ k, k < j → oneE (nd (nds ys) k) = 0) ∧ Below w.heap.size w wr) (fun i _ => n - (intOf i).toNat)
  case atStart => exact ⟨0, rfl, Nat.zero_le _, fun k hk => absurd hk (Nat.not_lt_zero k), Below.refl _ _⟩
  case round =>
    obtain ⟨j, rfl, hj, hp, hB⟩ := hrel
    have HP := Lib.hid hp; have HB := Lib.hid hB
    clear hp hB
    by_cases hjn : j < n
    · obtain ⟨b, off, y, rfl, hb, hy, hf, hat⟩ := HA.out.get j hjn
      have hat' := hat.below HB.out hb
      obtain ⟨c0, c1, c2, c3, c4, c5⟩ := hat'.c hy
      obtain ⟨R, hR⟩ := named (oneE y.n)
      have EY : Hid (R = oneE (nd (nds ys) j)) := by show _ = _; rw [hR.out, nd_y hy]
      have ONE : Hid (∀ w', Below w.heap.size w w' → Calls Tryd.prog 39 #[.agg (ndV y).toArray] w' fun e w'' => e = .returned (.int .i64 R) ∧ Below w'.heap.size w' w'') := fun w' hb' => by
        rw [hR.out]; exact pone_any y.n.k y.n.p y.n.m y.n.t y.a y.n.d y.cap y.n.c w' (HV.out.go hb') (Nat.le_trans hf.p (by decide)) (Nat.le_trans hf.t (by decide))
      clear hat hat' hf hy hR
      obtain ⟨⟨k, p, m, t, d, c⟩, x, xc⟩ := y
      obtain ⟨L, hL⟩ := named d.length
      have c4' : wr.cell? ⟨b, off + j * 6 + 4, none⟩ = some (.slice x L xc) := by rw [hL.out]; exact c4
      have ONE' : Hid (∀ w', Below w.heap.size w w' → Calls Tryd.prog 39 #[.agg (ndL k p m t x L xc c).toArray] w' fun e w'' => e = .returned (.int .i64 R) ∧ Below w'.heap.size w' w'') := by rw [hL.out]; exact ONE.out
      clear c4 hL ONE hb
      have j1 : (j : Int) < n := by omega
      go_wp2_with (first | (refine wpList_alloc_obj rfl 55 rfl (ndL 0 emp 0 emp none 0 0 0) NZ.out ?_; intro w2 g2 b2; have G2 := Lib.hid g2; have B2 := Lib.hid (belT HB.out b2); clear g2 b2 c0 c1 c2 c3 c4' c5) | (refine wpList_store_obj rfl 55 _ _ rfl wr.heap.size rfl (ndL k p m t x L xc c) (ndL 0 emp 0 emp none 0 0 0) rfl 55 G2.out NO.out.2 rfl (nd_one _ _ _ _ _ _ _ _) ?_; intro w3 g3 t3; have B3 := Lib.hid (B2.out.trans (t3.below HB.out.size)); have c0 := g3.get 0 rfl; have c1 := g3.get 1 rfl; have c2 := g3.get 2 rfl; have c3 := g3.get 3 rfl; have c4 := g3.get 4 rfl; have c5 := g3.get 5 rfl; clear g3 t3))
      refine (ONE'.out w3 B3.out).mono ?_; rintro e w4 ⟨rfl, b4⟩
      have B4 := Lib.hid (belT B3.out b4)
      clear b4 c0 c1 c2 c3 c4 c5
      by_cases hr : R = 0
      · subst hr
        clear FIN HT
        go_wp2_with fail
        go_round
        case rel => exact ⟨j + 1, by go_num, by omega, fun k hk => by
          by_cases h : k < j
          · exact HP.out k h
          · obtain rfl : k = j := by omega
            exact EY.out.symm, B4.out⟩
        case measure => simp [intOf]; omega
      · obtain ⟨q1, q2⟩ := FIN.out R j hjn HP.out EY.out hr
        have nr : (R != 0) = true := by simpa using hr
        clear FIN HT hr EY ONE'
        subst q1 q2
        go_wp2_with fail
        go_ret2
        exact ⟨rfl, B4.out⟩
    · obtain rfl : j = n := by omega
      have H := Lib.hid (HT.out HP.out wr HB.out)
      clear FIN HT
      go_wp2_with fail
      refine H.out.mono ?_; rintro e w4 ⟨rfl, b4⟩
      have B4 := Lib.hid (belT HB.out b4)
      clear b4
      go_wp2_with fail
      go_ret2
      exact ⟨rfl, B4.out⟩
end Go.Proofs.YtinmkgpmoclcoaaDoor.Tre
