/-
  Push of the heap's slice type. (gen_HepPush.py writes it. Scratch: names of types as in our own copy.)
-/
import Derived.Test.YtjokgiheabmolaaHepTake
import Derived.Deep.RegionHeld
namespace Go.Proofs.Ytjokgiheabmolaa.Hep
open Go.RowKit

section
variable {P : Program} {w : World} {ops : Array Oper} {o : Oper} {a : Act} {Q : Exit → Act → World → Prop} {K : Act → World → Prop} {E : Prop}
theorem step_lit_ss1 (hgd : o.guard = none) (t e : TypeId) (x : Operand) (ho : o.op = .buildSlice t 1 #[(0, x)]) (ht : P.underlying t = some (.slice e)) (hI : ElemS P e) (y : ByteArray) (hx : a.eval x = .string y)
    (k : ∀ w', ObjAt w' w.heap.size e (ssC [y]) → Below w.heap.size w w' → K (a.put o.dst (.slice (some ⟨w.heap.size, 0, none⟩) 1 1)) w') :
    if Region.wanted o (yielded ops a.tmps) = true then Oper.wp P o a w K Q else E := by
  have hw : Region.wanted o (yielded ops a.tmps) = true := by simp [Region.wanted, hgd]
  rw [if_pos hw]
  have hrun := run_lit_ss1 (P := P) (w := w) t e ht hI y
  unfold Oper.wp
  simp only [execOp, ho, List.map_toArray, List.map_cons, List.map_nil, hx, hrun, Sem.run_bind, Sem.run_pure, Result.andThen_ok]
  exact k _ (heap_alloc_new w _) ((Below.refl _ _).alloc (Nat.le_refl _) _)
theorem step_load_ss (hgd : o.guard = none) (T : TypeId) (x : Operand) (ho : o.op = .load T x) (p : Addr) (hx : a.eval x = .pointer (some p)) (v : Value) (hr : (loadVar T p).run P w = .ok v w) (k : K (a.put o.dst v) w) :
    if Region.wanted o (yielded ops a.tmps) = true then Oper.wp P o a w K Q else E := by
  have hw : Region.wanted o (yielded ops a.tmps) = true := by simp [Region.wanted, hgd]
  rw [if_pos hw]
  unfold Oper.wp execOp
  simp only [ho, hx, Instr.loadAt, Instr.sureAddr, Sem.run_bind, Sem.run_pure, Result.andThen_ok, hr]
  exact k
theorem step_store_ss (hgd : o.guard = none) (T : TypeId) (x y : Operand) (ho : o.op = .store T x y) (g i : Nat) (hx : a.eval x = .pointer (some ⟨g, i, none⟩))
    (v : Value) (hy : a.eval y = v) (h1 : v.oneCell' = true) (hs : (P.info? T).map (·.size) = some 1) (T' : TypeId) (vs : List Value) (hg : ObjAt w g T' vs) (hi : i < vs.length)
    (k : K (a.put o.dst undef) (w.setCell ⟨g, i, none⟩ v)) :
    if Region.wanted o (yielded ops a.tmps) = true then Oper.wp P o a w K Q else E := by
  have hw : Region.wanted o (yielded ops a.tmps) = true := by simp [Region.wanted, hgd]
  rw [if_pos hw]
  have hc : w.cell? ⟨g, i, none⟩ = some vs[i] := hg.get i (List.getElem?_eq_getElem hi)
  have hf := hg.frozen i
  have hv : v.cells = #[v] := by cases v <;> first | rfl | (simp [Value.oneCell'] at h1)
  cases hq : P.info? T with
  | none => simp [hq] at hs
  | some j =>
    have hj : j.size = 1 := by simpa [hq] using hs
    have ha : (⟨g, i, none⟩ : Addr).add 0 = ⟨g, i, none⟩ := add_plain' g i 0
    have hrun : (storeVar T ⟨g, i, none⟩ v).run P w = .ok () (w.setCell ⟨g, i, none⟩ v) := by
      simp [storeVar, sizeOf, typeInfo, hq, hj, hv, storeCells, run_store P w _ v _ h1, ha, hc, hf]
    unfold Oper.wp execOp
    simp only [ho, hx, hy, Instr.storeAt, Instr.sureAddr, Sem.run_bind, Sem.run_pure, Result.andThen_ok, hrun]
    exact k
end
/-- the heap behind an append and its store -/
theorem HO.push {w0 w : World} {S0 : Nat → Prop} {gg n : Nat} {l : List ByteArray} {s : ByteArray} (h : HO w0 S0 gg w l) (hn : l.length = n) :
    ∃ a cap, ObjAt w gg 48 [.slice a n cap] ∧ w.ownsRow 0 9 1 (.slice a n cap) n (ssC l) ∧
      ∀ w1 v w2, Below w.heap.size w w1 → w2.ownsRow 0 9 1 v (n + 1) (ssC (l ++ [s])) → Below 0 w1 w2 → (∀ k, k < w1.heap.size → some k ≠ (Value.slice a n cap).ownBlock → w2.heap[k]? = w1.heap[k]?) →
        (v.ownBlock = (Value.slice a n cap).ownBlock ∨ v.ownBlock = some w1.heap.size) →
        (∃ va vc, v = .slice va (n + 1) vc ∧ ObjAt w2 gg 48 [.slice a n cap]) ∧ HO w0 S0 gg (w2.setCell ⟨gg, 0, none⟩ v) (l ++ [s]) := by
  obtain ⟨a, cap, S, h1, h2, h3, h4, h5, h6, h7⟩ := h
  rw [hn] at h1 h2
  refine ⟨a, cap, h1, h2, fun w1 v w2 b1 ho b2 hk hv => ?_⟩
  have glt : gg < w.heap.size := h6 gg h3
  have glt1 : gg < w1.heap.size := Nat.lt_of_lt_of_le glt b1.size
  have o1 : ObjAt w1 gg 48 [.slice a n cap] := h1.below b1 glt
  have ne := HO.apart h1 h2
  have o2 : ObjAt w2 gg 48 [.slice a n cap] := (hk gg glt1 (fun c => ne c.symm)).trans o1
  have nv := HO.apart o2 ho
  obtain ⟨va, vc, rfl, hl, -, -, -, hx⟩ := SsIn.of_own ho
  refine ⟨⟨va, vc, rfl, o2⟩, va, vc, fun k => S k ∨ (w.heap.size ≤ k ∧ k < w2.heap.size), ?_, ?_, .inl h3, fun x hxx => ?_, fun k hk' => ?_, fun k hk' => ?_, ?_⟩
  · rw [List.length_append, hn]; exact o2.set 0 _
  · rw [List.length_append, hn]; exact ownsRow_setCell_other ho nv _
  · obtain ⟨-, -, hlt, -⟩ := hx x hxx
    rcases hv with hv | hv
    · rw [hxx] at hv
      cases a with
      | none => cases hv
      | some a => exact .inl (by injection hv with hv; rw [hv]; exact h4 a rfl)
    · rw [hxx] at hv
      injection hv with hv
      exact .inr ⟨by rw [hv]; exact b1.size, hlt⟩
  · rcases hk' with hk' | hk'
    · exact h5 k hk'
    · exact .inr (Nat.le_trans h7.size hk'.1)
  · show k < (w2.setCell _ _).heap.size
    rw [show (w2.setCell ⟨gg, 0, none⟩ (.slice va (n + 1) vc)).heap.size = w2.heap.size by simp [World.setCell]]
    rcases hk' with hk' | hk'
    · exact Nat.lt_of_lt_of_le (h6 k hk') (Nat.le_trans b1.size b2.size)
    · exact hk'.2
  · have hO : Only S0 w0 w1 := h7.trans (Only.of_below b1 (Nat.le_refl _))
    refine Only.setCell (p := ⟨gg, 0, none⟩) ⟨b2.os.trans hO.os, b2.tape.trans hO.tape, b2.output.trans hO.output, Nat.le_trans hO.size b2.size, fun k hk' hj => ?_⟩ (h5 gg h3) _
    refine (hk k (Nat.lt_of_lt_of_le hk' hO.size) fun c => ?_).trans (hO.block k hk' hj)
    cases a with
    | none => cases c
    | some a =>
      injection c with c
      rcases h5 k (by rw [c]; exact h4 a rfl) with q | q
      · exact hj q
      · omega

set_option maxRecDepth 100000 in
set_option maxHeartbeats 4000000 in
theorem mpush_any {w0 wz : World} {S0 : Nat → Prop} {gg n : Nat} {l : List ByteArray} {s : ByteArray} (h : HO w0 S0 gg wz l) (hn : l.length = n) (hb : n < 8796093022208) :
    Calls Try.prog 46 #[.pointer (some ⟨gg, 0, none⟩), .iface 9 (.string s)] wz fun e w' => e = .returned (.tuple #[]) ∧ HO w0 S0 gg w' (l ++ [s]) := by
  obtain ⟨a, cap, h1, h2, h3⟩ := h.push (s := s) hn
  have PU := Lib.hid h3
  have ES : Hid (ElemS Try.prog 9) := elemS (by kernel_rfl)
  have S1 : Hid ((Try.prog.info? 46).map (·.size) = some 1) := by show _ = _; kernel_rfl
  have OW : Hid (∀ w', Below wz.heap.size wz w' → w'.ownsRow 0 9 1 (.slice a n cap) n (ssC l)) := fun w' hb => own_stay' h2 hb (Nat.le_refl _)
  have LG : Hid (∀ w', Below wz.heap.size wz w' → (loadVar 46 ⟨gg, 0, none⟩).run Try.prog w' = .ok (.slice a n cap) w') := fun w' hb => run_load1 Try.underlying46 S1.out ((h1.below hb h1.lt).get 0 rfl)
  have D0 : Hid (Below wz.heap.size wz wz.drew) := (Below.refl _ _).drew
  have NB := Lib.hid hb
  have TA : Hid (∀ W : World, (Instr.typeAssert (.iface 9 (.string s)) 20 9 false).run Try.prog W = .ok (.string s) W) := fun W => by kernel_rfl
  clear h h1 h2 h3 hn hb
  go_enter Try.func46, Try.ntmps46
  go_wp2_with fail
  refine wp_region_held_drew (S := fun _ => True) (by kernel_rfl) (trivial) (fun hHeld => ?_)
  refine wpAnyH_take (i := 0) (oi := { dst := some 4, op := Go.Op.move (Go.Operand.tmp 0), type := 45, pos := "pathheap.go:75", after := #[], guard := none }) (v := ?_) rfl (by kernel_rfl) (by kernel_rfl) (by kernel_rfl) (fun _ _ _ h => h) (Or.inl ⟨by rfl, ?_⟩) (by assumption) ?_
  rotate_left 1
  focus ((intro wS hSw; (try dsimp only at hSw); go_simp) <;> (try with_reducible rfl))
  try simp only [Act.put, List.setIfInBounds_toArray, List.set_cons_zero, List.set_cons_succ]
  refine wpAnyH_take (i := 1) (oi := { dst := some 5, op := Go.Op.move (Go.Operand.tmp 0), type := 45, pos := "pathheap.go:75", after := #[], guard := none }) (v := ?_) rfl (by kernel_rfl) (by kernel_rfl) (by kernel_rfl) (fun _ _ _ h => h) (Or.inl ⟨by rfl, ?_⟩) (by assumption) ?_
  rotate_left 1
  focus ((intro wS hSw; (try dsimp only at hSw); go_simp) <;> (try with_reducible rfl))
  try simp only [Act.put, List.setIfInBounds_toArray, List.set_cons_zero, List.set_cons_succ]
  refine wpAnyH_take (i := 2) (oi := { dst := some 6, op := Go.Op.nilCheck (Go.Operand.tmp 5), type := 0, pos := "pathheap.go:75", after := #[{ on := 1, ground := Go.Ground.data }], guard := none }) (v := ?_) rfl (by kernel_rfl) (by kernel_rfl) (by kernel_rfl) (fun _ _ _ h => h) (Or.inl ⟨by rfl, ?_⟩) (by assumption) ?_
  rotate_left 1
  focus ((intro wS hSw; (try dsimp only at hSw); go_simp) <;> (try with_reducible rfl))
  try simp only [Act.put, List.setIfInBounds_toArray, List.set_cons_zero, List.set_cons_succ]
  refine wpAnyH_take (i := 4) (oi := { dst := some 8, op := Go.Op.move (Go.Operand.tmp 1), type := 20, pos := "pathheap.go:75", after := #[], guard := none }) (v := ?_) rfl (by kernel_rfl) (by kernel_rfl) (by kernel_rfl) (fun _ _ _ h => h) (Or.inl ⟨by rfl, ?_⟩) (by assumption) ?_
  rotate_left 1
  focus ((intro wS hSw; (try dsimp only at hSw); go_simp) <;> (try with_reducible rfl))
  try simp only [Act.put, List.setIfInBounds_toArray, List.set_cons_zero, List.set_cons_succ]
  refine wpAnyH_take (i := 5) (oi := { dst := some 9, op := Go.Op.typeAssert (Go.Operand.tmp 8) 20 9 false, type := 9, pos := "pathheap.go:75", after := #[{ on := 4, ground := Go.Ground.data }], guard := none }) (v := ?_) rfl (by kernel_rfl) (by kernel_rfl) (by kernel_rfl) (fun _ _ _ h => h) (Or.inl ⟨by rfl, ?_⟩) (by assumption) ?_
  rotate_left 1
  focus ((intro wS hSw; (try dsimp only at hSw); go_simp; rw [TA.out]; (try simp only [Result.andThen])) <;> (try with_reducible rfl))
  try simp only [Act.put, List.setIfInBounds_toArray, List.set_cons_zero, List.set_cons_succ]
  refine wpAnyH_ready (rs := [3, 6]) (by kernel_rfl) (by simp) ?_
  refine AllReadyH.cons (o := { dst := some 7, op := Go.Op.load 46 (Go.Operand.tmp 6), type := 46, pos := "pathheap.go:75", after := #[{ on := 2, ground := Go.Ground.data }], guard := none }) rfl (fun K hK => ?_) (AllReadyH.cons (o := { dst := some 10, op := Go.Op.buildSlice 46 1 #[(0, Go.Operand.tmp 9)], type := 46, pos := "pathheap.go:75", after := #[{ on := 5, ground := Go.Ground.data }], guard := none }) rfl (fun K hK => ?_) AllReadyH.nil)
  · refine step_load_ss rfl 46 (.tmp 6) rfl ⟨gg, 0, none⟩ rfl (.slice a n cap) (LG.out _ D0.out) ?_
    refine hK.out _ _ (trivial) (fun hHeld => ?_)
    clear hK K
    (try simp only [Act.put, List.setIfInBounds_toArray, List.set_cons_zero, List.set_cons_succ])
    refine wpAnyH_ready (rs := [6]) (by kernel_rfl) (by simp) ?_
    refine AllReadyH.cons (o := { dst := some 10, op := Go.Op.buildSlice 46 1 #[(0, Go.Operand.tmp 9)], type := 46, pos := "pathheap.go:75", after := #[{ on := 5, ground := Go.Ground.data }], guard := none }) rfl (fun K hK => ?_) AllReadyH.nil
    refine step_lit_ss1 rfl 46 9 (.tmp 9) rfl Try.underlying46 ES.out s rfl ?_
    intro z2 l2 b2
    have L2 : Hid (ObjAt z2 wz.drew.heap.size 9 (ssC [s])) := l2
    have D2 : Hid (Below wz.heap.size wz z2) := D0.out.trans (b2.mono D0.out.size)
    clear l2 b2
    refine hK.out _ _ (trivial) (fun hHeld => ?_)
    clear hK K
    (try simp only [Act.put, List.setIfInBounds_toArray, List.set_cons_zero, List.set_cons_succ])
    refine wpAnyH_ready (rs := [7]) (by kernel_rfl) (by simp) ?_
    refine AllReadyH.cons (o := { dst := some 11, op := Go.Op.call { callee := Go.Callee.builtin Go.Builtin.append, args := #[Go.Operand.tmp 7, Go.Operand.tmp 10], argTypes := #[46, 46] }, type := 46, pos := "pathheap.go:75", after := #[{ on := 3, ground := Go.Ground.data }, { on := 6, ground := Go.Ground.data }], guard := none }) rfl (fun K hK => ?_) AllReadyH.nil
    refine step_append_ss rfl (.tmp 7) (.tmp 10) 46 rfl 9 0 Try.underlying46 ES.out _ n l rfl (OW.out _ D2.out) (some ⟨wz.heap.size, 0, none⟩) 1 1 [s] rfl L2.out.ss rfl (by have := NB.out; omega) (Nat.zero_le _) ?_
    intro v3 z3 o3 b3 k3 c3
    have FIN := Lib.hid (PU.out _ v3 z3 D2.out o3 b3 k3 c3)
    clear o3 b3 k3 c3
    obtain ⟨va, vc, hva, hob⟩ : ∃ va vc, v3 = .slice va (n + 1) vc ∧ ObjAt z3 gg 48 [.slice a n cap] := FIN.out.1
    subst hva
    refine hK.out _ _ (trivial) (fun hHeld => ?_)
    clear hK K
    (try simp only [Act.put, List.setIfInBounds_toArray, List.set_cons_zero, List.set_cons_succ])
    refine wpAnyH_take (i := 8) (oi := { dst := some 12, op := Go.Op.nilCheck (Go.Operand.tmp 4), type := 0, pos := "pathheap.go:75", after := #[{ on := 0, ground := Go.Ground.data }, { on := 0, ground := Go.Ground.phase }, { on := 1, ground := Go.Ground.phase }, { on := 2, ground := Go.Ground.phase }, { on := 3, ground := Go.Ground.phase }, { on := 4, ground := Go.Ground.phase }, { on := 5, ground := Go.Ground.phase }, { on := 6, ground := Go.Ground.phase }, { on := 7, ground := Go.Ground.phase }], guard := none }) (v := ?_) rfl (by kernel_rfl) (by kernel_rfl) (by kernel_rfl) (fun _ _ _ h => h) (Or.inl ⟨by rfl, ?_⟩) (by assumption) ?_
    rotate_left 1
    focus ((intro wS hSw; (try dsimp only at hSw); go_simp) <;> (try with_reducible rfl))
    simp only [Act.put, List.setIfInBounds_toArray, List.set_cons_zero, List.set_cons_succ]
    refine wpAnyH_ready (rs := [9]) (by kernel_rfl) (by simp) ?_
    refine AllReadyH.cons (o := { dst := none, op := Go.Op.store 46 (Go.Operand.tmp 12) (Go.Operand.tmp 11), type := 0, pos := "pathheap.go:75", after := #[{ on := 8, ground := Go.Ground.data }, { on := 7, ground := Go.Ground.data }, { on := 7, ground := Go.Ground.chain }, { on := 0, ground := Go.Ground.phase }, { on := 1, ground := Go.Ground.phase }, { on := 2, ground := Go.Ground.phase }, { on := 3, ground := Go.Ground.phase }, { on := 4, ground := Go.Ground.phase }, { on := 5, ground := Go.Ground.phase }, { on := 6, ground := Go.Ground.phase }, { on := 7, ground := Go.Ground.phase }], guard := none }) rfl (fun K hK => ?_) AllReadyH.nil
    refine step_store_ss rfl 46 (.tmp 12) (.tmp 11) rfl gg 0 rfl (.slice va (n + 1) vc) rfl rfl S1.out 48 [.slice a n cap] hob (by simp) ?_
    have RES := Lib.hid FIN.out.2
    refine hK.out _ _ (trivial) (fun hHeld => ?_)
    clear hK K
    (try simp only [Act.put])
    refine wpAnyH_done (by kernel_rfl) ?_ _
    go_wp2_with fail
    refine bodyPost_end (results_none Try.results46 _ _ _) rfl ?_
    exact ⟨rfl, RES.out⟩
  · refine step_lit_ss1 rfl 46 9 (.tmp 9) rfl Try.underlying46 ES.out s rfl ?_
    intro z5 l5 b5
    have L5 : Hid (ObjAt z5 wz.drew.heap.size 9 (ssC [s])) := l5
    have D5 : Hid (Below wz.heap.size wz z5) := D0.out.trans (b5.mono D0.out.size)
    clear l5 b5
    refine hK.out _ _ (trivial) (fun hHeld => ?_)
    clear hK K
    (try simp only [Act.put, List.setIfInBounds_toArray, List.set_cons_zero, List.set_cons_succ])
    refine wpAnyH_ready (rs := [3]) (by kernel_rfl) (by simp) ?_
    refine AllReadyH.cons (o := { dst := some 7, op := Go.Op.load 46 (Go.Operand.tmp 6), type := 46, pos := "pathheap.go:75", after := #[{ on := 2, ground := Go.Ground.data }], guard := none }) rfl (fun K hK => ?_) AllReadyH.nil
    refine step_load_ss rfl 46 (.tmp 6) rfl ⟨gg, 0, none⟩ rfl (.slice a n cap) (LG.out _ D5.out) ?_
    refine hK.out _ _ (trivial) (fun hHeld => ?_)
    clear hK K
    (try simp only [Act.put, List.setIfInBounds_toArray, List.set_cons_zero, List.set_cons_succ])
    refine wpAnyH_ready (rs := [7]) (by kernel_rfl) (by simp) ?_
    refine AllReadyH.cons (o := { dst := some 11, op := Go.Op.call { callee := Go.Callee.builtin Go.Builtin.append, args := #[Go.Operand.tmp 7, Go.Operand.tmp 10], argTypes := #[46, 46] }, type := 46, pos := "pathheap.go:75", after := #[{ on := 3, ground := Go.Ground.data }, { on := 6, ground := Go.Ground.data }], guard := none }) rfl (fun K hK => ?_) AllReadyH.nil
    refine step_append_ss rfl (.tmp 7) (.tmp 10) 46 rfl 9 0 Try.underlying46 ES.out _ n l rfl (OW.out _ D5.out) (some ⟨wz.heap.size, 0, none⟩) 1 1 [s] rfl L5.out.ss rfl (by have := NB.out; omega) (Nat.zero_le _) ?_
    intro v6 z6 o6 b6 k6 c6
    have FIN := Lib.hid (PU.out _ v6 z6 D5.out o6 b6 k6 c6)
    clear o6 b6 k6 c6
    obtain ⟨va, vc, hva, hob⟩ : ∃ va vc, v6 = .slice va (n + 1) vc ∧ ObjAt z6 gg 48 [.slice a n cap] := FIN.out.1
    subst hva
    refine hK.out _ _ (trivial) (fun hHeld => ?_)
    clear hK K
    (try simp only [Act.put, List.setIfInBounds_toArray, List.set_cons_zero, List.set_cons_succ])
    refine wpAnyH_take (i := 8) (oi := { dst := some 12, op := Go.Op.nilCheck (Go.Operand.tmp 4), type := 0, pos := "pathheap.go:75", after := #[{ on := 0, ground := Go.Ground.data }, { on := 0, ground := Go.Ground.phase }, { on := 1, ground := Go.Ground.phase }, { on := 2, ground := Go.Ground.phase }, { on := 3, ground := Go.Ground.phase }, { on := 4, ground := Go.Ground.phase }, { on := 5, ground := Go.Ground.phase }, { on := 6, ground := Go.Ground.phase }, { on := 7, ground := Go.Ground.phase }], guard := none }) (v := ?_) rfl (by kernel_rfl) (by kernel_rfl) (by kernel_rfl) (fun _ _ _ h => h) (Or.inl ⟨by rfl, ?_⟩) (by assumption) ?_
    rotate_left 1
    focus ((intro wS hSw; (try dsimp only at hSw); go_simp) <;> (try with_reducible rfl))
    simp only [Act.put, List.setIfInBounds_toArray, List.set_cons_zero, List.set_cons_succ]
    refine wpAnyH_ready (rs := [9]) (by kernel_rfl) (by simp) ?_
    refine AllReadyH.cons (o := { dst := none, op := Go.Op.store 46 (Go.Operand.tmp 12) (Go.Operand.tmp 11), type := 0, pos := "pathheap.go:75", after := #[{ on := 8, ground := Go.Ground.data }, { on := 7, ground := Go.Ground.data }, { on := 7, ground := Go.Ground.chain }, { on := 0, ground := Go.Ground.phase }, { on := 1, ground := Go.Ground.phase }, { on := 2, ground := Go.Ground.phase }, { on := 3, ground := Go.Ground.phase }, { on := 4, ground := Go.Ground.phase }, { on := 5, ground := Go.Ground.phase }, { on := 6, ground := Go.Ground.phase }, { on := 7, ground := Go.Ground.phase }], guard := none }) rfl (fun K hK => ?_) AllReadyH.nil
    refine step_store_ss rfl 46 (.tmp 12) (.tmp 11) rfl gg 0 rfl (.slice va (n + 1) vc) rfl rfl S1.out 48 [.slice a n cap] hob (by simp) ?_
    have RES := Lib.hid FIN.out.2
    refine hK.out _ _ (trivial) (fun hHeld => ?_)
    clear hK K
    (try simp only [Act.put])
    refine wpAnyH_done (by kernel_rfl) ?_ _
    go_wp2_with fail
    refine bodyPost_end (results_none Try.results46 _ _ _) rfl ?_
    exact ⟨rfl, RES.out⟩
end Go.Proofs.Ytjokgiheabmolaa.Hep
