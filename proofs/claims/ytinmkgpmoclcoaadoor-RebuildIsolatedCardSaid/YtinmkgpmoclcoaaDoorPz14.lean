/-
  Slices of nodes in a drawn region: the empty literal, a literal of one, append. Parts of a slice of nodes. Nothing of the program.
-/
import Derived.Test.YtinmkgpmoclcoaaDoorPz13
import Derived.Deep.RegionHeld3
import Derived.Test.YtinmkgpmoclcoaaDoorPz05
import Derived.Test.YtinmkgpmoclcoaaDoorPz06
import Derived.Test.YtinmkgpmoclcoaaDoorPz12
import Derived.Test.YtinmkgpmoclcoaaDoorPz08
namespace Go.Proofs.YtinmkgpmoclcoaaDoor.Tre
open Go.RowKit
section
variable {P : Program} {w : World} {ops : Array Oper} {o : Oper} {a : Act} {Q : Exit → Act → World → Prop} {K : Act → World → Prop} {E : Prop}

theorem step_append_nds (hgd : o.guard = none) (s x : Operand) (t : TypeId) (ho : o.op = .call { callee := .builtin .append, args := #[s, x], argTypes := #[t, t] })
    (base : Nat) (e : TypeId) (i0 : TypeInfo) (z : Value) (hT : P.underlying t = some (.slice e)) (hI : Hid (P.info? e = some i0 ∧ i0.zero = some z ∧ i0.size = 6 ∧ i0.bytes = 80)) (hz : z.cells.size = 6)
    (v : Value) (n : Nat) (ys : List NdS) (hs : a.eval s = v) (hown : w.ownsRow base e 6 v n (ndCells ys)) (b : Option Addr) (m c : Nat) (xs : List NdS) (hx : a.eval x = .slice b m c) (hy : NdsIn w b xs) (hl : xs.length = m) (h47 : n + m ≤ 1759218604441) (hbase : base ≤ w.heap.size)
    (k : ∀ v' w', w'.ownsRow base e 6 v' (n + m) (ndCells (ys ++ xs)) → Below base w w' → (∀ k, k < w.heap.size → some k ≠ v.ownBlock → w'.heap[k]? = w.heap[k]?) → K (a.put o.dst v') w') :
    if Region.wanted o (yielded ops a.tmps) = true then Oper.wp P o a w K Q else E := by
  have hw : Region.wanted o (yielded ops a.tmps) = true := by simp [Region.wanted, hgd]
  rw [if_pos hw]
  obtain ⟨v', w', hr, h1, h2, h3, _⟩ := run_append_nds (P := P) (w := w) t o.type e base i0 z hT hI hz v n ys hown b m c xs hy hl h47 hbase
  unfold Oper.wp
  simp [execOp, ho, resolve, invoke, builtin, hs, hx, hr, Result.andThen]
  exact k _ _ h1 h2 h3
theorem step_lit_nd0 (hgd : o.guard = none) (t e : TypeId) (ho : o.op = .buildSlice t 0 #[]) (ht : P.underlying t = some (.slice e)) (z : Value) (hI : (P.info? e).map (fun i => (i.zero, i.size)) = some (some z, 6))
    (k : ∀ w', w'.ownsRow w.heap.size e 6 (.slice (some ⟨w.heap.size, 0, none⟩) 0 0) 0 (ndCells []) → Below w.heap.size w w' → K (a.put o.dst (.slice (some ⟨w.heap.size, 0, none⟩) 0 0)) w') :
    if Region.wanted o (yielded ops a.tmps) = true then Oper.wp P o a w K Q else E := by
  have hw : Region.wanted o (yielded ops a.tmps) = true := by simp [Region.wanted, hgd]
  rw [if_pos hw]
  have hrun := run_lit_nd0 (P := P) (w := w) t e ht z hI
  unfold Oper.wp
  simp [execOp, ho, hrun, Result.andThen]
  exact k _ (own_lit_nd0 w e) ((Below.refl _ _).alloc (Nat.le_refl _) _)
theorem step_lit_nd1 (hgd : o.guard = none) (t e : TypeId) (x : Operand) (ho : o.op = .buildSlice t 1 #[(0, x)]) (ht : P.underlying t = some (.slice e)) (z : Value) (hI : (P.info? e).map (fun i => (i.zero, i.size)) = some (some z, 6))
    (y : NdS) (hx : a.eval x = .agg (ndV y).toArray)
    (k : ∀ w', ObjAt w' w.heap.size e (ndCells [y]) → Below w.heap.size w w' → K (a.put o.dst (.slice (some ⟨w.heap.size, 0, none⟩) 1 1)) w') :
    if Region.wanted o (yielded ops a.tmps) = true then Oper.wp P o a w K Q else E := by
  have hw : Region.wanted o (yielded ops a.tmps) = true := by simp [Region.wanted, hgd]
  rw [if_pos hw]
  have hrun := run_lit_nd1 (P := P) (w := w) t e ht z hI y
  unfold Oper.wp
  simp only [execOp, ho, List.map_toArray, List.map_cons, List.map_nil, hx, hrun, Sem.run_bind, Sem.run_pure, Result.andThen_ok]
  exact k _ (heap_alloc_new w _) ((Below.refl _ _).alloc (Nat.le_refl _) _)
end
theorem own_base6 {w : World} {base base' n : Nat} {e : TypeId} {v : Value} {xs : List Value} (h : w.ownsRow base e 6 v n xs) (hb : base' ≤ base) : w.ownsRow base' e 6 v n xs := by
  obtain ⟨h1, h2⟩ := h
  refine ⟨h1, ?_⟩
  rcases h2 with h2 | ⟨g, cap, cur, hv, hg, r⟩
  · exact Or.inl h2
  · exact Or.inr ⟨g, cap, cur, hv, Nat.le_trans hb hg, r⟩
theorem NdsIn.take {w : World} {a : Option Addr} {ys : List NdS} (h : NdsIn w a ys) (i : Nat) : NdsIn w a (ys.take i) := by
  rcases h with rfl | ⟨b, off, h1, h2, h3⟩
  · exact .inl (by simp)
  · refine .inr ⟨b, off, h1, h2, fun k y hk => h3 k y ?_⟩
    rw [List.getElem?_take] at hk
    split at hk
    · exact hk
    · cases hk
theorem NdsIn.drop {w : World} {b off : Nat} {ys : List NdS} (h : NdsIn w (some ⟨b, off, none⟩) ys) (i : Nat) : NdsIn w (some ⟨b, off + i * 6, none⟩) (ys.drop i) := by
  rcases h with rfl | ⟨b', off', h1, h2, h3⟩
  · exact .inl (by simp)
  · cases h1
    refine .inr ⟨b, _, rfl, h2, fun k y hk j v hv => ?_⟩
    rw [List.getElem?_drop] at hk
    have := h3 (i + k) y hk j v hv
    rw [show off + i * 6 + k * 6 + j = off + (i + k) * 6 + j by omega]
    exact this
theorem obj_nds {w : World} {g : Nat} {e : TypeId} {ys : List NdS} (h : ObjAt w g e (ndCells ys)) : NdsIn w (some ⟨g, 0, none⟩) ys := .inr ⟨g, 0, rfl, h.lt, .of_cells h⟩
end Go.Proofs.YtinmkgpmoclcoaaDoor.Tre
/-
  Layer 13: the reference's Check.
-/
namespace Go.Proofs.YtinmkgpmoclcoaaDoor.Tre
open Go.RowKit Go.Proofs.YtinmkgpmoclcoaaDoor.Fit Pnm

set_option maxRecDepth 100000 in
set_option maxHeartbeats 4000000 in
theorem rchk_any (a : Option Addr) (n cap : Nat) (ys : List NdS) (w : World) (ha : ArgNds w a n cap ys) :
    Calls Tryd.prog 41 #[.slice a n cap] w fun e w' => e = .returned (.tuple #[.int .i64 (chk (nds ys)).1, .int .i64 (chk (nds ys)).2]) ∧ Below w.heap.size w w' := by
  have HA := Lib.hid ha
  have hn : n ≤ maxLen := Nat.le_trans ha.c ha.m
  have HN : Hid (ys.length = n) := ha.n
  have HL : Hid ((nds ys).length = n) := by show _ = _; rw [nds_len]; exact ha.n
  obtain ⟨X1, hX1⟩ := named (chk (nds ys)).1
  obtain ⟨X2, hX2⟩ := named (chk (nds ys)).2
  have FIN : Hid (∀ R : Int, ∀ i : Nat, i < n → (∀ k, k < i → oneE (nd (nds ys) k) = 0) → R = oneE (nd (nds ys) i) → R ≠ 0 → X1 = i ∧ X2 = R) := fun R i hi hp hR h0 => by
    have := chk_one (l := nds ys) (i := i) (by rw [HL.out]; exact hi) hp (by rw [← hR]; exact h0)
    rw [hX1.out, hX2.out, this, hR]; exact ⟨rfl, rfl⟩
  have FIN2 : Hid ((∀ k, k < n → oneE (nd (nds ys) k) = 0) → ∀ R : Int, ∀ i : Nat, i < n → (∀ k, k < i → togE (nds ys) k = 0) → R = togE (nds ys) i → R ≠ 0 → X1 = i ∧ X2 = R) := fun HO R i hi hp hR h0 => by
    have := chk_tog (l := nds ys) (i := i) (fun k hk => HO k (by rw [← HL.out]; exact hk)) (by rw [HL.out]; exact hi) hp (by rw [← hR]; exact h0)
    rw [hX1.out, hX2.out, this, hR]; exact ⟨rfl, rfl⟩
  have END : Hid ((∀ k, k < n → oneE (nd (nds ys) k) = 0) → (∀ k, k < n → togE (nds ys) k = 0) → X1 = n ∧ X2 = 0) := fun HO h => by
    have := chk_fine (l := nds ys) (fun k hk => HO k (by rw [← HL.out]; exact hk)) (fun k hk => h k (by rw [← HL.out]; exact hk))
    rw [hX1.out, hX2.out, this, HL.out]; exact ⟨rfl, rfl⟩
  rw [← hX1.out, ← hX2.out]
  unfold maxLen at hn
  clear ha hX1 hX2
  go_enter Tryd.func41, Tryd.ntmps41
  go_wp2_with fail
  go_loopw [4] (fun i wr => ∃ j : Nat, i = .int .i64 j ∧ j ≤ n ∧ (∀ k, k < j → oneE (nd (nds ys) k) = 0) ∧ Below w.heap.size w wr) (fun i _ => n - (intOf i).toNat)
  case atStart => exact ⟨0, rfl, Nat.zero_le _, fun k hk => absurd hk (Nat.not_lt_zero k), Below.refl _ _⟩
  case round =>
    obtain ⟨j, rfl, hj, hp, hB⟩ := hrel
    have HP := Lib.hid hp; have HB := Lib.hid hB
    clear hp hB
    by_cases hjn : j < n
    · obtain ⟨b, off, y, rfl, hb, hy, hf, hat⟩ := HA.out.get j hjn
      have hat' := hat.below HB.out hb
      obtain ⟨c0, c1, c2, c3, c4, c5⟩ := hat'.c hy
      obtain ⟨R, hR⟩ := named (oneE y.n)
      have EY : Hid (R = oneE (nd (nds ys) j)) := by show _ = _; rw [hR.out, nd_y hy]
      have ONE : Hid (∀ w', Calls Tryd.prog 63 #[.agg (ndV y).toArray] w' fun e w'' => e = .returned (.int .i64 R) ∧ Below w'.heap.size w' w'') := fun w' => by
        rw [hR.out]; exact rone_any y.n.k y.n.p y.n.m y.n.t y.a y.n.d y.cap y.n.c w' (Nat.le_trans hf.p (by decide)) (Nat.le_trans hf.t (by decide))
      clear hat hat' hf hy hR
      obtain ⟨⟨k, p, m, t, d, c⟩, x, xc⟩ := y
      obtain ⟨L, hL⟩ := named d.length
      have c4' : wr.cell? ⟨b, off + j * 6 + 4, none⟩ = some (.slice x L xc) := by rw [hL.out]; exact c4
      have ONE' : Hid (∀ w', Calls Tryd.prog 63 #[.agg (ndL k p m t x L xc c).toArray] w' fun e w'' => e = .returned (.int .i64 R) ∧ Below w'.heap.size w' w'') := by rw [hL.out]; exact ONE.out
      clear c4 hL ONE hb
      have j1 : (j : Int) < n := by omega
      go_wp2_with fail
      refine (ONE'.out wr).mono ?_; rintro e w4 ⟨rfl, b4⟩
      have B4 := Lib.hid (belT HB.out b4)
      clear b4 c0 c1 c2 c3 c4' c5
      by_cases hr : R = 0
      · subst hr
        clear FIN FIN2 END
        go_wp2_with fail
        go_round
        case rel => exact ⟨j + 1, by go_num, by omega, fun k hk => by
          by_cases h : k < j
          · exact HP.out k h
          · obtain rfl : k = j := by omega
            exact EY.out.symm, B4.out⟩
        case measure => simp [intOf]; omega
      · obtain ⟨q1, q2⟩ := FIN.out R j hjn HP.out EY.out hr
        have nr : (R != 0) = true := by simpa using hr
        clear FIN FIN2 END hr EY ONE'
        subst q1 q2
        go_wp2_with fail
        go_ret2
        exact ⟨rfl, B4.out⟩
    · obtain rfl : j = n := by omega
      have FINX := Lib.hid (FIN2.out HP.out)
      have ENDX := Lib.hid (END.out HP.out)
      clear FIN FIN2 END hjn
      go_wp2_with fail
      go_loopw [6] (fun i wr => ∃ q : Nat, i = .int .i64 q ∧ q ≤ j ∧ (∀ k, k < q → togE (nds ys) k = 0) ∧ Below w.heap.size w wr) (fun i _ => j - (intOf i).toNat)
      case atStart => exact ⟨0, rfl, Nat.zero_le _, fun k hk => absurd hk (Nat.not_lt_zero k), HB.out⟩
      case round =>
        obtain ⟨q, rfl, hq, hp, hB⟩ := hrel
        have HT := Lib.hid hp; have HQ := Lib.hid hB
        clear hp hB
        by_cases hqn : q < j
        · have q1 : (q : Int) < j := by omega
          obtain ⟨R, hR⟩ := named (togE (nds ys) q)
          have T := rtog_any a j cap q ys _ (HA.out.below HQ.out) hqn
          rw [← hR.out] at T
          have TT := Lib.hid T
          clear T
          go_wp2_with fail
          refine TT.out.mono ?_; rintro e w4 ⟨rfl, b4⟩
          have B4 := Lib.hid (belT HQ.out b4)
          clear b4
          by_cases hr : R = 0
          · subst hr
            clear FINX ENDX
            go_wp2_with fail
            go_round
            case rel => exact ⟨q + 1, by go_num, by omega, fun k hk => by
              by_cases h : k < q
              · exact HT.out k h
              · obtain rfl : k = q := by omega
                exact hR.out.symm, B4.out⟩
            case measure => simp [intOf]; omega
          · obtain ⟨q1, q2⟩ := FINX.out R q hqn HT.out hR.out hr
            have nr : (R != 0) = true := by simpa using hr
            clear FINX ENDX hr TT hR
            subst q1 q2
            go_wp2_with fail
            go_ret2
            exact ⟨rfl, B4.out⟩
        · obtain rfl : q = j := by omega
          obtain ⟨q1, q2⟩ := ENDX.out HT.out
          clear FINX ENDX
          subst q1 q2
          go_wp2
          go_ret2
          exact ⟨rfl, HQ.out⟩
end Go.Proofs.YtinmkgpmoclcoaaDoor.Tre
/-
  Two entries compared; a struct in a row loaded whole.
-/
namespace Go.Proofs.YtinmkgpmoclcoaaDoor.Flt
open Go.RowKit Go.Proofs.YtinmkgpmoclcoaaDoor.Fit

def entFs : Array Field := #[{ name := "Kind", type := 3, offset := 0, embedded := false, tag := "", pkgPath := "", byteOffset := 0 }, { name := "Path", type := 9, offset := 1, embedded := false, tag := "", pkgPath := "", byteOffset := 8 },
  { name := "Mode", type := 3, offset := 2, embedded := false, tag := "", pkgPath := "", byteOffset := 24 }, { name := "Target", type := 9, offset := 3, embedded := false, tag := "", pkgPath := "", byteOffset := 32 },
  { name := "Size", type := 2, offset := 4, embedded := false, tag := "", pkgPath := "", byteOffset := 48 }]
theorem run_eqE (k : Int) (p : ByteArray) (m : Int) (t : ByteArray) (s : Int) (k' : Int) (p' : ByteArray) (m' : Int) (t' : ByteArray) (s' : Int) (w : World) :
    (Op.equalIn 10000 27 (.agg (enV k p m t s).toArray) (.agg (enV k' p' m' t' s').toArray)).run Tryd.prog w = .ok (decide (k = k' ∧ p = p' ∧ m = m' ∧ t = t' ∧ s = s')) w := by
  have ht := Tryd.underlying27
  have hf : Tryd.prog.fieldsOf 27 = entFs := by unfold Program.fieldsOf; rw [ht]; rfl
  rw [run_equalIn_struct w 9999 27 _ _ (by rw [hf]; exact ht) (by kernel_rfl), hf]
  have u9 := Tryd.underlying9
  have u3 := Tryd.underlying3
  have u2 := Tryd.underlying2
  by_cases h1 : k = k'
  · subst h1
    by_cases h2 : p = p'
    · subst h2
      by_cases h3 : m = m'
      · subst h3
        by_cases h4 : t = t'
        · subst h4
          by_cases h5 : s = s'
          · subst h5; simp [entFs, Op.eqFields, part, isAgg, u9, u3, u2, go_sem]
          · simp [entFs, Op.eqFields, part, isAgg, u9, u3, u2, h5, go_sem]
        · have := bytes_neq h4
          simp [entFs, Op.eqFields, part, isAgg, u9, u3, u2, h4, this, go_sem]
      · simp [entFs, Op.eqFields, part, isAgg, u9, u3, u2, h3, go_sem]
    · have := bytes_neq h2
      simp [entFs, Op.eqFields, part, isAgg, u9, u3, u2, h2, this, go_sem]
  · simp [entFs, Op.eqFields, part, isAgg, u9, u3, u2, h1, go_sem]
theorem run_load_six {P : Program} {w : World} {T : TypeId} {n : Nat} (hT : ObjT P T n) (b off : Nat) (vs : List Value) (hl : vs.length = n) (hr : ∀ j u, vs[j]? = some u → w.cell? ⟨b, off + j, none⟩ = some u) :
    (loadVar T ⟨b, off, none⟩).run P w = .ok (.agg vs.toArray) w := by
  obtain ⟨⟨fs, h1⟩, hs⟩ := hT
  have hll := run_loadCells_list (P := P) w ⟨b, off, none⟩ vs (fun j u hj => by rw [add_plain']; exact hr j u hj)
  rw [hl] at hll
  cases hq : P.info? T with
  | none => simp [hq] at hs
  | some i =>
    have hs : i.size = n := by simpa [hq] using hs
    have hagg : (isAgg T).run P w = .ok true w := by
      unfold isAgg
      rw [Sem.run_bind, run_underlying h1 w]
      simp
    simp [loadVar, Sem.run_bind, hagg, sizeOf, typeInfo, hq, hs, hll]
end Go.Proofs.YtinmkgpmoclcoaaDoor.Flt
/-
  Layer 13: the reference's Same; the statements' own TooLarge.
-/
namespace Go.Proofs.YtinmkgpmoclcoaaDoor.Tre
open Go.RowKit Go.Proofs.YtinmkgpmoclcoaaDoor.Fit Pnm

/-- a bool that says p -/
def RetIff (p : Prop) (w : World) (e : Ending) (w' : World) : Prop := ∃ B : Bool, e = .returned (.bool B) ∧ (B = true ↔ p) ∧ Below w.heap.size w w'
theorem RetIff.yes {p : Prop} {w w' : World} (h : p) (hb : Below w.heap.size w w') : RetIff p w (.returned (.bool true)) w' := ⟨true, rfl, ⟨fun _ => h, fun _ => rfl⟩, hb⟩
theorem RetIff.no {p : Prop} {w w' : World} (h : ¬ p) (hb : Below w.heap.size w w') : RetIff p w (.returned (.bool false)) w' := ⟨false, rfl, ⟨fun h => absurd h (by decide), fun c => absurd c h⟩, hb⟩
theorem nd_ext {l m : List Nd} (hl : l.length = m.length) (h : ∀ k, k < l.length → nd l k = nd m k) : l = m := by
  apply List.ext_getElem hl
  intro i h1 h2
  have := h i h1
  rwa [nd_get h1, nd_get h2] at this

set_option maxRecDepth 100000 in
set_option maxHeartbeats 8000000 in
theorem rsame_any (a : Option Addr) (n cap : Nat) (ys : List NdS) (a' : Option Addr) (n' cap' : Nat) (zs : List NdS) (w : World) (ha : ArgNds w a n cap ys) (hb : ArgNds w a' n' cap' zs) :
    Calls Tryd.prog 17 #[.slice a n cap, .slice a' n' cap'] w (RetIff (nds ys = nds zs) w) := by
  have HA := Lib.hid ha
  have HB := Lib.hid hb
  have NZ := Lib.hid zNd
  have NO := Lib.hid ndT
  have hn : n ≤ maxLen := Nat.le_trans ha.c ha.m
  have LA : Hid ((nds ys).length = n) := by show _ = _; rw [nds_len]; exact ha.n
  have LB : Hid ((nds zs).length = n') := by show _ = _; rw [nds_len]; exact hb.n
  unfold maxLen at hn
  clear ha hb
  by_cases hnn : n = n'
  · subst hnn
    have ni : ((n : Int) != (n : Int)) = false := by simp
    go_enter Tryd.func17, Tryd.ntmps17
    go_wp2_with fail
    go_loopw [5] (fun i wr => ∃ j : Nat, i = .int .i64 j ∧ j ≤ n ∧ (∀ k, k < j → nd (nds ys) k = nd (nds zs) k) ∧ Below w.heap.size w wr) (fun i _ => n - (intOf i).toNat)
    case atStart => exact ⟨0, rfl, Nat.zero_le _, fun k hk => absurd hk (Nat.not_lt_zero k), Below.refl _ _⟩
    case round =>
      obtain ⟨j, rfl, hj, hp, hW⟩ := hrel
      have HP := Lib.hid hp; have HW := Lib.hid hW
      clear hp hW
      by_cases hjn : j < n
      · obtain ⟨b, off, y, rfl, hb, hy, hf, hat⟩ := HA.out.get j hjn
        obtain ⟨b', off', z, rfl, hb', hz, hf', hat'⟩ := HB.out.get j hjn
        obtain ⟨c0, c1, c2, c3, c4, c5⟩ := (hat.below HW.out hb).c hy
        have ZC := Lib.hid fun (q : World) (hq : Below w.heap.size w q) => (hat'.below hq hb').c hz
        have YB := Lib.hid hf.d.bytes
        have ZB := Lib.hid hf'.d.bytes
        have EY : Hid (nd (nds ys) j = y.n ∧ nd (nds zs) j = z.n) := ⟨nd_y hy, nd_y hz⟩
        have NE : Hid (y.n ≠ z.n → ¬ nds ys = nds zs) := fun h e => h (by rw [← EY.out.1, ← EY.out.2, e])
        clear hat hat' hf hf' hy hz hb hb'
        obtain ⟨⟨k, p, m, t, d, c⟩, x, xc⟩ := y
        obtain ⟨⟨k', p', m', t', d', c'⟩, x', xc'⟩ := z
        obtain ⟨L, hL⟩ := named d.length
        obtain ⟨L', hL'⟩ := named d'.length
        have c4' : wr.cell? ⟨b, off + j * 6 + 4, none⟩ = some (.slice x L xc) := by rw [hL.out]; exact c4
        have cv : Hid (∀ q : World, Below w.heap.size w q → (convert 28 9 (.slice x L xc)).run Tryd.prog q = .ok (.string (strOfNums d)) q) := fun q hq => run_str_in Tryd.underlying28 Tryd.underlying5 Tryd.underlying9 (YB.out.below hq) L xc (by rw [hL.out])
        have cv' : Hid (∀ q : World, Below w.heap.size w q → (convert 28 9 (.slice x' L' xc')).run Tryd.prog q = .ok (.string (strOfNums d')) q) := fun q hq => run_str_in Tryd.underlying28 Tryd.underlying5 Tryd.underlying9 (ZB.out.below hq) L' xc' (by rw [hL'.out])
        have ZC' : Hid (∀ q : World, Below w.heap.size w q → q.cell? ⟨b', off' + j * 6, none⟩ = some (.int .i64 k') ∧ q.cell? ⟨b', off' + j * 6 + 1, none⟩ = some (.string p') ∧ q.cell? ⟨b', off' + j * 6 + 2, none⟩ = some (.int .i64 m') ∧ q.cell? ⟨b', off' + j * 6 + 3, none⟩ = some (.string t') ∧ q.cell? ⟨b', off' + j * 6 + 4, none⟩ = some (.slice x' L' xc') ∧ q.cell? ⟨b', off' + j * 6 + 5, none⟩ = some (.int .i64 c')) := by rw [hL'.out]; exact ZC.out
        have DB : Hid (d = d' ↔ strOfNums d = strOfNums d') := by
          show _ ↔ _
          constructor
          · rintro rfl; rfl
          · intro h
            have h1 := numsOf_strOfNums (show Bytes d from YB.out.bytes)
            rw [h, numsOf_strOfNums (show Bytes d' from ZB.out.bytes)] at h1
            exact h1.symm
        obtain ⟨S, hS⟩ := named (strOfNums d)
        obtain ⟨S', hS'⟩ := named (strOfNums d')
        rw [← hS.out, ← hS'.out] at DB
        rw [← hS.out] at cv
        rw [← hS'.out] at cv'
        clear c4 hL hL' ZC YB ZB hS hS'
        have j1 : (j : Int) < n := by omega
        by_cases hk : k = k'
        · subst hk
          have nk : (k != k) = false := by simp
          by_cases hp : p = p'
          · subst hp
            have np : (p.toList == p.toList) = true := beq_self_eq_true _
            by_cases hm : m = m'
            · subst hm
              have nm : (m != m) = false := by simp
              by_cases ht : t = t'
              · subst ht
                have nt : (t.toList == t.toList) = true := beq_self_eq_true _
                by_cases hc : c = c'
                · subst hc
                  have nc : (c != c) = false := by simp
                  by_cases hS : S = S'
                  · have hd := DB.out.mpr hS
                    subst hS
                    have HD := Lib.hid hd
                    have nS : (S.toList == S.toList) = true := beq_self_eq_true _
                    clear hd DB NE
                    go_wp2_with (first | (have q3 := G3.out; clear q3; refine wpList_alloc_obj rfl 55 rfl (ndL 0 emp 0 emp none 0 0 0) NZ.out ?_; intro w4 g4 b4; have G4 := Lib.hid g4; have K4 := Lib.hid (G3.out.below b4 G3.out.lt); have L4 := Lib.hid G3.out.lt; have B4 := Lib.hid (belT B3.out b4); clear g4 b4 z0 z1 z2 z3 z4 z5) | (refine wpList_alloc_obj rfl 55 rfl (ndL 0 emp 0 emp none 0 0 0) NZ.out ?_; intro w2 g2 b2; have G2 := Lib.hid g2; have B2 := Lib.hid (belT HW.out b2); clear g2 b2 c0 c1 c2 c3 c4' c5) | (have q4 := G4.out; clear q4; refine wpList_store_obj rfl 55 _ _ rfl w3.heap.size rfl (ndL k p m t x' L' xc' c) (ndL 0 emp 0 emp none 0 0 0) rfl 55 G4.out NO.out.2 rfl (nd_one _ _ _ _ _ _ _ _) ?_; intro w5 g5 t5; have K5 := Lib.hid (K4.out.turned t5 (Nat.ne_of_lt L4.out)); have B5 := Lib.hid (B4.out.trans (t5.below B3.out.size)); have c0 := K5.out.get 0 rfl; have c1 := K5.out.get 1 rfl; have c2 := K5.out.get 2 rfl; have c3 := K5.out.get 3 rfl; have c4 := K5.out.get 4 rfl; have c5 := K5.out.get 5 rfl; have z0 := g5.get 0 rfl; have z1 := g5.get 1 rfl; have z2 := g5.get 2 rfl; have z3 := g5.get 3 rfl; have z4 := g5.get 4 rfl; have z5 := g5.get 5 rfl; have v1 := cv.out w5 B5.out; have v2 := cv'.out w5 B5.out; clear g5 t5; go_wp2_with fail) | (refine wpList_store_obj rfl 55 _ _ rfl wr.heap.size rfl (ndL k p m t x L xc c) (ndL 0 emp 0 emp none 0 0 0) rfl 55 G2.out NO.out.2 rfl (nd_one _ _ _ _ _ _ _ _) ?_; intro w3 g3 t3; have G3 := Lib.hid g3; have B3 := Lib.hid (B2.out.trans (t3.below HW.out.size)); obtain ⟨z0, z1, z2, z3, z4, z5⟩ := ZC'.out w3 B3.out; clear g3 t3))
                    go_round
                    case rel => exact ⟨j + 1, by go_num, by omega, fun k'' hk => by
                      by_cases h : k'' < j
                      · exact HP.out k'' h
                      · obtain rfl : k'' = j := by omega
                        rw [EY.out.1, EY.out.2, HD.out], B5.out⟩
                    case measure => simp [intOf]; omega
                  · have nS := bytes_neq hS
                    have e := NE.out fun h => hS (DB.out.mp (congrArg Nd.d h))
                    have HE := Lib.hid e
                    clear e hS DB NE
                    go_wp2_with (first | (have q3 := G3.out; clear q3; refine wpList_alloc_obj rfl 55 rfl (ndL 0 emp 0 emp none 0 0 0) NZ.out ?_; intro w4 g4 b4; have G4 := Lib.hid g4; have K4 := Lib.hid (G3.out.below b4 G3.out.lt); have L4 := Lib.hid G3.out.lt; have B4 := Lib.hid (belT B3.out b4); clear g4 b4 z0 z1 z2 z3 z4 z5) | (refine wpList_alloc_obj rfl 55 rfl (ndL 0 emp 0 emp none 0 0 0) NZ.out ?_; intro w2 g2 b2; have G2 := Lib.hid g2; have B2 := Lib.hid (belT HW.out b2); clear g2 b2 c0 c1 c2 c3 c4' c5) | (have q4 := G4.out; clear q4; refine wpList_store_obj rfl 55 _ _ rfl w3.heap.size rfl (ndL k p m t x' L' xc' c) (ndL 0 emp 0 emp none 0 0 0) rfl 55 G4.out NO.out.2 rfl (nd_one _ _ _ _ _ _ _ _) ?_; intro w5 g5 t5; have K5 := Lib.hid (K4.out.turned t5 (Nat.ne_of_lt L4.out)); have B5 := Lib.hid (B4.out.trans (t5.below B3.out.size)); have c0 := K5.out.get 0 rfl; have c1 := K5.out.get 1 rfl; have c2 := K5.out.get 2 rfl; have c3 := K5.out.get 3 rfl; have c4 := K5.out.get 4 rfl; have c5 := K5.out.get 5 rfl; have z0 := g5.get 0 rfl; have z1 := g5.get 1 rfl; have z2 := g5.get 2 rfl; have z3 := g5.get 3 rfl; have z4 := g5.get 4 rfl; have z5 := g5.get 5 rfl; have v1 := cv.out w5 B5.out; have v2 := cv'.out w5 B5.out; clear g5 t5; go_wp2_with fail) | (refine wpList_store_obj rfl 55 _ _ rfl wr.heap.size rfl (ndL k p m t x L xc c) (ndL 0 emp 0 emp none 0 0 0) rfl 55 G2.out NO.out.2 rfl (nd_one _ _ _ _ _ _ _ _) ?_; intro w3 g3 t3; have G3 := Lib.hid g3; have B3 := Lib.hid (B2.out.trans (t3.below HW.out.size)); obtain ⟨z0, z1, z2, z3, z4, z5⟩ := ZC'.out w3 B3.out; clear g3 t3))
                    go_ret
                    exact .no HE.out B5.out
                · have nc : (c != c') = true := by simpa using hc
                  have e := NE.out fun h => hc (congrArg Nd.c h)
                  have HE := Lib.hid e
                  clear e hc DB NE
                  go_wp2_with (first | (have q3 := G3.out; clear q3; refine wpList_alloc_obj rfl 55 rfl (ndL 0 emp 0 emp none 0 0 0) NZ.out ?_; intro w4 g4 b4; have G4 := Lib.hid g4; have K4 := Lib.hid (G3.out.below b4 G3.out.lt); have L4 := Lib.hid G3.out.lt; have B4 := Lib.hid (belT B3.out b4); clear g4 b4 z0 z1 z2 z3 z4 z5) | (refine wpList_alloc_obj rfl 55 rfl (ndL 0 emp 0 emp none 0 0 0) NZ.out ?_; intro w2 g2 b2; have G2 := Lib.hid g2; have B2 := Lib.hid (belT HW.out b2); clear g2 b2 c0 c1 c2 c3 c4' c5) | (have q4 := G4.out; clear q4; refine wpList_store_obj rfl 55 _ _ rfl w3.heap.size rfl (ndL k p m t x' L' xc' c') (ndL 0 emp 0 emp none 0 0 0) rfl 55 G4.out NO.out.2 rfl (nd_one _ _ _ _ _ _ _ _) ?_; intro w5 g5 t5; have K5 := Lib.hid (K4.out.turned t5 (Nat.ne_of_lt L4.out)); have B5 := Lib.hid (B4.out.trans (t5.below B3.out.size)); have c0 := K5.out.get 0 rfl; have c1 := K5.out.get 1 rfl; have c2 := K5.out.get 2 rfl; have c3 := K5.out.get 3 rfl; have c4 := K5.out.get 4 rfl; have c5 := K5.out.get 5 rfl; have z0 := g5.get 0 rfl; have z1 := g5.get 1 rfl; have z2 := g5.get 2 rfl; have z3 := g5.get 3 rfl; have z4 := g5.get 4 rfl; have z5 := g5.get 5 rfl; have v1 := cv.out w5 B5.out; have v2 := cv'.out w5 B5.out; clear g5 t5; go_wp2_with fail) | (refine wpList_store_obj rfl 55 _ _ rfl wr.heap.size rfl (ndL k p m t x L xc c) (ndL 0 emp 0 emp none 0 0 0) rfl 55 G2.out NO.out.2 rfl (nd_one _ _ _ _ _ _ _ _) ?_; intro w3 g3 t3; have G3 := Lib.hid g3; have B3 := Lib.hid (B2.out.trans (t3.below HW.out.size)); obtain ⟨z0, z1, z2, z3, z4, z5⟩ := ZC'.out w3 B3.out; clear g3 t3))
                  go_ret
                  exact .no HE.out B5.out
              · have nt := bytes_neq ht
                have e := NE.out fun h => ht (congrArg Nd.t h)
                have HE := Lib.hid e
                clear e ht DB NE
                go_wp2_with (first | (have q3 := G3.out; clear q3; refine wpList_alloc_obj rfl 55 rfl (ndL 0 emp 0 emp none 0 0 0) NZ.out ?_; intro w4 g4 b4; have G4 := Lib.hid g4; have K4 := Lib.hid (G3.out.below b4 G3.out.lt); have L4 := Lib.hid G3.out.lt; have B4 := Lib.hid (belT B3.out b4); clear g4 b4 z0 z1 z2 z3 z4 z5) | (refine wpList_alloc_obj rfl 55 rfl (ndL 0 emp 0 emp none 0 0 0) NZ.out ?_; intro w2 g2 b2; have G2 := Lib.hid g2; have B2 := Lib.hid (belT HW.out b2); clear g2 b2 c0 c1 c2 c3 c4' c5) | (have q4 := G4.out; clear q4; refine wpList_store_obj rfl 55 _ _ rfl w3.heap.size rfl (ndL k p m t' x' L' xc' c') (ndL 0 emp 0 emp none 0 0 0) rfl 55 G4.out NO.out.2 rfl (nd_one _ _ _ _ _ _ _ _) ?_; intro w5 g5 t5; have K5 := Lib.hid (K4.out.turned t5 (Nat.ne_of_lt L4.out)); have B5 := Lib.hid (B4.out.trans (t5.below B3.out.size)); have c0 := K5.out.get 0 rfl; have c1 := K5.out.get 1 rfl; have c2 := K5.out.get 2 rfl; have c3 := K5.out.get 3 rfl; have c4 := K5.out.get 4 rfl; have c5 := K5.out.get 5 rfl; have z0 := g5.get 0 rfl; have z1 := g5.get 1 rfl; have z2 := g5.get 2 rfl; have z3 := g5.get 3 rfl; have z4 := g5.get 4 rfl; have z5 := g5.get 5 rfl; have v1 := cv.out w5 B5.out; have v2 := cv'.out w5 B5.out; clear g5 t5; go_wp2_with fail) | (refine wpList_store_obj rfl 55 _ _ rfl wr.heap.size rfl (ndL k p m t x L xc c) (ndL 0 emp 0 emp none 0 0 0) rfl 55 G2.out NO.out.2 rfl (nd_one _ _ _ _ _ _ _ _) ?_; intro w3 g3 t3; have G3 := Lib.hid g3; have B3 := Lib.hid (B2.out.trans (t3.below HW.out.size)); obtain ⟨z0, z1, z2, z3, z4, z5⟩ := ZC'.out w3 B3.out; clear g3 t3))
                go_ret
                exact .no HE.out B5.out
            · have nm : (m != m') = true := by simpa using hm
              have e := NE.out fun h => hm (congrArg Nd.m h)
              have HE := Lib.hid e
              clear e hm DB NE
              go_wp2_with (first | (have q3 := G3.out; clear q3; refine wpList_alloc_obj rfl 55 rfl (ndL 0 emp 0 emp none 0 0 0) NZ.out ?_; intro w4 g4 b4; have G4 := Lib.hid g4; have K4 := Lib.hid (G3.out.below b4 G3.out.lt); have L4 := Lib.hid G3.out.lt; have B4 := Lib.hid (belT B3.out b4); clear g4 b4 z0 z1 z2 z3 z4 z5) | (refine wpList_alloc_obj rfl 55 rfl (ndL 0 emp 0 emp none 0 0 0) NZ.out ?_; intro w2 g2 b2; have G2 := Lib.hid g2; have B2 := Lib.hid (belT HW.out b2); clear g2 b2 c0 c1 c2 c3 c4' c5) | (have q4 := G4.out; clear q4; refine wpList_store_obj rfl 55 _ _ rfl w3.heap.size rfl (ndL k p m' t' x' L' xc' c') (ndL 0 emp 0 emp none 0 0 0) rfl 55 G4.out NO.out.2 rfl (nd_one _ _ _ _ _ _ _ _) ?_; intro w5 g5 t5; have K5 := Lib.hid (K4.out.turned t5 (Nat.ne_of_lt L4.out)); have B5 := Lib.hid (B4.out.trans (t5.below B3.out.size)); have c0 := K5.out.get 0 rfl; have c1 := K5.out.get 1 rfl; have c2 := K5.out.get 2 rfl; have c3 := K5.out.get 3 rfl; have c4 := K5.out.get 4 rfl; have c5 := K5.out.get 5 rfl; have z0 := g5.get 0 rfl; have z1 := g5.get 1 rfl; have z2 := g5.get 2 rfl; have z3 := g5.get 3 rfl; have z4 := g5.get 4 rfl; have z5 := g5.get 5 rfl; have v1 := cv.out w5 B5.out; have v2 := cv'.out w5 B5.out; clear g5 t5; go_wp2_with fail) | (refine wpList_store_obj rfl 55 _ _ rfl wr.heap.size rfl (ndL k p m t x L xc c) (ndL 0 emp 0 emp none 0 0 0) rfl 55 G2.out NO.out.2 rfl (nd_one _ _ _ _ _ _ _ _) ?_; intro w3 g3 t3; have G3 := Lib.hid g3; have B3 := Lib.hid (B2.out.trans (t3.below HW.out.size)); obtain ⟨z0, z1, z2, z3, z4, z5⟩ := ZC'.out w3 B3.out; clear g3 t3))
              go_ret
              exact .no HE.out B5.out
          · have np := bytes_neq hp
            have e := NE.out fun h => hp (congrArg Nd.p h)
            have HE := Lib.hid e
            clear e hp DB NE
            go_wp2_with (first | (have q3 := G3.out; clear q3; refine wpList_alloc_obj rfl 55 rfl (ndL 0 emp 0 emp none 0 0 0) NZ.out ?_; intro w4 g4 b4; have G4 := Lib.hid g4; have K4 := Lib.hid (G3.out.below b4 G3.out.lt); have L4 := Lib.hid G3.out.lt; have B4 := Lib.hid (belT B3.out b4); clear g4 b4 z0 z1 z2 z3 z4 z5) | (refine wpList_alloc_obj rfl 55 rfl (ndL 0 emp 0 emp none 0 0 0) NZ.out ?_; intro w2 g2 b2; have G2 := Lib.hid g2; have B2 := Lib.hid (belT HW.out b2); clear g2 b2 c0 c1 c2 c3 c4' c5) | (have q4 := G4.out; clear q4; refine wpList_store_obj rfl 55 _ _ rfl w3.heap.size rfl (ndL k p' m' t' x' L' xc' c') (ndL 0 emp 0 emp none 0 0 0) rfl 55 G4.out NO.out.2 rfl (nd_one _ _ _ _ _ _ _ _) ?_; intro w5 g5 t5; have K5 := Lib.hid (K4.out.turned t5 (Nat.ne_of_lt L4.out)); have B5 := Lib.hid (B4.out.trans (t5.below B3.out.size)); have c0 := K5.out.get 0 rfl; have c1 := K5.out.get 1 rfl; have c2 := K5.out.get 2 rfl; have c3 := K5.out.get 3 rfl; have c4 := K5.out.get 4 rfl; have c5 := K5.out.get 5 rfl; have z0 := g5.get 0 rfl; have z1 := g5.get 1 rfl; have z2 := g5.get 2 rfl; have z3 := g5.get 3 rfl; have z4 := g5.get 4 rfl; have z5 := g5.get 5 rfl; have v1 := cv.out w5 B5.out; have v2 := cv'.out w5 B5.out; clear g5 t5; go_wp2_with fail) | (refine wpList_store_obj rfl 55 _ _ rfl wr.heap.size rfl (ndL k p m t x L xc c) (ndL 0 emp 0 emp none 0 0 0) rfl 55 G2.out NO.out.2 rfl (nd_one _ _ _ _ _ _ _ _) ?_; intro w3 g3 t3; have G3 := Lib.hid g3; have B3 := Lib.hid (B2.out.trans (t3.below HW.out.size)); obtain ⟨z0, z1, z2, z3, z4, z5⟩ := ZC'.out w3 B3.out; clear g3 t3))
            go_ret
            exact .no HE.out B5.out
        · have nk : (k != k') = true := by simpa using hk
          have e := NE.out fun h => hk (congrArg Nd.k h)
          have HE := Lib.hid e
          clear e hk DB NE
          go_wp2_with (first | (have q3 := G3.out; clear q3; refine wpList_alloc_obj rfl 55 rfl (ndL 0 emp 0 emp none 0 0 0) NZ.out ?_; intro w4 g4 b4; have G4 := Lib.hid g4; have K4 := Lib.hid (G3.out.below b4 G3.out.lt); have L4 := Lib.hid G3.out.lt; have B4 := Lib.hid (belT B3.out b4); clear g4 b4 z0 z1 z2 z3 z4 z5) | (refine wpList_alloc_obj rfl 55 rfl (ndL 0 emp 0 emp none 0 0 0) NZ.out ?_; intro w2 g2 b2; have G2 := Lib.hid g2; have B2 := Lib.hid (belT HW.out b2); clear g2 b2 c0 c1 c2 c3 c4' c5) | (have q4 := G4.out; clear q4; refine wpList_store_obj rfl 55 _ _ rfl w3.heap.size rfl (ndL k' p' m' t' x' L' xc' c') (ndL 0 emp 0 emp none 0 0 0) rfl 55 G4.out NO.out.2 rfl (nd_one _ _ _ _ _ _ _ _) ?_; intro w5 g5 t5; have K5 := Lib.hid (K4.out.turned t5 (Nat.ne_of_lt L4.out)); have B5 := Lib.hid (B4.out.trans (t5.below B3.out.size)); have c0 := K5.out.get 0 rfl; have c1 := K5.out.get 1 rfl; have c2 := K5.out.get 2 rfl; have c3 := K5.out.get 3 rfl; have c4 := K5.out.get 4 rfl; have c5 := K5.out.get 5 rfl; have z0 := g5.get 0 rfl; have z1 := g5.get 1 rfl; have z2 := g5.get 2 rfl; have z3 := g5.get 3 rfl; have z4 := g5.get 4 rfl; have z5 := g5.get 5 rfl; have v1 := cv.out w5 B5.out; have v2 := cv'.out w5 B5.out; clear g5 t5; go_wp2_with fail) | (refine wpList_store_obj rfl 55 _ _ rfl wr.heap.size rfl (ndL k p m t x L xc c) (ndL 0 emp 0 emp none 0 0 0) rfl 55 G2.out NO.out.2 rfl (nd_one _ _ _ _ _ _ _ _) ?_; intro w3 g3 t3; have G3 := Lib.hid g3; have B3 := Lib.hid (B2.out.trans (t3.below HW.out.size)); obtain ⟨z0, z1, z2, z3, z4, z5⟩ := ZC'.out w3 B3.out; clear g3 t3))
          go_ret
          exact .no HE.out B5.out
      · obtain rfl : j = n := by omega
        go_wp2
        go_ret
        exact .yes (nd_ext (by rw [LA.out, LB.out]) fun k hk => HP.out k (by rw [← LA.out]; exact hk)) HW.out
  · have ni : ((n : Int) != (n' : Int)) = true := by simp; omega
    go_enter Tryd.func17, Tryd.ntmps17
    go_wp2_with fail
    go_ret
    exact .no (fun h => hnn (by rw [← LA.out, ← LB.out, h])) (Below.refl _ _)

end Go.Proofs.YtinmkgpmoclcoaaDoor.Tre
/-
  Layer 14: the reference's Same.
-/
namespace Go.Proofs.YtinmkgpmoclcoaaDoor.Flt
open Go.RowKit Go.Proofs.YtinmkgpmoclcoaaDoor.Fit Pnm Tre

def mm0 : Mb := ⟨⟨0, emp, 0, emp, 0⟩, []⟩
def mm (l : List Mb) (i : Nat) : Mb := (l[i]?).getD mm0
theorem mm_y {ys : List MbS} {i : Nat} {y : MbS} (h : ys[i]? = some y) : mm (mms ys) i = y.n := by unfold mm; rw [mms_at h]; rfl
theorem mm_ext {l m : List Mb} (hl : l.length = m.length) (h : ∀ k, k < l.length → mm l k = mm m k) : l = m := by
  refine List.ext_getElem hl fun i h1 h2 => ?_
  have := h i h1
  unfold mm at this
  rwa [List.getElem?_eq_getElem h1, List.getElem?_eq_getElem h2] at this

set_option maxRecDepth 100000 in
set_option maxHeartbeats 8000000 in
theorem rsameM_any (a : Option Addr) (n cap : Nat) (ys : List MbS) (a' : Option Addr) (n' cap' : Nat) (zs : List MbS) (w : World) (ha : ArgMbs w a n cap ys) (hb : ArgMbs w a' n' cap' zs) :
    Calls Tryd.prog 23 #[.slice a n cap, .slice a' n' cap'] w (RetIff (mms ys = mms zs) w) := by
  have HA := Lib.hid ha
  have HB := Lib.hid hb
  have hn : n ≤ maxLen := Nat.le_trans ha.c ha.m
  have LA : Hid ((mms ys).length = n) := by show _ = _; rw [mms_len]; exact ha.n
  have LB : Hid ((mms zs).length = n') := by show _ = _; rw [mms_len]; exact hb.n
  have hg : Tryd.prog.eqGuardType Tryd.prog.depth 27 = false := by kernel_rfl
  have na := ha.c; have nb := hb.c
  unfold maxLen at hn
  clear ha hb
  by_cases hnn : n = n'
  · subst hnn
    have ni : ((n : Int) != (n : Int)) = false := by simp
    have nac : (n : Int) ≤ cap := by omega
    have nbc : (n : Int) ≤ cap' := by omega
    go_enter Tryd.func23, Tryd.ntmps23
    go_wp2_with fail
    go_loopw [5] (fun i wr => ∃ j : Nat, i = .int .i64 j ∧ j ≤ n ∧ (∀ k, k < j → mm (mms ys) k = mm (mms zs) k) ∧ Below w.heap.size w wr) (fun i _ => n - (intOf i).toNat)
    case atStart => exact ⟨0, rfl, Nat.zero_le _, fun k hk => absurd hk (Nat.not_lt_zero k), Below.refl _ _⟩
    case round =>
      obtain ⟨j, rfl, hj, hp, hW⟩ := hrel
      have HP := Lib.hid hp; have HW := Lib.hid hW
      clear hp hW
      by_cases hjn : j < n
      · obtain ⟨b, off, y, rfl, hb, hy, hf, hat⟩ := HA.out.get j hjn
        obtain ⟨b', off', z, rfl, hb', hz, hf', hat'⟩ := HB.out.get j hjn
        have YB := Lib.hid hf.d.bytes
        have ZB := Lib.hid hf'.d.bytes
        have EY : Hid (mm (mms ys) j = y.n ∧ mm (mms zs) j = z.n) := ⟨mm_y hy, mm_y hz⟩
        have NE : Hid (y.n ≠ z.n → ¬ mms ys = mms zs) := fun h e => h (by rw [← EY.out.1, ← EY.out.2, e])
        have YC := Lib.hid fun (q : Of fun w' => Below w.heap.size w w') => (hat.below q.h hb).c hy
        have ZC := Lib.hid fun (q : Of fun w' => Below w.heap.size w w') => (hat'.below q.h hb').c hz
        clear hat hat' hf hf' hy hz hb hb'
        obtain ⟨⟨⟨k, p, m, t, s⟩, d⟩, x, xc⟩ := y
        obtain ⟨⟨⟨k', p', m', t', s'⟩, d'⟩, x', xc'⟩ := z
        obtain ⟨L, hL⟩ := named d.length
        obtain ⟨L', hL'⟩ := named d'.length
        have y5 : ∀ q : Of (fun w' => Below w.heap.size w w'), q.w.cell? ⟨b, off + j * 6 + 5, none⟩ = some (.slice x L xc) := fun q => by rw [hL.out]; exact (YC.out q).2.2.2.2.2
        have z5 : ∀ q : Of (fun w' => Below w.heap.size w w'), q.w.cell? ⟨b', off' + j * 6 + 5, none⟩ = some (.slice x' L' xc') := fun q => by rw [hL'.out]; exact (ZC.out q).2.2.2.2.2
        have y0 : ∀ q : Of (fun w' => Below w.heap.size w w'), q.w.cell? ⟨b, off + j * 6, none⟩ = some (.int .i64 k) := fun q => (YC.out q).1
        have y1 : ∀ q : Of (fun w' => Below w.heap.size w w'), q.w.cell? ⟨b, off + j * 6 + 1, none⟩ = some (.string p) := fun q => (YC.out q).2.1
        have y2 : ∀ q : Of (fun w' => Below w.heap.size w w'), q.w.cell? ⟨b, off + j * 6 + 2, none⟩ = some (.int .i64 m) := fun q => (YC.out q).2.2.1
        have y3 : ∀ q : Of (fun w' => Below w.heap.size w w'), q.w.cell? ⟨b, off + j * 6 + 3, none⟩ = some (.string t) := fun q => (YC.out q).2.2.2.1
        have y4 : ∀ q : Of (fun w' => Below w.heap.size w w'), q.w.cell? ⟨b, off + j * 6 + 4, none⟩ = some (.int .i64 s) := fun q => (YC.out q).2.2.2.2.1
        have z0 : ∀ q : Of (fun w' => Below w.heap.size w w'), q.w.cell? ⟨b', off' + j * 6, none⟩ = some (.int .i64 k') := fun q => (ZC.out q).1
        have z1 : ∀ q : Of (fun w' => Below w.heap.size w w'), q.w.cell? ⟨b', off' + j * 6 + 1, none⟩ = some (.string p') := fun q => (ZC.out q).2.1
        have z2 : ∀ q : Of (fun w' => Below w.heap.size w w'), q.w.cell? ⟨b', off' + j * 6 + 2, none⟩ = some (.int .i64 m') := fun q => (ZC.out q).2.2.1
        have z3 : ∀ q : Of (fun w' => Below w.heap.size w w'), q.w.cell? ⟨b', off' + j * 6 + 3, none⟩ = some (.string t') := fun q => (ZC.out q).2.2.2.1
        have z4 : ∀ q : Of (fun w' => Below w.heap.size w w'), q.w.cell? ⟨b', off' + j * 6 + 4, none⟩ = some (.int .i64 s') := fun q => (ZC.out q).2.2.2.2.1
        have cv : ∀ q : Of (fun w' => Below w.heap.size w w'), (convert 28 9 (.slice x L xc)).run Tryd.prog q.w = .ok (.string (strOfNums d)) q.w := fun q => run_str_in Tryd.underlying28 Tryd.underlying5 Tryd.underlying9 (YB.out.below q.h) L xc (by rw [hL.out])
        have cv' : ∀ q : Of (fun w' => Below w.heap.size w w'), (convert 28 9 (.slice x' L' xc')).run Tryd.prog q.w = .ok (.string (strOfNums d')) q.w := fun q => run_str_in Tryd.underlying28 Tryd.underlying5 Tryd.underlying9 (ZB.out.below q.h) L' xc' (by rw [hL'.out])
        have DB : Hid (d = d' ↔ strOfNums d = strOfNums d') := by
          show _ ↔ _
          constructor
          · rintro rfl; rfl
          · intro h
            have h1 := numsOf_strOfNums (show Bytes d from YB.out.bytes)
            rw [h, numsOf_strOfNums (show Bytes d' from ZB.out.bytes)] at h1
            exact h1.symm
        obtain ⟨S, hS⟩ := named (strOfNums d)
        obtain ⟨S', hS'⟩ := named (strOfNums d')
        rw [← hS.out, ← hS'.out] at DB
        rw [← hS.out] at cv
        rw [← hS'.out] at cv'
        clear hL hL' YC ZC YB ZB hS hS'
        have j1 : (j : Int) < n := by omega
        have JN := Lib.hid hjn
        by_cases he : k = k' ∧ p = p' ∧ m = m' ∧ t = t' ∧ s = s'
        · obtain ⟨rfl, rfl, rfl, rfl, rfl⟩ := he
          have hq1 : ∀ w, (Op.equalIn 10000 27 (.agg (enV k p m t s).toArray) (.agg (enV k p m t s).toArray)).run Tryd.prog w = .ok true w := fun w => by rw [run_eqE]; simp
          by_cases hs : S = S'
          · have hs' := strs_eq hs
            have HD := Lib.hid (DB.out.mpr hs)
            clear hs DB NE
            go_wp2_with fail
            refine wp_region_class (S := fun w' => Below w.heap.size w w') (by kernel_rfl) (by kernel_rfl) HW.out.drew ?_
            intro hne'
            repeat (go_big_quiet_step (fail))
            refine wpQuiet_nil ?_
            rintro wq ⟨q, rfl⟩
            go_wp2
            go_round
            case rel => exact ⟨j + 1, by go_num, by have := JN.out; omega, fun i hi => by
              by_cases h' : i < j
              · exact HP.out i h'
              · obtain rfl : i = j := by omega
                rw [EY.out.1, EY.out.2, HD.out], q.h⟩
            case measure => simp [intOf]; have := JN.out; omega
          · have hs' := strs_no hs
            have HE := Lib.hid (NE.out fun h => hs (DB.out.mp (congrArg Mb.d h)))
            clear hs DB NE
            go_wp2_with fail
            refine wp_region_class (S := fun w' => Below w.heap.size w w') (by kernel_rfl) (by kernel_rfl) HW.out.drew ?_
            intro hne'
            repeat (go_big_quiet_step (fail))
            refine wpQuiet_nil ?_
            rintro wq ⟨q, rfl⟩
            go_wp2
            go_ret
            exact .no HE.out q.h
        · have HE := Lib.hid (NE.out fun h => he (by injection h with h _; injection h with h1 h2 h3 h4 h5; exact ⟨h1, h2, h3, h4, h5⟩))
          have hq1 : ∀ w, (Op.equalIn 10000 27 (.agg (enV k p m t s).toArray) (.agg (enV k' p' m' t' s').toArray)).run Tryd.prog w = .ok false w := fun w => by rw [run_eqE, decide_eq_false he]
          clear he DB NE cv cv'
          go_wp2_with fail
          refine wp_region_class (S := fun w' => Below w.heap.size w w') (by kernel_rfl) (by kernel_rfl) HW.out.drew ?_
          intro hne'
          repeat (go_big_quiet_step (fail))
          refine wpQuiet_nil ?_
          rintro wq ⟨q, rfl⟩
          go_wp2
          go_ret
          exact .no HE.out q.h
      · obtain rfl : j = n := by omega
        go_wp2
        go_ret
        exact .yes (mm_ext (by rw [LA.out, LB.out]) fun k hk => HP.out k (by rw [← LA.out]; exact hk)) HW.out
  · have ni : ((n : Int) != (n' : Int)) = true := by simp; omega
    go_enter Tryd.func23, Tryd.ntmps23
    go_wp2_with fail
    go_ret
    exact .no (fun h => hnn (by rw [← LA.out, ← LB.out, h])) (Below.refl _ _)
end Go.Proofs.YtinmkgpmoclcoaaDoor.Flt
/-
  Layer 13: the statements' own TooLarge.
-/
namespace Go.Proofs.YtinmkgpmoclcoaaDoor.Tre
open Go.RowKit Go.Proofs.YtinmkgpmoclcoaaDoor.Fit Pnm

set_option maxRecDepth 100000 in
set_option maxHeartbeats 4000000 in
theorem large_any (a : Option Addr) (n cap : Nat) (ys : List NdS) (w : World) (ha : ArgNds w a n cap ys) :
    Calls Tryd.prog 19 #[.slice a n cap] w fun e w' => ∃ R : Int, e = .returned (.int .i64 R) ∧ (R = 1 ∨ (R = 0 ∧ n ≤ 40 ∧ ∀ y ∈ ys, y.n.p.size ≤ 70000 ∧ y.n.t.size ≤ 70000 ∧ y.n.d.length ≤ 70000)) ∧ Below w.heap.size w w' := by
  have HA := Lib.hid ha
  have NZ := Lib.hid zNd
  have NO := Lib.hid ndT
  have HN : Hid (ys.length = n) := ha.n
  have hn : n ≤ maxLen := Nat.le_trans ha.c ha.m
  unfold maxLen at hn
  clear ha
  by_cases h40 : (40 : Int) < n
  · go_enter Tryd.func19, Tryd.ntmps19
    go_wp2_with fail
    go_ret
    exact ⟨1, rfl, .inl rfl, Below.refl _ _⟩
  · have N40 : Hid (n ≤ 40) := by show _ ≤ _; omega
    go_enter Tryd.func19, Tryd.ntmps19
    go_wp2_with fail
    go_loopw [3, 11] (fun s i wr => ∃ j S : Nat, s = .int .i64 S ∧ i = .int .i64 j ∧ j ≤ n ∧ S ≤ 70000 * j ∧ (∀ k, k < j → (nd (nds ys) k).p.size ≤ 70000 ∧ (nd (nds ys) k).t.size ≤ 70000 ∧ (nd (nds ys) k).d.length ≤ 70000) ∧ Below w.heap.size w wr) (fun _ i _ => n - (intOf i).toNat)
    case atStart => exact ⟨0, 0, rfl, rfl, Nat.zero_le _, Nat.zero_le _, fun k hk => absurd hk (Nat.not_lt_zero k), Below.refl _ _⟩
    case round =>
      obtain ⟨j, S, rfl, rfl, hj, hs, hp, hB⟩ := hrel
      have HP := Lib.hid hp; have HB := Lib.hid hB
      have S1 : (S : Int) ≤ 2800000 := by have := N40.out; omega
      have HS := Lib.hid hs
      clear hp hB hs
      by_cases hjn : j < n
      · obtain ⟨b, off, y, rfl, hb, hy, hf, hat⟩ := HA.out.get j hjn
        obtain ⟨c0, c1, c2, c3, c4, c5⟩ := (hat.below HB.out hb).c hy
        have EY : Hid (nd (nds ys) j = y.n) := nd_y hy
        have hp := hf.p; have ht := hf.t; have hd := hf.l
        clear hat hf hy hb
        obtain ⟨⟨k, p, m, t, d, c⟩, x, xc⟩ := y
        dsimp only at hp ht hd
        obtain ⟨L, hL⟩ := named d.length
        have c4' : wr.cell? ⟨b, off + j * 6 + 4, none⟩ = some (.slice x L xc) := by rw [hL.out]; exact c4
        rw [← hL.out] at hd
        clear c4
        have j1 : (j : Int) < n := by omega
        have hpi : (p.size : Int) ≤ 140737488355328 := by omega
        have hti : (t.size : Int) ≤ 140737488355328 := by omega
        have hdi : (L : Int) ≤ 140737488355328 := by omega
        by_cases h7 : (70000 : Int) < (p.size : Int) + t.size + L
        · clear HP EY hL hp ht hd
          go_wp2_with (first | (refine wpList_alloc_obj rfl 55 rfl (ndL 0 emp 0 emp none 0 0 0) NZ.out ?_; intro w2 g2 b2; have G2 := Lib.hid g2; have B2 := Lib.hid (belT HB.out b2); clear g2 b2 c0 c1 c2 c3 c4' c5) | (refine wpList_store_obj rfl 55 _ _ rfl wr.heap.size rfl (ndL k p m t x L xc c) (ndL 0 emp 0 emp none 0 0 0) rfl 55 G2.out NO.out.2 rfl (nd_one _ _ _ _ _ _ _ _) ?_; intro w3 g3 t3; have B3 := Lib.hid (B2.out.trans (t3.below HB.out.size)); have c1 := g3.get 1 rfl; have c3 := g3.get 3 rfl; have c4 := g3.get 4 rfl; clear g3 t3))
          go_ret
          exact ⟨1, rfl, .inl rfl, B3.out⟩
        · have H7 : Hid (p.size + t.size + L ≤ 70000) := by show _ ≤ _; omega
          have h7' : (p.size : Int) + t.size + L ≤ 70000 := by omega
          clear hp ht hd
          go_wp2_with (first | (refine wpList_alloc_obj rfl 55 rfl (ndL 0 emp 0 emp none 0 0 0) NZ.out ?_; intro w2 g2 b2; have G2 := Lib.hid g2; have B2 := Lib.hid (belT HB.out b2); clear g2 b2 c0 c1 c2 c3 c4' c5) | (refine wpList_store_obj rfl 55 _ _ rfl wr.heap.size rfl (ndL k p m t x L xc c) (ndL 0 emp 0 emp none 0 0 0) rfl 55 G2.out NO.out.2 rfl (nd_one _ _ _ _ _ _ _ _) ?_; intro w3 g3 t3; have B3 := Lib.hid (B2.out.trans (t3.below HB.out.size)); have c1 := g3.get 1 rfl; have c3 := g3.get 3 rfl; have c4 := g3.get 4 rfl; clear g3 t3))
          go_round
          case rel => exact ⟨j + 1, S + (p.size + t.size + L), by go_num, by go_num, by omega, by have := H7.out; have := HS.out; omega, fun k'' hk => by
            by_cases h : k'' < j
            · exact HP.out k'' h
            · obtain rfl : k'' = j := by omega
              rw [EY.out]
              have := H7.out
              have := hL.out
              dsimp only
              omega, B3.out⟩
          case measure => simp [intOf]; omega
      · obtain rfl : j = n := by omega
        by_cases h1 : (100000 : Int) < S
        · go_wp2_with fail
          go_ret
          exact ⟨1, rfl, .inl rfl, HB.out⟩
        · go_wp2_with fail
          go_ret
          exact ⟨0, rfl, .inr ⟨rfl, N40.out, fun y hy => by
            obtain ⟨i, hi, rfl⟩ := List.getElem_of_mem hy
            have := HP.out i (by rw [← HN.out]; exact hi)
            rwa [nd_y (List.getElem?_eq_getElem hi)] at this⟩, HB.out⟩
end Go.Proofs.YtinmkgpmoclcoaaDoor.Tre
