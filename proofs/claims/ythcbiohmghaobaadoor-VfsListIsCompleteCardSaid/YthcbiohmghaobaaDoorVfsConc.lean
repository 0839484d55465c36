/-
  Layer 19: slices.Grow of nothing, slices.Concat of two rows of strings.
-/
import Derived.Test.YthcbiohmghaobaaDoorVfsSort
import Derived.Test.YthcbiohmghaobaaDoorPz01
namespace Go.Proofs.YthcbiohmghaobaaDoor.Vfs
open Go.RowKit Go.Shelf Go.Proofs.YthcbiohmghaobaaDoor.Pnm Flt Hep

theorem run_append_nilz {P : Program} (w : World) (t xT ty e : TypeId) (k : IntKind) (i : TypeInfo) (ht : P.underlying t = some (.slice e)) (hx : P.underlying xT = some (.int k))
    (hi : P.info? e = some i) (hz : i.zero = some (.string ⟨#[]⟩)) (hsz : i.size = 1) (hby : i.bytes = 16) (m : Nat) (h0 : 0 < m) (hm : m ≤ 8796093022208) (kx : IntKind) :
    ∃ c w', (Builtin.append_ #[t, xT] ty #[.slice none 0 0, .int kx m]).run P w = .ok (.slice (some ⟨w.heap.size, 0, none⟩) m c) w' ∧ m ≤ c ∧ w'.ownsRow w.heap.size e 1 (.slice (some ⟨w.heap.size, 0, none⟩) 0 c) 0 [] ∧ Below w.heap.size w w' := by
  have hwr : IntKind.i64.wrap (m : Int) = m := by rw [IntWalk.i64_left]; unfold wrap64; omega
  have hm0 : ¬ ((m : Int) < 0) := by omega
  have h63' : ¬ (9223372036854775807 < (m : Int)) := by omega
  have hge := grownCap_ge w m 0 e
  have hcm : grownCap w m 0 e ≤ maxLen := grownCap_le_maxLen w m 0 e (by unfold maxLen; omega)
  have hmp : ¬ m = 0 := by omega
  have h16 : ¬ ((281474976710656 : Int) < (m : Int) * 16) := by omega
  have h48' : ¬ (281474976710656 < Builtin.nextslicecap m 0 * 16) := by rw [nextslicecap_zero (by omega)]; omega
  refine ⟨grownCap w m 0 e, w.drew.alloc (.cells ((#[] : Array Value) ++ Builtin.zeroCells (Value.string ⟨#[]⟩).cells m ++ Builtin.zeroCells (Value.string ⟨#[]⟩).cells (grownCap w m 0 e - m)) e), ?_, hge, ?_, (Below.refl _ _).drew.alloc (Nat.le_refl _) _⟩
  · simp [Builtin.append_, run_underlying ht, run_underlying hx, sizeOf, typeInfo, zeroValue, hi, hsz, hby, hz, hwr, hmp, hm0, h48', h63', h16, Question.forced, run_firstCells_none, newRow, grownCap, asInt, asIntOf]
  · refine ⟨rfl, .inr ⟨w.heap.size, _, _, rfl, Nat.le_refl _, heap_alloc_new w.drew _, Nat.zero_le _, hcm, ?_, by simp⟩⟩
    simp [size_zeroCells, Value.cells]; omega
theorem wpList_append_nilz {P : Program} {w : World} {ops : Array Oper} {rest : List Oper} {o : Oper} {a : Act} {Q : Exit → Act → World → Prop} (hgd : o.guard = none) (s x : Operand) (t xT : TypeId)
    (ho : o.op = .call { callee := .builtin .append, args := #[s, x], argTypes := #[t, xT] }) (e : TypeId) (k : IntKind) (hT : P.underlying t = some (.slice e)) (hX : P.underlying xT = some (.int k)) (hI : ElemS P e)
    (hs : a.eval s = .slice none 0 0) (kx : IntKind) (m : Nat) (hx : a.eval x = .int kx m) (h0 : 0 < m) (hm : m ≤ 8796093022208)
    (K : ∀ c w', m ≤ c → w'.ownsRow w.heap.size e 1 (.slice (some ⟨w.heap.size, 0, none⟩) 0 c) 0 [] → Below w.heap.size w w' → wpList P ops Q rest (a.put o.dst (.slice (some ⟨w.heap.size, 0, none⟩) m c)) w') : wpList P ops Q (o :: rest) a w := by
  obtain ⟨i0, h1, h2, h3, h4⟩ := hI
  obtain ⟨c, w', hrun, q1, q2, q3⟩ := run_append_nilz (P := P) w t xT o.type e k i0 hT hX h1 h2 h3 h4 m h0 hm kx
  refine wpList_plain hgd fun K' hK => ?_
  unfold Oper.wp
  simp [execOp, ho, resolve, invoke, builtin, hs, hx, hrun, Result.andThen]
  exact hK _ _ (K _ _ q1 q2 q3)
set_option maxHeartbeats 1000000 in
theorem grow_nil (m : Nat) (hm : m ≤ 8796093022208) (w : World) : Calls Tryd.prog 94 #[.slice none 0 0, .int .i64 (m : Int)] w fun e w' => ∃ a c, e = .returned (.slice a 0 c) ∧ w'.ownsRow w.heap.size 9 1 (.slice a 0 c) 0 [] ∧ Below w.heap.size w w' := by
  have ES : Hid (ElemS Tryd.prog 9) := elemS (by kernel_rfl)
  have HM := Lib.hid hm
  have m0 : ¬ ((m : Int) < 0) := by omega
  have w0 : IntKind.i64.wrap (m : Int) = m := wrapP (by omega) (by omega)
  have w00 : IntKind.i64.wrap ((m : Int) - 0) = m := by rw [Int.sub_zero]; exact w0
  by_cases h0 : m = 0
  · subst h0
    clear m0 w0 w00
    go_enter Tryd.func94, Tryd.ntmps94
    go_wp2_with fail
    go_ret
    exact ⟨none, 0, rfl, ⟨rfl, .inl ⟨rfl, rfl⟩⟩, Below.refl _ _⟩
  · have h1 : (0 : Int) < m := by omega
    have H0 := Lib.hid (show 0 < m by omega)
    clear h0 hm
    go_enter Tryd.func94, Tryd.ntmps94
    go_wp2_with (at_builtin; refine wpList_append_nilz rfl _ _ 44 3 rfl 9 .i64 Tryd.underlying44 Tryd.underlying3 ES.out rfl .i64 m rfl H0.out HM.out ?_; intro c w1 hc o1 b1; have C1 : Hid (m ≤ c) := hc; have O1 := Lib.hid o1; have B1 := Lib.hid b1; clear hc o1 b1)
    go_ret
    exact ⟨_, _, rfl, O1.out, B1.out⟩
set_option maxRecDepth 100000 in
set_option maxHeartbeats 4000000 in
theorem conc_any {w : World} {g n1 c1 n2 c2 : Nat} {a1 a2 : Option Addr} {xs ys : List ByteArray} (hg : ObjAt w g 44 [.slice a1 n1 c1, .slice a2 n2 c2]) (h1 : SsIn w a1 xs) (l1 : xs.length = n1) (h2 : SsIn w a2 ys) (l2 : ys.length = n2) (hn : n1 + n2 ≤ 8796093022208) :
    Calls Tryd.prog 69 #[.slice (some ⟨g, 0, none⟩) 2 2] w fun e w' => ∃ a c, e = .returned (.slice a (n1 + n2) c) ∧ w'.ownsRow w.heap.size 9 1 (.slice a (n1 + n2) c) (n1 + n2) (ssC (xs ++ ys)) ∧ Below w.heap.size w w' := by
  have HG := Lib.hid hg; have H1 := Lib.hid h1; have H2 := Lib.hid h2; have L1 := Lib.hid l1; have L2 := Lib.hid l2; have HN := Lib.hid hn
  have ES : Hid (ElemS Tryd.prog 9) := elemS (by kernel_rfl)
  have b1 : (n1 : Int) ≤ 8796093022208 := by omega
  have b2 : (n2 : Int) ≤ 8796093022208 := by omega
  have b3 : (n1 : Int) + n2 ≤ 8796093022208 := by omega
  have p0 := hg.get 0 rfl; have p1 := hg.get 1 rfl
  clear hg h1 h2 l1 l2 hn
  go_enter Tryd.func69, Tryd.ntmps69
  go_wp2_with fail
  go_loopw [3, 11] (fun s i wr => w = wr ∧ ((i = .int .i64 0 ∧ s = .int .i64 0) ∨ (i = .int .i64 1 ∧ s = .int .i64 (n1 : Int)) ∨ (i = .int .i64 2 ∧ s = .int .i64 ((n1 : Int) + n2)))) (fun _ i _ => 2 - (intOf i).toNat)
  case atStart => exact ⟨rfl, .inl ⟨rfl, rfl⟩⟩
  case round =>
    obtain ⟨rfl, ⟨rfl, rfl⟩ | ⟨rfl, rfl⟩ | ⟨rfl, rfl⟩⟩ := hrel
    · have q0 : ¬ ((0 : Int) + n1 < 0) := by omega
      go_wp2_with fail
      go_roundw
      case rel => exact ⟨by simp, .inr (.inl ⟨by go_num, by go_num⟩)⟩
      case measure => simp [intOf]
    · have q0 : ¬ ((n1 : Int) + n2 < 0) := by omega
      go_wp2_with fail
      go_roundw
      case rel => exact ⟨by simp, .inr (.inr ⟨by go_num, by go_num⟩)⟩
      case measure => simp [intOf]
    · have GR := Lib.hid (grow_nil (n1 + n2) HN.out w)
      rw [Int.natCast_add] at GR
      go_wp2_with fail
      refine GR.out.mono ?_; rintro e w1 ⟨a, c, rfl, o1, b1'⟩
      have O1 := Lib.hid o1; have B1 := Lib.hid b1'
      have G1 := Lib.hid (HG.out.below b1' HG.out.lt)
      clear o1 b1' p0 p1 GR
      go_wp2_with fail
      go_loopw [6, 27] (fun r i wx => ∃ (j : Nat) (a' : Option Addr) (m c' : Nat) (zs : List ByteArray), i = .int .i64 j ∧ r = .slice a' m c' ∧ Hid (wx.ownsRow w.heap.size 9 1 (.slice a' m c') m (ssC zs)) ∧ Hid (Below w.heap.size w wx) ∧ ((j = 0 ∧ m = 0 ∧ zs = []) ∨ (j = 1 ∧ n1 = m ∧ xs = zs) ∨ (j = 2 ∧ n1 + n2 = m ∧ xs ++ ys = zs))) (fun _ i _ => 2 - (intOf i).toNat)
      case atStart => exact ⟨0, _, _, _, [], rfl, rfl, O1, B1, .inl ⟨rfl, rfl, rfl⟩⟩
      case round =>
        clear O1 B1 G1
        obtain ⟨j, a', m, c', zs, rfl, rfl, OW, BW, ⟨rfl, rfl, rfl⟩ | ⟨rfl, rfl, rfl⟩ | ⟨rfl, rfl, rfl⟩⟩ := hrel
        · have p0 := (HG.out.below BW.out HG.out.lt).get 0 rfl
          go_wp2_with (at_builtin; refine wpList_append_ss rfl _ _ 44 rfl 9 w.heap.size Tryd.underlying44 ES.out (.slice a' 0 c') 0 [] rfl OW.out a1 n1 c1 xs rfl (H1.out.below BW.out) L1.out (by have := HN.out; omega) BW.out.size ?_; intro v2 w2 o2 b2 _ _; obtain ⟨a3, c3, rfl, _, _⟩ := own_slice o2; have O2 := Lib.hid o2; have B2 := Lib.hid (BW.out.trans b2); clear o2 b2)
          go_roundw
          case rel => exact ⟨1, a3, n1, c3, xs, by go_num, rfl, by have := O2; rw [Nat.zero_add, List.nil_append] at this; exact this, B2, .inr (.inl ⟨rfl, rfl, rfl⟩)⟩
          case measure => simp [intOf]
        · have p0 := (HG.out.below BW.out HG.out.lt).get 1 rfl
          go_wp2_with (at_builtin; refine wpList_append_ss rfl _ _ 44 rfl 9 w.heap.size Tryd.underlying44 ES.out (.slice a' n1 c') n1 xs rfl OW.out a2 n2 c2 ys rfl (H2.out.below BW.out) L2.out (by have := HN.out; omega) BW.out.size ?_; intro v2 w2 o2 b2 _ _; obtain ⟨a3, c3, rfl, _, _⟩ := own_slice o2; have O2 := Lib.hid o2; have B2 := Lib.hid (BW.out.trans b2); clear o2 b2)
          go_roundw
          case rel => exact ⟨2, a3, (n1 + n2), c3, (xs ++ ys), by go_num, rfl, by exact O2, B2, .inr (.inr ⟨rfl, rfl, rfl⟩)⟩
          case measure => simp [intOf]
        · go_wp2_with fail
          go_ret
          exact ⟨_, _, rfl, OW.out, BW.out⟩
end Go.Proofs.YthcbiohmghaobaaDoor.Vfs
