/-
  Layer 19: slices.Values, AppendSeq and Collect at strings.
-/
import Derived.Test.YthcbiohmghaobaaDoorPz07
import Derived.Test.YthcbiohmghaobaaDoorPz04
import Derived.Test.YthcbiohmghaobaaDoorPz05
namespace Go.Proofs.YthcbiohmghaobaaDoor.Vfs
open Go.RowKit Go.Shelf Go.Proofs.YthcbiohmghaobaaDoor.Pnm Flt
attribute [local go_sem] Oper.semAt_some

set_option maxRecDepth 100000 in
set_option maxHeartbeats 2000000 in
theorem vals1_in (F : Fence) (n : Nat) (hf : F.fn 68) (hro : F.round = none) (hn : 1 ≤ n) (l Bs n₀ len cap : Nat) (a : Option Addr) (zs : List ByteArray) (ha : ∀ x, a = some x → x.block < n₀) (J Jx : List ByteArray → World → Prop)
    (hY : ∀ pre x W, J pre W → pre.length < zs.length → YieldAt F (n - 1) Tryd.prog l #[.string x] W fun e W' =>
      (e = .returned (.bool true) ∧ J (pre ++ [x]) W' ∧ Below n₀ W W') ∨ (e = .returned (.bool false) ∧ Jx (pre ++ [x]) W'))
    (W : World) (hBs : W.cell? ⟨Bs, 0, none⟩ = some (.slice a len cap)) (hz : SsIn W a zs) (hzn : zs.length = len) (hzc : len ≤ cap) (hlen : len ≤ 8796093022208) (h0 : J [] W) :
    CallsIn F n Tryd.prog 68 #[.func (.yield l) #[] #[], .pointer (some ⟨Bs, 0, none⟩)] W fun e W' => (∃ v, e = .returned v) ∧
      ((∃ ys, ys = zs ∧ J ys W') ∨ (∃ pre, pre <+: zs ∧ Jx pre W')) := by
  have HZ := Lib.hid hz
  have hl2 : (len : Int) ≤ 8796093022208 := by omega
  have hc2 : (len : Int) ≤ cap := by omega
  have ZN := Lib.hid hzn
  clear hz hlen hzc hzn
  refine callsIn_of_wp Tryd.func68 rfl hf ?_ hro
  simp only [Tryd.ntmps68, List.size_toArray, List.length_cons, List.length_nil, Nat.reduceAdd, Nat.reduceSub, Array.replicate_succ, Array.replicate_zero, List.push_toArray, List.append_toArray, List.nil_append, List.cons_append]
  gi_wp2
  gi_loopw [7] (fun i wr => ∃ k : Nat, k ≤ len ∧ i = .int .i64 k ∧ J (zs.take k) wr ∧ Below n₀ W wr) (fun i _ => len - (intOf i).toNat)
  case atStart => exact ⟨0, Nat.zero_le _, rfl, h0, Below.refl _ _⟩
  case round =>
    obtain ⟨k, hk, rfl, hJs, hnx⟩ := hrel
    by_cases hlt : k < len
    · obtain ⟨b, off, rfl, hb, hat⟩ : ∃ b off, a = some ⟨b, off, none⟩ ∧ b < W.heap.size ∧ SsAt W b off zs := by
        rcases HZ.out with h | h
        · have := ZN.out; rw [h] at this; simp at this; omega
        · exact h
      obtain ⟨y, hy⟩ : ∃ y, zs[k]? = some y := ⟨_, List.getElem?_eq_getElem (by rw [ZN.out]; exact hlt)⟩
      have c0 := hat k y hy
      have hcx : wr.cell? ⟨b, off + k, none⟩ = some (.string y) := (hnx.cell (p := ⟨b, off + k, none⟩) (show b < n₀ from ha ⟨b, off, none⟩ rfl)).trans c0
      have hkz : k < zs.length := by rw [ZN.out]; exact hlt
      have TK : Hid (zs.take k ++ [y] = zs.take (k + 1)) := by show _ = _; rw [List.take_add_one, hy]; rfl
      have k1 : (k : Int) < len := by omega
      have k2 : (k : Int) < cap := by omega
      obtain ⟨fn, tmps, assign, body, hyy, hR⟩ := hY _ y wr hJs (by rw [List.length_take]; omega)
      clear hat c0 hb hy
      gi_wp2
      refine hR.mono ?_
      rintro e W3 (⟨rfl, hJ3, hk3⟩ | ⟨rfl, hJx3⟩)
      · rw [TK.out] at hJ3
        gi_wp2
        go_roundw
        case rel => exact ⟨k + 1, by omega, by simp, hJ3, hnx.trans hk3⟩
        case measure => simp [intOf]; omega
      · gi_wp2
        refine bodyPost_ret (results_none rfl _ _ _) rfl ?_
        exact ⟨⟨_, rfl⟩, .inr ⟨_, by rw [TK.out]; exact List.take_prefix _ _, hJx3⟩⟩
    · obtain rfl : k = len := by omega
      rw [List.take_of_length_le (by rw [ZN.out]; exact Nat.le_refl _)] at hJs
      gi_wp2
      go_end0
      exact ⟨⟨_, rfl⟩, .inl ⟨_, rfl, hJs⟩⟩

theorem vals_in (F : Fence) (n : Nat) (hf : F.fn 46) (hro : F.round = none) (a : Option Addr) (len cap : Nat) (w : World) :
    CallsIn F n Tryd.prog 46 #[.slice a len cap] w fun e w' => e = .returned (.func (.func 68) #[] #[.pointer (some ⟨w.heap.size, 0, none⟩)]) ∧ w' = w.alloc (.cells #[.slice a len cap] 44) := by
  refine callsIn_of_wp Tryd.func46 rfl hf ?_ hro
  simp only [Tryd.ntmps46, List.size_toArray, List.length_cons, List.length_nil, Nat.reduceAdd, Nat.reduceSub, Array.replicate_succ, Array.replicate_zero, List.push_toArray, List.append_toArray, List.nil_append, List.cons_append]
  gi_wp2
  go_ret
  exact ⟨rfl, rfl⟩

theorem vals_stops (F : Fence) (n : Nat) (hf : F.fn 68) (hro : F.round = none) (hn : 1 ≤ n) (Bs n₀ len cap : Nat) (a : Option Addr) (zs : List ByteArray) (w : World) (hB : Bs < w.heap.size)
    (hc : w.cell? ⟨Bs, 0, none⟩ = some (.slice a len cap)) (hz : SsIn w a zs) (hzn : zs.length = len) (hzc : len ≤ cap) (hlen : len ≤ 8796093022208) (ha : ∀ x, a = some x → x.block < n₀) :
    SeqStopsK F n Tryd.prog 68 #[.pointer (some ⟨Bs, 0, none⟩)] (fun x : ByteArray => #[Value.string x]) (Below n₀) (fun ys => ys = zs) (fun pre => pre <+: zs) zs.length w := fun l J Jx W hW _ _ hY h0 =>
  vals1_in F n hf hro hn l Bs n₀ len cap a zs ha J Jx hY W ((hW.cell (p := ⟨Bs, 0, none⟩) hB).trans hc) (hz.below hW) hzn hzc hlen h0
/-- a row stays where what is no row of cells turns -/
theorem own_grow {A B : World} {row : Option Nat} {base n size : Nat} {e : TypeId} {v : Value} {xs : List Value} (h : A.ownsRow base e size v n xs) (hg : A.grownBy B row) (hr : ∀ r, row = some r → ∃ o : Obj, A.heap[r]? = some o ∧ o.isCells = false) : B.ownsRow base e size v n xs := by
  refine ⟨h.1, h.2.imp id ?_⟩
  rintro ⟨g, cap, cur, h1, h2, h3, h4⟩
  exact ⟨g, cap, cur, h1, h2, (grownBy_keeps_cells hg hr h3 rfl).trans h3, h4⟩
set_option maxRecDepth 100000 in
set_option maxHeartbeats 4000000 in
theorem app_in (w : World) (Bs len cap : Nat) (a : Option Addr) (zs : List ByteArray) (hB : Bs < w.heap.size) (hc : w.cell? ⟨Bs, 0, none⟩ = some (.slice a len cap)) (hz : SsIn w a zs) (hzn : zs.length = len) (hzc : len ≤ cap) (hlen : len ≤ 8796093022208) (ha : ∀ x, a = some x → x.block < w.heap.size) :
    CallsIn Fence.wide 4 Tryd.prog 93 #[.slice none 0 0, .func (.func 68) #[] #[.pointer (some ⟨Bs, 0, none⟩)]] w fun e w' => ∃ v, e = .returned v ∧ w'.ownsRow w.heap.size 9 1 v len (ssC zs) ∧ Below w.heap.size w w' := by
  obtain ⟨i0, hi, hz0, hz1, hz2⟩ : ElemS Tryd.prog 9 := elemS (by kernel_rfl)
  have LN : Hid (zs.length ≤ 8796093022208) := by show _ ≤ _; rw [hzn]; exact hlen
  have ZN : Hid (zs.length = len) := hzn
  refine callsIn_of_wp_marks Tryd.func93 rfl trivial ?_ rfl
  simp only [Tryd.ntmps93, List.size_toArray, List.length_cons, List.length_nil, Nat.reduceAdd, Nat.reduceSub, Array.replicate_succ, Array.replicate_zero, List.push_toArray, List.append_toArray, List.nil_append, List.cons_append]
  gi_wp2
  have bN := Boxed.new w 44 (.slice none 0 0)
  have hB0 : Below w.heap.size w (w.alloc (.cells #[.slice none 0 0] 44)) := (Below.refl _ w).alloc (Nat.le_refl _) _
  have hO0 : ObjAt (w.alloc (.cells #[.slice none 0 0] 44)) w.heap.size 44 [.slice none 0 0] := heap_alloc_new w _
  refine wpIn_rangeFunc_ownG rfl (by decide) (gf := 68) (lb := #[.pointer (some ⟨Bs, 0, none⟩)]) rfl trivial (enters_of Tryd.func68 (by kernel_rfl) rfl)
    (vals_stops Fence.wide 3 trivial rfl (by decide) Bs w.heap.size len cap a zs _ (by rw [World.size_alloc]; omega) ((hB0.cell (p := ⟨Bs, 0, none⟩) hB).trans hc) (hz.below hB0) hzn hzc hlen ha) belowK_t (belowK_b (by rw [World.size_alloc]; omega)) (Below.refl _ _) (fun _ => rfl)
    (fun pre W => (∃ v, ObjAt W w.heap.size 44 [v] ∧ W.ownsRow w.heap.size 9 1 v pre.length (ssC pre)) ∧ Below w.heap.size w W)
    (fun _ _ _ => False)
    (OwnFrom.and (Own.from (fun s A B row ⟨v, ho, hr⟩ hg hr' => ⟨v, (grownBy_keeps_cells hg hr' ho rfl).trans ho, own_grow hr hg hr'⟩) _) (ownFrom_below (Nat.le_refl _) (by rw [World.size_alloc]; omega)))
    (fun c => Own.from (fun s A B row hs _ _ => hs) _)
    ⟨⟨_, hO0, ⟨rfl, .inl ⟨rfl, rfl⟩⟩⟩, hB0⟩
    (fun x => { tmps := #[.slice none 0 0, .func (.func 68) #[] #[.pointer (some ⟨Bs, 0, none⟩)], .pointer (some ⟨w.heap.size, 0, none⟩), undef, .slice none 0 0, .string x, .func (.func 68) #[] #[.pointer (some ⟨Bs, 0, none⟩)], .string x, undef, undef, undef, undef, undef], defers := [] }) ?assign ?body ?done ?stop
  case assign =>
    intro l x W K hK
    gi_wp2
    exact hK
  case body =>
    rintro l pre x W ⟨⟨v, ho, hr⟩, hb⟩ hpl
    have HR := Lib.hid hr; have HO := Lib.hid ho; have HB := Lib.hid hb; have HP := Lib.hid hpl
    have hc0 := ho.get 0 rfl
    clear hr ho hb hpl
    gi_wp2_with (gi_at_builtin; refine wpListIn_append_own _ rfl _ _ 44 rfl w.heap.size 9 i0 (.string ⟨#[]⟩) 1 16 Tryd.underlying44 hi hz0 hz1 hz2 rfl (by decide) v pre.length (ssC pre) rfl (own_stay' HR.out ((Below.refl _ W).alloc (Nat.le_refl _) (.cells #[.string x] 9)) (Nat.le_refl _)) ⟨W.heap.size, 0, none⟩ 1 1 [.string x] rfl rfl (cell_one_new _ _ _) (by simp [Value.oneCell']) (by have := HP.out; have := LN.out; unfold maxLen; omega) (by have := HP.out; have := LN.out; omega) (by have := HB.out.size; simp; omega) ?_; intro v' w3 hown' hg3 _; have ho1 : ObjAt (W.alloc (.cells #[.string x] 9)) w.heap.size 44 [v] := HO.out.below ((Below.refl _ W).alloc (Nat.le_refl _) _) HO.out.lt; have hr1 : (W.alloc (.cells #[.string x] 9)).ownsRow w.heap.size 9 1 v pre.length (ssC pre) := own_stay' HR.out ((Below.refl _ W).alloc (Nat.le_refl _) (.cells #[.string x] 9)) (Nat.le_refl _); have ho3 : ObjAt w3 w.heap.size 44 [v] := (hg3.block _ ho1.lt fun e => not_obj hr1 ho1 (by decide) e.symm).trans ho1; have hc3 := ho3.get 0 rfl; have hf3 := ho3.frozen 0; have HO3 := Lib.hid ho3; have HW3 := Lib.hid hown'; have HG3 := Lib.hid hg3; have HO1 := Lib.hid ho1; have HR1 := Lib.hid hr1; clear ho1 hr1 ho3 hg3; obtain ⟨a3, c3, rfl, _, _⟩ := own_slice hown'; clear hown'; go_frame)
    have s0 := HB.out.size
    have k1 : KeepsOthers W w3 := (KeepsOthers.alloc W (.cells #[.string x] 9)).trans (KeepsOthers.of_grownBy HG3.out fun j o hj ho => by
      rcases HR1.out.2 with ⟨h', _⟩ | ⟨g', cap', cur, hv, _, hh, _⟩
      · rw [h'] at hj; cases hj
      · rw [hv] at hj
        obtain rfl : g' = j := by simpa [Value.ownBlock] using hj
        rw [hh] at ho
        obtain rfl := Option.some.inj ho
        rfl)
    have b3 : Below w.heap.size W w3 := ((Below.refl _ W).alloc s0 _).grown HG3.out (by rw [World.size_alloc]; omega) fun k hk => (own_under HR1.out k hk).1
    have o4 : ObjAt (w3.setCell ⟨w.heap.size, 0, none⟩ (.slice a3 (pre.length + 1) c3)) w.heap.size 44 [.slice a3 (pre.length + 1) c3] := HO3.out.set 0 _
    have r4 : (w3.setCell ⟨w.heap.size, 0, none⟩ (.slice a3 (pre.length + 1) c3)).ownsRow w.heap.size 9 1 (.slice a3 (pre.length + 1) c3) (pre ++ [x]).length (ssC (pre ++ [x])) := by
      rw [List.length_append, ssC, List.map_append]
      refine own_keepS HW3.out fun g hg _ => Below.heap_setCell _ _ _ _ fun e => not_obj HW3.out HO3.out (by decide) (by rw [hg]; exact congrArg some e)
    exact ⟨(k1.trans (KeepsOthers.setCell _ _ _)).from _, b3.setCell (p := ⟨w.heap.size, 0, none⟩) (Nat.le_refl _) _, ⟨_, o4, r4⟩, (HB.out.trans b3).setCell (p := ⟨w.heap.size, 0, none⟩) (Nat.le_refl _) _⟩
  case done =>
    rintro D ys W hD rfl ⟨⟨v, ho, hr⟩, hb⟩ hK
    have hc0 := ho.get 0 rfl
    obtain ⟨a', c', rfl, _, _⟩ := own_slice hr
    have HO := Lib.hid ho; have HR := Lib.hid hr; have HB := Lib.hid hb
    clear ho hr hb
    gi_wp2
    refine ⟨by simp, .inl ⟨_, _, rfl, run_takeDeferred hK, ?_⟩⟩
    exact ⟨_, results_tmp rfl _ _ _, _, rfl, by rw [← ZN.out]; exact own_grow HR.out (grownBy_putObj' _ D _) (fun r e => by cases e; exact ⟨_, hK, rfl⟩), HB.out.trans (belowK_b (w := w) (Nat.le_refl _) W D _ _ (by rw [World.size_alloc] at hD; omega) hK rfl rfl)⟩
  case stop =>
    rintro D c pre W hD hpre hF hK
    exact hF.elim
end Go.Proofs.YthcbiohmghaobaaDoor.Vfs
