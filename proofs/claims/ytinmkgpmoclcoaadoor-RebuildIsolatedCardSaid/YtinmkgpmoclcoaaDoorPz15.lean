/-
  Layer 13: slices.Clone of nodes; what a sort does with no nodes; the program's count (by class).
-/
import Derived.Test.YtinmkgpmoclcoaaDoorPz05
import Derived.Test.YtinmkgpmoclcoaaDoorPz13
import Derived.Test.YtinmkgpmoclcoaaDoorPz02
namespace Go.Proofs.YtinmkgpmoclcoaaDoor.Tre
open Go.RowKit Go.MapKept Go.Proofs.YtinmkgpmoclcoaaDoor.Fit

set_option maxRecDepth 100000 in
set_option maxHeartbeats 2000000 in
theorem nclone_any (a : Option Addr) (n cap : Nat) (ys : List NdS) (w : World) (hy : NdsIn w a ys) (hl : ys.length = n) (hn : n ≤ 1000000) :
    Calls Tryd.prog 50 #[.slice a n cap] w fun e w' => ∃ v, e = .returned v ∧ w'.ownsRow w.heap.size 55 6 v n (ndCells ys) ∧ Below w.heap.size w w' := by
  have HY := Lib.hid hy; have HL := Lib.hid hl; have HN := Lib.hid hn
  have I6 := Lib.hid IN6
  obtain ⟨i0, HI0⟩ := info_of (P := Tryd.prog) (e := 55) (z := .agg (ndL 0 emp 0 emp none 0 0 0).toArray) (s := 6) (b := 80) (by kernel_rfl)
  clear hy hl hn
  have he : ∀ w : World, (binOp .eql 32 (.slice none n cap) (.slice none 0 0)).run Tryd.prog w = .ok (.bool true) w := fun _ => rfl
  have he' : ∀ (x : Addr) (w : World), (binOp .eql 32 (.slice (some x) n cap) (.slice none 0 0)).run Tryd.prog w = .ok (.bool false) w := fun _ _ => rfl
  cases a with
  | none =>
    have h0 : ys = [] := by
      rcases HY.out with h | ⟨_, _, h, _⟩
      · exact h
      · cases h
    subst h0
    obtain rfl : n = 0 := HL.out.symm
    go_enter Tryd.func50, Tryd.ntmps50
    go_wp2
    go_ret
    exact ⟨_, rfl, ⟨rfl, .inl ⟨rfl, rfl⟩⟩, Below.refl _ _⟩
  | some x =>
    go_enter Tryd.func50, Tryd.ntmps50
    go_wp2_with (first | (refine wpList_lit_nd0 rfl 32 55 rfl Tryd.underlying32 _ I6.out ?_; intro w1 h1 b1; have O1 := Lib.hid h1; have B1 := Lib.hid b1; clear h1 b1) | (at_builtin; refine wpList_append_nds rfl _ _ 32 rfl 55 w.heap.size i0 _ Tryd.underlying32 HI0 rfl (.slice (some ⟨w.heap.size, 0, none⟩) 0 0) 0 [] rfl O1.out (some x) n cap ys rfl (HY.out.below B1.out) HL.out (by have := HN.out; omega) B1.out.size ?_; intro v2 w2 h2 b2 _ _; rw [Nat.zero_add, List.nil_append] at h2; have O2 := Lib.hid h2; have B2 := Lib.hid b2; clear h2 b2))
    go_ret
    exact ⟨_, rfl, O2.out, B1.out.trans B2.out⟩

set_option maxRecDepth 100000 in
set_option maxHeartbeats 2000000 in
/-- no nodes: nothing to sort -/
theorem sort_nil (a : Option Addr) (cap : Nat) (w : World) :
    Calls Tryd.prog 51 #[.slice a 0 cap, .func (.func 52) #[] #[]] w fun e w' => e = .returned (.tuple #[]) ∧ w' = w := by
  have I : Hid (Calls Tryd.prog 79 #[.slice a 0 cap, .int .i64 0, .int .i64 0, .func (.func 52) #[] #[]] w fun e w' => e = .returned (.tuple #[]) ∧ w' = w) := by
    show Calls _ _ _ _ _
    go_enter Tryd.func79, Tryd.ntmps79
    go_wp2_with fail
    go_loopw [8] (fun v wr => v = .int .i64 1 ∧ wr = w) (fun _ _ => 0)
    case atStart => exact ⟨rfl, rfl⟩
    case round =>
      obtain ⟨rfl, rfl⟩ := hrel
      go_wp2_with fail
      go_end0
      exact ⟨rfl, rfl⟩
  have S : Hid (Calls Tryd.prog 70 #[.slice a 0 cap, .int .i64 0, .func (.func 52) #[] #[]] w fun e w' => e = .returned (.tuple #[]) ∧ w' = w) := by
    show Calls _ _ _ _ _
    go_enter Tryd.func70, Tryd.ntmps70
    go_wp2_with fail
    go_loopw [7, 8] (fun v u wr => v = .int .i64 0 ∧ u = .int .i64 20 ∧ wr = w) (fun _ _ _ => 0)
    case atStart => exact ⟨rfl, rfl, rfl⟩
    case round =>
      obtain ⟨rfl, rfl, rfl⟩ := hrel
      go_wp2_with fail
      refine I.out.mono ?_; rintro e w1 ⟨rfl, rfl⟩
      go_wp2_with fail
      go_loopw [6] (fun v wr => v = .int .i64 20 ∧ wr = w1) (fun _ _ => 0)
      case atStart => exact ⟨rfl, rfl⟩
      case round =>
        obtain ⟨rfl, rfl⟩ := hrel
        go_wp2_with fail
        go_end0
        exact ⟨rfl, rfl⟩
  clear I
  go_enter Tryd.func51, Tryd.ntmps51
  go_wp2_with fail
  refine S.out.mono ?_; rintro e w1 ⟨rfl, rfl⟩
  go_wp2_with fail
  go_end0
  exact ⟨rfl, rfl⟩

/-- how many of the first n have the class -/
def cnt (ys : List NdS) (n : Nat) (c : Int) : Nat := ((cs (nds ys)).take n).count c
theorem cnt_step {ys : List NdS} {n : Nat} {y : NdS} (h : ys[n]? = some y) (c : Int) : cnt ys (n + 1) c = if y.n.c = c then cnt ys n c + 1 else cnt ys n c := by
  unfold cnt
  have hc : (cs (nds ys))[n]? = some y.n.c := by unfold cs; rw [List.getElem?_map, nds_at h]; rfl
  rw [List.take_add_one, hc]
  simp only [Option.toList_some, List.count_append, List.count_singleton]
  by_cases e : y.n.c = c
  · simp [e]
  · simp [e]
theorem cnt_le (ys : List NdS) (n : Nat) (c : Int) : cnt ys n c ≤ n := by
  unfold cnt
  exact Nat.le_trans List.count_le_length (by rw [List.length_take]; omega)
theorem cnt_all {ys : List NdS} {n : Nat} (h : ys.length = n) (c : Int) : cnt ys n c = (cs (nds ys)).count c := by
  unfold cnt
  rw [List.take_of_length_le (by unfold cs; rw [List.length_map, nds_len, h]; exact Nat.le_refl _)]
/-- a map of numbers: what it answers for a class -/
def Cnt (F : Value → Option Value) (ys : List NdS) (n : Nat) : Prop := ∀ c : Int, (F (.int .i64 c)).getD (.int .i64 0) = .int .i64 (cnt ys n c)
theorem Cnt.step {F : Value → Option Value} {ys : List NdS} {n : Nat} (h : Cnt F ys n) {y : NdS} (hy : ys[n]? = some y) : Cnt (upd F (.int .i64 y.n.c) (.int .i64 ((cnt ys n y.n.c : Int) + 1))) ys (n + 1) := fun c => by
  rw [cnt_step hy]
  by_cases e : y.n.c = c
  · subst e
    rw [upd_same, if_pos rfl]
    simp
  · rw [upd_ne (fun h => e (by injection h with _ h; exact h.symm)), if_neg e]
    exact h c

set_option maxRecDepth 100000 in
set_option maxHeartbeats 4000000 in
theorem count_any (a : Option Addr) (n cap : Nat) (ys : List NdS) (w : World) (ha : NdsIn w a ys) (hl : ys.length = n) (hn : n ≤ 1000000) :
    Calls Tryd.prog 53 #[.slice a n cap, .func (.func 54) #[] #[]] w fun e w' => ∃ g N F, e = .returned (.map (some g)) ∧ MapF w' g (.int .i64) N F ∧ Cnt F ys n ∧ w.heap.size ≤ g ∧ Below w.heap.size w w' := by
  have HA := Lib.hid ha; have HL := Lib.hid hl
  have NZ := Lib.hid zNd
  have NO := Lib.hid ndT
  have ZI : Hid ((Tryd.prog.info? 3).map (·.zero) = some (some (.int .i64 0))) := by show _ = _; kernel_rfl
  have UM := Lib.hid Tryd.underlying86
  have UK := Lib.hid Tryd.underlying3
  clear ha hl
  go_enter Tryd.func53, Tryd.ntmps53
  go_wp2_with (first | (refine wpList_make_mapF rfl _ rfl (.int .i64) ?_; intro w1 m1 b1; have M1 := Lib.hid m1; have B1 := Lib.hid b1; have S1 := Lib.hid m1.lt; clear m1 b1))
  go_loopw [11] (fun i wr => ∃ (j N : Nat) (F : Value → Option Value), i = .int .i64 j ∧ j ≤ n ∧ MapF wr w.heap.size (.int .i64) N F ∧ Cnt F ys j ∧ Below w.heap.size w wr) (fun i _ => n - (intOf i).toNat)
  case atStart => exact ⟨0, 0, _, rfl, Nat.zero_le _, M1.out, fun c => rfl, B1.out⟩
  case round =>
    obtain ⟨j, N, F, rfl, hj, hM, hF, hB⟩ := hrel
    have HM := Lib.hid hM; have HB := Lib.hid hB; have HF := Lib.hid hF
    have W0 : Hid (w.heap.size < wr.heap.size) := hM.lt
    clear hM hB hF
    by_cases hjn : j < n
    · have hlt : j < ys.length := by rw [HL.out]; exact hjn
      have hy : ys[j]? = some ys[j] := List.getElem?_eq_getElem hlt
      obtain ⟨y, ey⟩ : ∃ y, y = ys[j] := ⟨_, rfl⟩
      rw [← ey] at hy
      obtain ⟨b, off, rfl, hb, hat⟩ : ∃ b off, a = some ⟨b, off, none⟩ ∧ b < w.heap.size ∧ NdsAt w b off ys := by
        rcases HA.out with h0 | h
        · simp [h0] at hlt
        · exact h
      have hat' := hat.below HB.out hb
      obtain ⟨c0, c1, c2, c3, c4, c5⟩ := hat'.c hy
      have FS := Lib.hid (HF.out.step hy)
      have FQ := Lib.hid (HF.out y.n.c)
      have CL := cnt_le ys j y.n.c
      obtain ⟨M, hM⟩ := named (cnt ys j y.n.c)
      rw [← hM.out] at FS FQ CL
      clear hat hat' hy ey hlt hM
      obtain ⟨⟨k, p, m, t, d, c⟩, x, xc⟩ := y
      obtain ⟨L, hL⟩ := named d.length
      have c4' : wr.cell? ⟨b, off + j * 6 + 4, none⟩ = some (.slice x L xc) := by rw [hL.out]; exact c4
      have m1 : (M : Int) + 1 ≤ 1000001 := by omega
      have wm : IntKind.i64.wrap ((M : Int) + 1) = (M : Int) + 1 := wrapP (by omega) (by omega)
      clear c4 hL CL
      have j1 : (j : Int) < n := by omega
      have NB : Hid (b < w.heap.size) := hb
      clear hb hjn
      go_wp2_with (first | (refine wpList_alloc_obj rfl 55 rfl (ndL 0 emp 0 emp none 0 0 0) NZ.out ?_; intro w2 g2 b2; have G2 := Lib.hid g2; have M2 := Lib.hid (HM.out.below b2 HM.out.lt); have B2 := Lib.hid (HB.out.trans (b2.mono (Nat.le_of_lt W0.out))); have W2 := Lib.hid b2.size; clear g2 b2 c0 c1 c2 c3 c4' c5) | (refine wpList_store_obj rfl 55 _ _ rfl wr.heap.size rfl (ndL k p m t x L xc c) (ndL 0 emp 0 emp none 0 0 0) rfl 55 G2.out NO.out.2 rfl (nd_one _ _ _ _ _ _ _ _) ?_; intro w3 g3 t3; have G3 := Lib.hid g3; have M3 := Lib.hid (M2.out.block (t3.other (Nat.ne_of_lt W0.out))); have B3 := Lib.hid (B2.out.trans (t3.below (Nat.le_of_lt W0.out))); have W3 := Lib.hid (Nat.le_trans W2.out (Nat.le_of_eq t3.size.symm)); have c0 := g3.get 0 rfl; have c1 := g3.get 1 rfl; have c2 := g3.get 2 rfl; have c3 := g3.get 3 rfl; have c4 := g3.get 4 rfl; have c5 := g3.get 5 rfl; clear g3 t3))
      refine (classOf_any k p m t x L xc c w3).mono ?_; rintro e w4 ⟨rfl, b4⟩
      have M4 := Lib.hid (M3.out.below b4 M3.out.lt)
      have B4 := Lib.hid (belT B3.out b4)
      clear b4 c0 c1 c2 c3 c4 c5
      obtain ⟨q1, q2⟩ := run_lookF (P := Tryd.prog) (w := w4) 86 3 3 UM.out (.int .i64) UK.out (.int .i64 0) ZI.out w.heap.size N (.int .i64 c) (show IsKey (.int .i64) (.int .i64 c) from rfl) F M4.out
      rw [FQ.out] at q2
      clear q1
      go_wp2_with (first | (refine wpList_update_map rfl 86 _ _ _ rfl 3 3 UM.out (.int .i64) UK.out w.heap.size rfl (.int .i64 c) rfl (show IsKey (.int .i64) (.int .i64 c) from rfl) (.int .i64 ((M : Int) + 1)) (by first | rfl | (show Value.int .i64 (wrap64 _) = _; rw [show wrap64 ((M : Int) + 1) = (M : Int) + 1 from wm])) N _ M4.out ?_; intro w6 m6 t6; have M6 := Lib.hid m6; have B6 := Lib.hid (B4.out.trans (t6.below (Nat.le_refl _))); clear m6 t6))
      go_round
      case rel => exact ⟨j + 1, _, _, by go_num, by omega, M6.out, FS.out, B6.out⟩
      case measure => simp [intOf]; omega
    · obtain rfl : j = n := by omega
      go_wp2
      go_ret
      exact ⟨_, N, F, rfl, HM.out, HF.out, Nat.le_refl _, HB.out⟩
end Go.Proofs.YtinmkgpmoclcoaaDoor.Tre
/-
  bytes.Clone.
-/
namespace Go.Proofs.YtinmkgpmoclcoaaDoor
open Go.RowKit

set_option maxRecDepth 100000 in
set_option maxHeartbeats 1000000 in
theorem bclone (a : Option Addr) (n cap : Nat) (zs : List Int) (w : World) (hb : InK .u8 w a zs) (hl : zs.length = n) (hn : n ≤ 140737488355328) :
    Calls Tryd.prog 44 #[.slice a n cap] w fun e w' => ∃ v, e = .returned v ∧ w'.ownsRow w.heap.size 5 1 v n (zs.map (.int .u8)) ∧ Below w.heap.size w w' := by
  have HB := Lib.hid hb; clear hb
  have HL := Lib.hid hl; clear hl
  have HN := Lib.hid hn; clear hn
  have HE := Lib.hid u8T
  have he : (Tryd.prog.info? 5).map (·.size) = some 1 := by obtain ⟨i, h1, _, h2, _⟩ := u8T; simp [h1, h2]
  have HE1 := Lib.hid he; clear he
  have he : ∀ w : World, (binOp .eql 28 (.slice none n cap) (.slice none 0 0)).run Tryd.prog w = .ok (.bool true) w := fun _ => rfl
  have he' : ∀ (x : Addr) (w : World), (binOp .eql 28 (.slice (some x) n cap) (.slice none 0 0)).run Tryd.prog w = .ok (.bool false) w := fun _ _ => rfl
  cases a with
  | none =>
    have h0 : zs = [] := by
      rcases HB.out with h | ⟨_, _, h, _⟩
      · exact h
      · cases h
    subst h0
    obtain rfl : n = 0 := HL.out.symm
    go_enter Tryd.func44, Tryd.ntmps44
    go_wp2
    go_ret
    exact ⟨_, rfl, ⟨rfl, .inl ⟨rfl, rfl⟩⟩, Below.refl _ _⟩
  | some x =>
    go_enter Tryd.func44, Tryd.ntmps44
    go_wp2_with (first | (refine wpList_lit_k rfl 28 5 .u8 rfl Tryd.underlying28 HE1.out ?_; intro w1 h1 b1; have O1 := Lib.hid h1; have B1 := Lib.hid b1; clear h1 b1) | (at_builtin; refine wpList_append_k rfl _ _ 28 rfl w.heap.size 5 .u8 1 Tryd.underlying28 HE.out (.slice (some ⟨w.heap.size, 0, none⟩) 0 0) 0 [] rfl O1.out (some x) n cap zs rfl (HB.out.below B1.out) HL.out (by have := HN.out; unfold maxLen; omega) (by have := HN.out; omega) B1.out.size ?_; intro v2 w2 h2 b2; rw [Nat.zero_add, List.nil_append] at h2; have O2 := Lib.hid h2; have B2 := Lib.hid b2; clear h2 b2))
    go_ret
    exact ⟨_, rfl, O2.out, B1.out.trans B2.out⟩
end Go.Proofs.YtinmkgpmoclcoaaDoor
/-
  Layer 13: a row of nodes of the call's own, stored into; what stays; the numbers of classes as a map.
-/
namespace Go.Proofs.YtinmkgpmoclcoaaDoor.Tre
open Go.RowKit Go.MapKept Go.Proofs.YtinmkgpmoclcoaaDoor.Fit

theorem NdsAt.setAt {w : World} {g off : Nat} {us : List NdS} (h : NdsAt w g off us) {i : Nat} {y : NdS} (hi : us[i]? = some y) (z : NdS) (k : Nat) (v : Value) (hv : (ndV z)[k]? = some v)
    (hk : ∀ j u, j ≠ k → (ndV z)[j]? = some u → (ndV y)[j]? = some u) : NdsAt (w.setCell ⟨g, off + i * 6 + k, none⟩ v) g off (us.set i z) := fun i' y' hi' j u hu => by
  have hk6 : k < 6 := by have := (List.getElem?_eq_some_iff.mp hv).1; simpa using this
  have hj6 : j < 6 := by have := (List.getElem?_eq_some_iff.mp hu).1; simpa using this
  have hil : i < us.length := (List.getElem?_eq_some_iff.mp hi).1
  by_cases e : i' = i
  · subst e
    rw [List.getElem?_set_self hil] at hi'
    obtain rfl := Option.some.inj hi'
    by_cases ej : j = k
    · subst ej
      obtain rfl : v = u := Option.some.inj (hv.symm.trans hu)
      have hy : j < (ndV y).length := by simpa using hj6
      exact World.cell?_setCell_same (h := h i' y hi j _ (List.getElem?_eq_getElem hy)) ..
    · rw [World.cell?_setCell_other (h := by intro h; injection h with _ h; omega) ..]
      exact h i' y hi j u (hk j u ej hu)
  · rw [List.getElem?_set_ne (fun h => e h.symm)] at hi'
    rw [World.cell?_setCell_other (h := by intro h; injection h with _ h; omega) ..]
    exact h i' y' hi' j u hu
theorem keepD (n : Nd) (a a' : Option Addr) (c c' : Nat) : ∀ j u, j ≠ 4 → (ndV ⟨n, a', c'⟩)[j]? = some u → (ndV ⟨n, a, c⟩)[j]? = some u := by
  intro j u hj hu
  rcases j with _ | _ | _ | _ | _ | _ | j
  · exact hu
  · exact hu
  · exact hu
  · exact hu
  · exact absurd rfl hj
  · exact hu
  · simp at hu
theorem keepC (n : Nd) (a : Option Addr) (c : Nat) (x : Int) : ∀ j u, j ≠ 5 → (ndV ⟨{ n with c := x }, a, c⟩)[j]? = some u → (ndV ⟨n, a, c⟩)[j]? = some u := by
  intro j u hj hu
  rcases j with _ | _ | _ | _ | _ | _ | j
  · exact hu
  · exact hu
  · exact hu
  · exact hu
  · exact hu
  · exact absurd rfl hj
  · simp at hu
theorem frz_block {w w' : World} {g : Nat} (h : ∀ k, w.frozen? ⟨g, k, none⟩ = false) (e : w'.heap[g]? = w.heap[g]?) : ∀ k, w'.frozen? ⟨g, k, none⟩ = false := fun k => by
  have := h k
  unfold World.frozen? at this ⊢
  rw [e]; exact this

section
variable {P : Program} {w : World} {ops : Array Oper} {rest : List Oper} {o : Oper} {a : Act} {Q : Exit → Act → World → Prop}
theorem wpList_store_nd (hgd : o.guard = none) (T : TypeId) (x y : Operand) (ho : o.op = .store T x y) (g q : Nat) (hx : a.eval x = .pointer (some ⟨g, q, none⟩))
    (v : Value) (hy : a.eval y = v) (h1 : v.oneCell' = true) (hs : (P.info? T).map (·.size) = some 1) (us : List NdS) (i k : Nat) (z z' : NdS) (hq : q = i * 6 + k) (hi : us[i]? = some z) (hat : NdsAt w g 0 us) (hf : ∀ j, w.frozen? ⟨g, j, none⟩ = false)
    (hv : (ndV z')[k]? = some v) (hk : ∀ j u, j ≠ k → (ndV z')[j]? = some u → (ndV z)[j]? = some u)
    (K : ∀ w', NdsAt w' g 0 (us.set i z') → (∀ j, w'.frozen? ⟨g, j, none⟩ = false) → TurnB w w' g → wpList P ops Q rest (a.put o.dst undef) w') : wpList P ops Q (o :: rest) a w := by
  subst hq
  have hk6 : k < (ndV z).length := by have := (List.getElem?_eq_some_iff.mp hv).1; simpa using this
  have hc : w.cell? ⟨g, i * 6 + k, none⟩ = some (ndV z)[k] := by
    have := hat i z hi k _ (List.getElem?_eq_getElem hk6)
    rw [Nat.zero_add] at this
    exact this
  have hset : NdsAt (w.setCell ⟨g, i * 6 + k, none⟩ v) g 0 (us.set i z') := by
    have := hat.setAt hi z' k v hv hk
    rw [Nat.zero_add] at this
    exact this
  refine wpList_plain hgd fun K' hK => ?_
  have hv1 : v.cells = #[v] := by cases v <;> first | rfl | (simp [Value.oneCell'] at h1)
  cases hq : P.info? T with
  | none => simp [hq] at hs
  | some j =>
    have hj : j.size = 1 := by simpa [hq] using hs
    have ha : (⟨g, i * 6 + k, none⟩ : Addr).add 0 = ⟨g, i * 6 + k, none⟩ := add_plain' g _ 0
    have hrun : (storeVar T ⟨g, i * 6 + k, none⟩ v).run P w = .ok () (w.setCell ⟨g, i * 6 + k, none⟩ v) := by
      simp [storeVar, sizeOf, typeInfo, hq, hj, hv1, storeCells, run_store P w _ v _ h1, ha, hc, hf (i * 6 + k)]
    unfold Oper.wp execOp
    simp only [ho, hx, hy, Instr.storeAt, Instr.sureAddr, Sem.run_bind, Sem.run_pure, Result.andThen_ok, hrun]
    exact hK _ _ (K _ hset (fun j => by rw [World.frozen?_setCell]; exact hf j) ⟨fun hB => (Below.refl _ _).setCell hB v, fun hk => Below.heap_setCell _ _ _ _ hk, by simp [World.setCell]⟩)
end

/-- a node whose data the call laid itself -/
def Frs (B : Nat) (w : World) (y : NdS) : Prop := w.ownsRow B 5 1 (.slice y.a y.n.d.length y.cap) y.n.d.length (y.n.d.map (.int .u8))
/-- what stays while row g and map m are turned -/
structure Kp (C B g m : Nat) (w w' : World) : Prop where
  fr : ∀ u, Frs B w u → Frs B w' u
  blk : ∀ k, k < B → k ≠ g → k ≠ m → w'.heap[k]? = w.heap[k]?
  bel : Below C w w'
  sz : w.heap.size ≤ w'.heap.size
theorem Kp.refl (C B g m : Nat) (w : World) : Kp C B g m w w := ⟨fun _ h => h, fun _ _ _ _ => rfl, Below.refl _ _, Nat.le_refl _⟩
theorem Kp.trans {C B g m : Nat} {a b c : World} (h : Kp C B g m a b) (k : Kp C B g m b c) : Kp C B g m a c :=
  ⟨fun u hu => k.fr u (h.fr u hu), fun i h1 h2 h3 => (k.blk i h1 h2 h3).trans (h.blk i h1 h2 h3), h.bel.trans k.bel, Nat.le_trans h.sz k.sz⟩
theorem Kp.of_below {C B g m : Nat} {w w' : World} (h : Below w.heap.size w w') (hB : B ≤ w.heap.size) (hC : C ≤ w.heap.size) : Kp C B g m w w' :=
  ⟨fun _ hu => own_stay' hu h (Nat.le_refl _), fun k hk _ _ => h.block k (by omega), h.mono hC, h.size⟩
theorem Kp.of_row {C B g m : Nat} {w w' : World} (h : TurnB w w' g) (hB : g < B) (hC : C ≤ g) : Kp C B g m w w' :=
  ⟨fun _ hu => own_turnB hu h hB, fun _ _ h1 _ => h.other h1, h.below hC, Nat.le_of_eq h.size.symm⟩
theorem Kp.of_map {C B g m : Nat} {w w' : World} (h : TurnB w w' m) (hB : m < B) (hC : C ≤ m) : Kp C B g m w w' :=
  ⟨fun _ hu => own_turnB hu h hB, fun _ _ _ h2 => h.other h2, h.below hC, Nat.le_of_eq h.size.symm⟩

/-- the numbers given so far -/
def Nums (F : Value → Option Value) (S : List Int) (j : Nat) : Prop := ∀ c : Int, F (.int .i64 c) = if c ∈ clsU S j then some (.int .i64 (num S c)) else none
theorem Nums.stay {F : Value → Option Value} {S : List Int} {j : Nat} (h : Nums F S j) (hj : j < S.length) (hn : ¬ Many S S[j] ∨ S[j] ∈ clsU S j) : Nums F S (j + 1) ∧ clsU S (j + 1) = clsU S j := by
  have e : clsU S (j + 1) = clsU S j := by
    rw [clsU_step hj, if_neg]
    rintro ⟨h1, h2⟩
    exact hn.elim (fun h => h h1) h2
  exact ⟨fun c => by rw [e]; exact h c, e⟩
theorem Nums.more {F : Value → Option Value} {S : List Int} {j : Nat} (h : Nums F S j) (hj : j < S.length) (hm : Many S S[j]) (hn : S[j] ∉ clsU S j) :
    Nums (upd F (.int .i64 S[j]) (.int .i64 (((clsU S j).length : Int) + 1))) S (j + 1) ∧ (clsU S (j + 1)).length = (clsU S j).length + 1 := by
  have e : clsU S (j + 1) = clsU S j ++ [S[j]] := by rw [clsU_step hj, if_pos ⟨hm, hn⟩]
  refine ⟨fun c => ?_, by rw [e]; simp⟩
  rw [e]
  by_cases ec : c = S[j]
  · subst ec
    rw [upd_same, if_pos (by simp), num_new hj hm hn]
  · rw [upd_ne (fun h => ec (by injection h)), h c]
    by_cases h1 : c ∈ clsU S j
    · rw [if_pos h1, if_pos (by simp [h1])]
    · rw [if_neg h1, if_neg (by simp [h1, ec])]

/-- Canon's row before node j: those before are renumbered and their data are the call's own -/
structure CSt (B : Nat) (zs us : List NdS) (j : Nat) (w : World) : Prop where
  len : us.length = zs.length
  done : ∀ i z, i < j → zs[i]? = some z → ∃ u, us[i]? = some u ∧ u.n = ren (nds zs) z.n ∧ Frs B w u
  rest : ∀ i, j ≤ i → us[i]? = zs[i]?
theorem CSt.next {C B g m : Nat} {zs us : List NdS} {j : Nat} {w w' : World} (h : CSt B zs us j w) (k : Kp C B g m w w') {z u : NdS} (hz : zs[j]? = some z) (hu : u.n = ren (nds zs) z.n) (hf : Frs B w' u) (vs : List NdS) (hvl : vs.length = us.length) (hvj : vs[j]? = some u) (hvo : ∀ i, i ≠ j → vs[i]? = us[i]?) : CSt B zs vs (j + 1) w' := by
  refine ⟨hvl.trans h.len, fun i y hi hy => ?_, fun i hi => by rw [hvo i (by omega)]; exact h.rest i (by omega)⟩
  by_cases e : i = j
  · subst e
    obtain rfl : z = y := Option.some.inj (hz.symm.trans hy)
    exact ⟨u, hvj, hu, hf⟩
  · obtain ⟨v, h1, h2, h3⟩ := h.done i y (by omega) hy
    exact ⟨v, (hvo i e).trans h1, h2, k.fr v h3⟩
theorem CSt.end_ {B : Nat} {zs us : List NdS} {w : World} (h : CSt B zs us zs.length w) : nds us = (nds zs).map (ren (nds zs)) ∧ ∀ u ∈ us, Frs B w u ∧ ∃ z ∈ zs, u.n = ren (nds zs) z.n := by
  constructor
  · refine List.ext_getElem? fun i => ?_
    by_cases hi : i < zs.length
    · have hz : zs[i]? = some zs[i] := List.getElem?_eq_getElem hi
      obtain ⟨u, h1, h2, _⟩ := h.done i _ hi hz
      rw [nds_at h1, List.getElem?_map, nds_at hz, h2]; rfl
    · rw [List.getElem?_eq_none (by rw [nds_len, h.len]; omega), List.getElem?_eq_none (by rw [List.length_map, nds_len]; omega)]
  · intro u hu
    obtain ⟨i, hi, rfl⟩ := List.getElem_of_mem hu
    have hl : i < zs.length := by rw [← h.len]; exact hi
    obtain ⟨v, h1, h2, h3⟩ := h.done i _ hl (List.getElem?_eq_getElem hl)
    obtain rfl : us[i] = v := Option.some.inj ((List.getElem?_eq_getElem hi).symm.trans h1)
    exact ⟨h3, _, List.getElem_mem hl, h2⟩
/-- what the call laid itself, as it is told of -/
theorem NdF.fresh {B : Nat} {w w0 : World} {z u : NdS} {S : List Nd} (h : NdF w0 z) (e : u.n = ren S z.n) (hf : Frs B w u) (hn : num (cs S) z.n.c ≤ 1759218604441) : NdF w u := by
  obtain ⟨un, ua, uc⟩ := u
  obtain rfl : un = ren S z.n := e
  obtain ⟨b, cap, hv, hi, hc, hm, hl, hx⟩ := own_any hf
  injection hv with e1 _ e3
  obtain rfl : ua = b := e1
  obtain rfl : uc = cap := e3
  refine ⟨h.k, h.p, h.m, h.t, ⟨rfl, hc, hm, h.d.2.2.2.1, ?_⟩, h.l, ?_⟩
  · rcases Nat.eq_zero_or_pos z.n.d.length with h0 | h0
    · exact .inl h0
    · obtain ⟨b', off, rfl, hlt⟩ := hi.plain h0
      exact .inr ⟨b', off, rfl, hlt, fun i hi' => hi.get i hi'⟩
  · have := num_nonneg (cs S) z.n.c
    show (Lit.int .i64 (num (cs S) z.n.c)).wf = true
    have hn' := hn
    have e1 : IntKind.i64.min = -9223372036854775808 := by decide
    have e2 : IntKind.i64.max = 9223372036854775807 := by decide
    simp [Lit.wf]
    omega
theorem cls_len (l : List Int) : (cls l).length ≤ l.length := by
  unfold cls
  have h : ∀ (t s : List Int), (dd s t).length ≤ s.length + t.length := by
    intro t
    induction t with
    | nil => intro s; exact Nat.le_refl _
    | cons c t ih =>
      intro s
      unfold dd
      have := ih (if c ∈ s then s else s ++ [c])
      rw [List.length_cons]
      by_cases e : c ∈ s
      · rw [if_pos e] at this ⊢; omega
      · rw [if_neg e] at this ⊢; rw [List.length_append, List.length_singleton] at this; omega
  have h3 := h (l.filter fun c => decide (Many l c)) []
  have h4 : (l.filter fun c => decide (Many l c)).length ≤ l.length := List.length_filter_le _ _
  simp only [List.length_nil, Nat.zero_add] at h3
  omega
theorem clsU_len {l : List Int} {n : Nat} (hn : n ≤ l.length) : (clsU l n).length ≤ l.length := by
  obtain ⟨r, hr⟩ := clsU_pre (l := l) hn (Nat.le_refl _)
  have h := cls_len l
  rw [← clsU_end, hr, List.length_append] at h
  omega
theorem num_le (l : List Int) (c : Int) : num l c ≤ l.length := by
  unfold num
  split
  · rename_i h
    have h1 : (cls l).idxOf c < (cls l).length := List.idxOf_lt_length_iff.mpr (cls_mem.mpr h)
    have h2 := cls_len l
    omega
  · omega
end Go.Proofs.YtinmkgpmoclcoaaDoor.Tre
/-
  Layer 13: plain mathematics: the reference's class numbers, as a row that is filled class by class. No memory.
-/
namespace Go.Proofs.YtinmkgpmoclcoaaDoor.Tre

/-- the reference's classes before place i -/
def clR (S : List Int) (i : Nat) : List Int := S.map fun c => if c ∈ clsU S i then num S c else 0
theorem clR_len (S : List Int) (i : Nat) : (clR S i).length = S.length := by unfold clR; rw [List.length_map]
theorem clR_get (S : List Int) (i : Nat) {k : Nat} (h : k < S.length) : (clR S i)[k]? = some (if S[k] ∈ clsU S i then num S S[k] else 0) := by
  unfold clR; rw [List.getElem?_map, List.getElem?_eq_getElem h]; rfl
theorem clR_zero (S : List Int) : clR S 0 = List.replicate S.length 0 := by
  unfold clR
  rw [show clsU S 0 = [] from rfl]
  simp only [List.not_mem_nil, if_false]
  exact List.map_const' ..
theorem clR_end (S : List Int) : clR S S.length = S.map (num S) := by
  unfold clR
  refine List.map_congr_left fun c _ => ?_
  rw [clsU_end]
  by_cases h : c ∈ cls S
  · rw [if_pos h]
  · rw [if_neg h]; unfold num; rw [if_neg (fun h' => h (cls_mem.mpr h'))]
theorem clR_stay {S : List Int} {i : Nat} (hi : i < S.length) (h : ¬ Many S S[i] ∨ S[i] ∈ clsU S i) : clR S (i + 1) = clR S i ∧ clsU S (i + 1) = clsU S i := by
  have e : clsU S (i + 1) = clsU S i := by
    rw [clsU_step hi, if_neg]
    rintro ⟨h1, h2⟩
    exact h.elim (fun h => h h1) h2
  exact ⟨by unfold clR; rw [e], e⟩
/-- a class that is met is numbered, a class that is not is zero -/
theorem clR_nz {S : List Int} {i k : Nat} (hi : i ≤ S.length) (hk : k < S.length) : (if S[k] ∈ clsU S i then num S S[k] else 0) ≠ 0 ↔ S[k] ∈ clsU S i := by
  by_cases h : S[k] ∈ clsU S i
  · rw [if_pos h, num_at hi h]
    exact ⟨fun _ => h, fun _ => by omega⟩
  · rw [if_neg h]
    exact ⟨fun h' => absurd rfl h', fun h' => absurd h' h⟩
/-- the row while class i is filled in, before place K -/
def clP (S : List Int) (i : Nat) (v : Int) : Nat → List Int
  | 0 => clR S i
  | K + 1 => if S[K]? = S[i]? then (clP S i v K).set K v else clP S i v K
theorem clP_len (S : List Int) (i : Nat) (v : Int) : ∀ K, (clP S i v K).length = S.length
  | 0 => clR_len S i
  | K + 1 => by
    unfold clP
    split
    · rw [List.length_set, clP_len S i v K]
    · exact clP_len S i v K
theorem clP_get (S : List Int) (i : Nat) (v : Int) {k : Nat} (hk : k < S.length) : ∀ K, (clP S i v K)[k]? = if k < K ∧ S[k]? = S[i]? then some v else (clR S i)[k]?
  | 0 => by rw [if_neg (by omega)]; rfl
  | K + 1 => by
    have ih := clP_get S i v hk K
    unfold clP
    by_cases e : S[K]? = S[i]?
    · rw [if_pos e]
      by_cases ek : k = K
      · subst ek
        rw [List.getElem?_set_self (by rw [clP_len]; exact hk), if_pos ⟨by omega, e⟩]
      · rw [List.getElem?_set_ne (fun h => ek h.symm), ih]
        by_cases c : k < K ∧ S[k]? = S[i]?
        · rw [if_pos c, if_pos ⟨by omega, c.2⟩]
        · rw [if_neg c, if_neg (fun h => c ⟨by omega, h.2⟩)]
    · rw [if_neg e, ih]
      by_cases c : k < K ∧ S[k]? = S[i]?
      · rw [if_pos c, if_pos ⟨by omega, c.2⟩]
      · rw [if_neg c, if_neg (fun h => by
          by_cases ek : k = K
          · subst ek; exact e h.2
          · exact c ⟨by omega, h.2⟩)]
theorem clP_end {S : List Int} {i : Nat} (hi : i < S.length) (hm : Many S S[i]) (hn : S[i] ∉ clsU S i) : clP S i (((clsU S i).length : Int) + 1) S.length = clR S (i + 1) ∧ (clsU S (i + 1)).length = (clsU S i).length + 1 := by
  have e : clsU S (i + 1) = clsU S i ++ [S[i]] := by rw [clsU_step hi, if_pos ⟨hm, hn⟩]
  refine ⟨List.ext_getElem? fun k => ?_, by rw [e]; simp⟩
  by_cases hk : k < S.length
  · rw [clP_get S i _ hk, clR_get S (i + 1) hk, clR_get S i hk, e, List.getElem?_eq_getElem hk, List.getElem?_eq_getElem hi]
    by_cases c : S[k] = S[i]
    · rw [if_pos ⟨hk, by rw [c]⟩, c, if_pos (by simp), num_new hi hm hn]
    · rw [if_neg (fun h => c (Option.some.inj h.2))]
      by_cases h1 : S[k] ∈ clsU S i
      · rw [if_pos h1, if_pos (by simp [h1])]
      · rw [if_neg h1, if_neg (by simp [h1, c])]
  · rw [List.getElem?_eq_none (by rw [clP_len]; omega), List.getElem?_eq_none (by rw [clR_len]; omega)]
/-- how many of the first K have the class of place i -/
theorem cnt_next {S : List Int} {K : Nat} (hK : K < S.length) (c : Int) : (S.take (K + 1)).count c = if S[K] = c then (S.take K).count c + 1 else (S.take K).count c := by
  rw [List.take_add_one, List.getElem?_eq_getElem hK]
  simp only [Option.toList_some, List.count_append, List.count_singleton]
  by_cases e : S[K] = c
  · simp [e]
  · simp [e]
end Go.Proofs.YtinmkgpmoclcoaaDoor.Tre
