/-
  Layer 13: slices.Clone of nodes; what a sort does with no nodes; the program's count (by class).
-/
import Derived.Test.YtmbimnnacjbdfaaDoorPk06
import Derived.Test.YtmbimnnacjbdfaaDoorPk12
namespace Go.Proofs.YtmbimnnacjbdfaaDoor.Tre
open Go.RowKit Go.MapKept Go.Proofs.YtmbimnnacjbdfaaDoor.Fit

set_option maxRecDepth 100000 in
set_option maxHeartbeats 2000000 in
theorem nclone_any (a : Option Addr) (n cap : Nat) (ys : List NdS) (w : World) (hy : NdsIn w a ys) (hl : ys.length = n) (hn : n ≤ 1000000) :
    Calls Tryd.prog 21 #[.slice a n cap] w fun e w' => ∃ v, e = .returned v ∧ w'.ownsRow w.heap.size 32 6 v n (ndCells ys) ∧ Below w.heap.size w w' := by
  have HY := Lib.hid hy; have HL := Lib.hid hl; have HN := Lib.hid hn
  have I6 := Lib.hid IN6
  obtain ⟨i0, HI0⟩ := info_of (P := Tryd.prog) (e := 32) (z := .agg (ndL 0 emp 0 emp none 0 0 0).toArray) (s := 6) (b := 80) (by kernel_rfl)
  clear hy hl hn
  have he : ∀ w : World, (binOp .eql 22 (.slice none n cap) (.slice none 0 0)).run Tryd.prog w = .ok (.bool true) w := fun _ => rfl
  have he' : ∀ (x : Addr) (w : World), (binOp .eql 22 (.slice (some x) n cap) (.slice none 0 0)).run Tryd.prog w = .ok (.bool false) w := fun _ _ => rfl
  cases a with
  | none =>
    have h0 : ys = [] := by
      rcases HY.out with h | ⟨_, _, h, _⟩
      · exact h
      · cases h
    subst h0
    obtain rfl : n = 0 := HL.out.symm
    go_enter Tryd.func21, Tryd.ntmps21
    go_wp2
    go_ret
    exact ⟨_, rfl, ⟨rfl, .inl ⟨rfl, rfl⟩⟩, Below.refl _ _⟩
  | some x =>
    go_enter Tryd.func21, Tryd.ntmps21
    go_wp2_with (first | (refine wpList_lit_nd0 rfl 22 32 rfl Tryd.underlying22 _ I6.out ?_; intro w1 h1 b1; have O1 := Lib.hid h1; have B1 := Lib.hid b1; clear h1 b1) | (at_builtin; refine wpList_append_nds rfl _ _ 22 rfl 32 w.heap.size i0 _ Tryd.underlying22 HI0 rfl (.slice (some ⟨w.heap.size, 0, none⟩) 0 0) 0 [] rfl O1.out (some x) n cap ys rfl (HY.out.below B1.out) HL.out (by have := HN.out; omega) B1.out.size ?_; intro v2 w2 h2 b2 _ _; rw [Nat.zero_add, List.nil_append] at h2; have O2 := Lib.hid h2; have B2 := Lib.hid b2; clear h2 b2))
    go_ret
    exact ⟨_, rfl, O2.out, B1.out.trans B2.out⟩

set_option maxRecDepth 100000 in
set_option maxHeartbeats 2000000 in
/-- no nodes: nothing to sort -/
theorem sort_nil (a : Option Addr) (cap : Nat) (w : World) :
    Calls Tryd.prog 22 #[.slice a 0 cap, .func (.func 23) #[] #[]] w fun e w' => e = .returned (.tuple #[]) ∧ w' = w := by
  have I : Hid (Calls Tryd.prog 50 #[.slice a 0 cap, .int .i64 0, .int .i64 0, .func (.func 23) #[] #[]] w fun e w' => e = .returned (.tuple #[]) ∧ w' = w) := by
    show Calls _ _ _ _ _
    go_enter Tryd.func50, Tryd.ntmps50
    go_wp2_with fail
    go_loopw [8] (fun v wr => v = .int .i64 1 ∧ wr = w) (fun _ _ => 0)
    case atStart => exact ⟨rfl, rfl⟩
    case round =>
      obtain ⟨rfl, rfl⟩ := hrel
      go_wp2_with fail
      go_end0
      exact ⟨rfl, rfl⟩
  have S : Hid (Calls Tryd.prog 38 #[.slice a 0 cap, .int .i64 0, .func (.func 23) #[] #[]] w fun e w' => e = .returned (.tuple #[]) ∧ w' = w) := by
    show Calls _ _ _ _ _
    go_enter Tryd.func38, Tryd.ntmps38
    go_wp2_with fail
    go_loopw [7, 8] (fun v u wr => v = .int .i64 0 ∧ u = .int .i64 20 ∧ wr = w) (fun _ _ _ => 0)
    case atStart => exact ⟨rfl, rfl, rfl⟩
    case round =>
      obtain ⟨rfl, rfl, rfl⟩ := hrel
      go_wp2_with fail
      refine I.out.mono ?_; rintro e w1 ⟨rfl, rfl⟩
      go_wp2_with fail
      go_loopw [6] (fun v wr => v = .int .i64 20 ∧ wr = w1) (fun _ _ => 0)
      case atStart => exact ⟨rfl, rfl⟩
      case round =>
        obtain ⟨rfl, rfl⟩ := hrel
        go_wp2_with fail
        go_end0
        exact ⟨rfl, rfl⟩
  clear I
  go_enter Tryd.func22, Tryd.ntmps22
  go_wp2_with fail
  refine S.out.mono ?_; rintro e w1 ⟨rfl, rfl⟩
  go_wp2_with fail
  go_end0
  exact ⟨rfl, rfl⟩

/-- how many of the first n have the class -/
def cnt (ys : List NdS) (n : Nat) (c : Int) : Nat := ((cs (nds ys)).take n).count c
theorem cnt_step {ys : List NdS} {n : Nat} {y : NdS} (h : ys[n]? = some y) (c : Int) : cnt ys (n + 1) c = if y.n.c = c then cnt ys n c + 1 else cnt ys n c := by
  unfold cnt
  have hc : (cs (nds ys))[n]? = some y.n.c := by unfold cs; rw [List.getElem?_map, nds_at h]; rfl
  rw [List.take_add_one, hc]
  simp only [Option.toList_some, List.count_append, List.count_singleton]
  by_cases e : y.n.c = c
  · simp [e]
  · simp [e]
theorem cnt_le (ys : List NdS) (n : Nat) (c : Int) : cnt ys n c ≤ n := by
  unfold cnt
  exact Nat.le_trans List.count_le_length (by rw [List.length_take]; omega)
theorem cnt_all {ys : List NdS} {n : Nat} (h : ys.length = n) (c : Int) : cnt ys n c = (cs (nds ys)).count c := by
  unfold cnt
  rw [List.take_of_length_le (by unfold cs; rw [List.length_map, nds_len, h]; exact Nat.le_refl _)]
/-- a map of numbers: what it answers for a class -/
def Cnt (F : Value → Option Value) (ys : List NdS) (n : Nat) : Prop := ∀ c : Int, (F (.int .i64 c)).getD (.int .i64 0) = .int .i64 (cnt ys n c)
theorem Cnt.step {F : Value → Option Value} {ys : List NdS} {n : Nat} (h : Cnt F ys n) {y : NdS} (hy : ys[n]? = some y) : Cnt (upd F (.int .i64 y.n.c) (.int .i64 ((cnt ys n y.n.c : Int) + 1))) ys (n + 1) := fun c => by
  rw [cnt_step hy]
  by_cases e : y.n.c = c
  · subst e
    rw [upd_same, if_pos rfl]
    simp
  · rw [upd_ne (fun h => e (by injection h with _ h; exact h.symm)), if_neg e]
    exact h c

set_option maxRecDepth 100000 in
set_option maxHeartbeats 4000000 in
theorem count_any (a : Option Addr) (n cap : Nat) (ys : List NdS) (w : World) (ha : NdsIn w a ys) (hl : ys.length = n) (hn : n ≤ 1000000) :
    Calls Tryd.prog 25 #[.slice a n cap, .func (.func 26) #[] #[]] w fun e w' => ∃ g N F, e = .returned (.map (some g)) ∧ MapF w' g (.int .i64) N F ∧ Cnt F ys n ∧ w.heap.size ≤ g ∧ Below w.heap.size w w' := by
  have HA := Lib.hid ha; have HL := Lib.hid hl
  have NZ := Lib.hid zNd
  have NO := Lib.hid ndT
  have ZI : Hid ((Tryd.prog.info? 3).map (·.zero) = some (some (.int .i64 0))) := by show _ = _; kernel_rfl
  have UM := Lib.hid Tryd.underlying41
  have UK := Lib.hid Tryd.underlying3
  clear ha hl
  go_enter Tryd.func25, Tryd.ntmps25
  go_wp2_with (first | (refine wpList_make_mapF rfl _ rfl (.int .i64) ?_; intro w1 m1 b1; have M1 := Lib.hid m1; have B1 := Lib.hid b1; have S1 := Lib.hid m1.lt; clear m1 b1))
  go_loopw [11] (fun i wr => ∃ (j N : Nat) (F : Value → Option Value), i = .int .i64 j ∧ j ≤ n ∧ MapF wr w.heap.size (.int .i64) N F ∧ Cnt F ys j ∧ Below w.heap.size w wr) (fun i _ => n - (intOf i).toNat)
  case atStart => exact ⟨0, 0, _, rfl, Nat.zero_le _, M1.out, fun c => rfl, B1.out⟩
  case round =>
    obtain ⟨j, N, F, rfl, hj, hM, hF, hB⟩ := hrel
    have HM := Lib.hid hM; have HB := Lib.hid hB; have HF := Lib.hid hF
    have W0 : Hid (w.heap.size < wr.heap.size) := hM.lt
    clear hM hB hF
    by_cases hjn : j < n
    · have hlt : j < ys.length := by rw [HL.out]; exact hjn
      have hy : ys[j]? = some ys[j] := List.getElem?_eq_getElem hlt
      obtain ⟨y, ey⟩ : ∃ y, y = ys[j] := ⟨_, rfl⟩
      rw [← ey] at hy
      obtain ⟨b, off, rfl, hb, hat⟩ : ∃ b off, a = some ⟨b, off, none⟩ ∧ b < w.heap.size ∧ NdsAt w b off ys := by
        rcases HA.out with h0 | h
        · simp [h0] at hlt
        · exact h
      have hat' := hat.below HB.out hb
      obtain ⟨c0, c1, c2, c3, c4, c5⟩ := hat'.c hy
      have FS := Lib.hid (HF.out.step hy)
      have FQ := Lib.hid (HF.out y.n.c)
      have CL := cnt_le ys j y.n.c
      obtain ⟨M, hM⟩ := named (cnt ys j y.n.c)
      rw [← hM.out] at FS FQ CL
      clear hat hat' hy ey hlt hM
      obtain ⟨⟨k, p, m, t, d, c⟩, x, xc⟩ := y
      obtain ⟨L, hL⟩ := named d.length
      have c4' : wr.cell? ⟨b, off + j * 6 + 4, none⟩ = some (.slice x L xc) := by rw [hL.out]; exact c4
      have m1 : (M : Int) + 1 ≤ 1000001 := by omega
      have wm : IntKind.i64.wrap ((M : Int) + 1) = (M : Int) + 1 := wrapP (by omega) (by omega)
      clear c4 hL CL
      have j1 : (j : Int) < n := by omega
      have NB : Hid (b < w.heap.size) := hb
      clear hb hjn
      go_wp2_with (first | (refine wpList_alloc_obj rfl 32 rfl (ndL 0 emp 0 emp none 0 0 0) NZ.out ?_; intro w2 g2 b2; have G2 := Lib.hid g2; have M2 := Lib.hid (HM.out.below b2 HM.out.lt); have B2 := Lib.hid (HB.out.trans (b2.mono (Nat.le_of_lt W0.out))); have W2 := Lib.hid b2.size; clear g2 b2 c0 c1 c2 c3 c4' c5) | (refine wpList_store_obj rfl 32 _ _ rfl wr.heap.size rfl (ndL k p m t x L xc c) (ndL 0 emp 0 emp none 0 0 0) rfl 32 G2.out NO.out.2 rfl (nd_one _ _ _ _ _ _ _ _) ?_; intro w3 g3 t3; have G3 := Lib.hid g3; have M3 := Lib.hid (M2.out.block (t3.other (Nat.ne_of_lt W0.out))); have B3 := Lib.hid (B2.out.trans (t3.below (Nat.le_of_lt W0.out))); have W3 := Lib.hid (Nat.le_trans W2.out (Nat.le_of_eq t3.size.symm)); have c0 := g3.get 0 rfl; have c1 := g3.get 1 rfl; have c2 := g3.get 2 rfl; have c3 := g3.get 3 rfl; have c4 := g3.get 4 rfl; have c5 := g3.get 5 rfl; clear g3 t3))
      refine (classOf_any k p m t x L xc c w3).mono ?_; rintro e w4 ⟨rfl, b4⟩
      have M4 := Lib.hid (M3.out.below b4 M3.out.lt)
      have B4 := Lib.hid (belT B3.out b4)
      clear b4 c0 c1 c2 c3 c4 c5
      obtain ⟨q1, q2⟩ := run_lookF (P := Tryd.prog) (w := w4) 41 3 3 UM.out (.int .i64) UK.out (.int .i64 0) ZI.out w.heap.size N (.int .i64 c) (show IsKey (.int .i64) (.int .i64 c) from rfl) F M4.out
      rw [FQ.out] at q2
      clear q1
      go_wp2_with (first | (refine wpList_update_map rfl 41 _ _ _ rfl 3 3 UM.out (.int .i64) UK.out w.heap.size rfl (.int .i64 c) rfl (show IsKey (.int .i64) (.int .i64 c) from rfl) (.int .i64 ((M : Int) + 1)) (by first | rfl | (show Value.int .i64 (wrap64 _) = _; rw [show wrap64 ((M : Int) + 1) = (M : Int) + 1 from wm])) N _ M4.out ?_; intro w6 m6 t6; have M6 := Lib.hid m6; have B6 := Lib.hid (B4.out.trans (t6.below (Nat.le_refl _))); clear m6 t6))
      go_round
      case rel => exact ⟨j + 1, _, _, by go_num, by omega, M6.out, FS.out, B6.out⟩
      case measure => simp [intOf]; omega
    · obtain rfl : j = n := by omega
      go_wp2
      go_ret
      exact ⟨_, N, F, rfl, HM.out, HF.out, Nat.le_refl _, HB.out⟩
end Go.Proofs.YtmbimnnacjbdfaaDoor.Tre
