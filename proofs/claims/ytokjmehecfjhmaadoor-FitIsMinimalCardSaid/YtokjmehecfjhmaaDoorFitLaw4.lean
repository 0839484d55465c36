/-
  The statement FitIsMinimal: a walk.
-/
import Derived.Test.YtokjmehecfjhmaaDoorFitLaw3
import Derived.Test.YtokjmehecfjhmaaDoorRecApp
import Derived.Deep.CutRange
namespace Go.Proofs.YtokjmehecfjhmaaDoor.Fit
open Go.RowKit Pxr Pnm

theorem recs_drop {w : World} {b off : Nat} {rs : List Rec} (h : RecsIn w (some ⟨b, off, none⟩) rs) (i : Nat) : RecsIn w (some ⟨b, off + i * 2, none⟩) (rs.drop i) := by
  rcases h with h | ⟨b', o', e, h2, h3⟩
  · rw [h]; exact .inl (by simp)
  · cases e
    refine .inr ⟨b, off + i * 2, rfl, h2, fun j r hj => ?_⟩
    rw [List.getElem?_drop] at hj
    obtain ⟨c0, c1⟩ := h3 (i + j) r hj
    rw [show off + (i + j) * 2 = off + i * 2 + j * 2 by omega] at c0 c1
    exact ⟨c0, c1⟩
theorem short_pf {p : ByteArray} (h : p.size ≤ 100) : strOfNums (splP (numsOf p)) = emp := by
  rcases spl_cases p with ⟨_, a, _⟩ | ⟨_, _, _, _, _, _, c⟩ | ⟨_, _, _, c⟩
  · rw [a]; rfl
  · omega
  · omega
/-- where the loop over the records stands -/
def MinRel (n : Nat) (w w1 w3 w6 : World) (e : Ent) (XK XV : ByteArray) (H : Hd) (i : Value) (wr : World) : Prop :=
  ∃ j : Nat, i = .int .i64 j ∧ j ≤ n ∧ ObjAt wr w.heap.size 23 (enV e.k e.p e.m e.t e.s) ∧ ObjAt wr w1.heap.size 38 [.string XK, .string XV] ∧ ObjAt wr w3.heap.size 27 (Ust.hdV H.T H.nm H.pf H.lk H.md H.sz) ∧ Below w6.heap.size w6 wr
theorem none_iff {e : Ent} : plL e = [] ↔ ((e.p.size ≤ 100 ∨ (plH e).pf ≠ emp) ∧ e.t.size ≤ 100 ∧ e.s ≤ 8589934591) := by
  rw [no_recs, fits_iff]; rfl
end Go.Proofs.YtokjmehecfjhmaaDoor.Fit
namespace Go.Proofs.YtokjmehecfjhmaaDoor
open Go.RowKit Go.Proofs.YtokjmehecfjhmaaDoor.Fit Pxr Pnm

set_option maxHeartbeats 32000000 in
set_option maxRecDepth 100000 in
theorem walk_FitIsMinimal (k : Int) (p : ByteArray) (m : Int) (t : ByteArray) (s : Int) (XK XV : ByteArray) (w : World) (V : MVars w) (_ : (Lit.int .i64 k).wf = true) (hp : p.size ≤ maxLen) (_ : (Lit.int .i64 m).wf = true) (ht : t.size ≤ maxLen) (_ : (Lit.int .i64 s).wf = true)
    (hxk : XK.size ≤ 140737488355328) (hxv : XV.size ≤ 140737488355328) :
    Calls Tryd.prog 6 #[.agg (enV k p m t s).toArray, .agg #[.string XK, .string XV]] w fun e w' => e = .returned (.bool true) ∧ Below w.heap.size w w' := by
  have PL := Lib.hid fun w' (hb : Below w.heap.size w w') => pplan_any ⟨k, p, m, t, s⟩ w' (V.go hb).f hp ht
  have LG := Lib.hid fun w' => large_any k p m t s w' hp ht
  have AL := Lib.hid fun w' (hb : Below w.heap.size w w') => alive_any w' (V.go hb).f
  have HV := Lib.hid V
  have zk : (XK.size : Int) ≤ 140737488355328 := by omega
  have zv : (XV.size : Int) ≤ 140737488355328 := by omega
  unfold RetP at PL
  have HO := Lib.hid hdTp; have EO := Lib.hid enT; have RO := Lib.hid recO
  have HZ := Lib.hid zHp; have EZ := Lib.hid zEn
  have HUnd := Lib.hid Tryd.underlying28; have hJ := Lib.hid recJ
  obtain ⟨i0, hI⟩ := recI
  by_cases hE : ckE ⟨k, p, m, t, s⟩ = 0
  · have hok := ck_ok.1 hE
    obtain ⟨e2, e3⟩ := pl_good_eq hE
    rw [e2, e3, hE] at PL
    obtain ⟨z1, z2, z3, _⟩ := pl_hd hok
    have HLL := Lib.hid (pl_len ⟨k, p, m, t, s⟩)
    have ZZ := Lib.hid (And.intro z1 (And.intro z2 z3))
    have HVL := Lib.hid (pl_vals hok)
    have LESS := Lib.hid fun (i : Nat) (r : Rec) => less_one hok (i := i) (r := r)
    have MORE := Lib.hid fun (x : Rec) => more_one hok (x := x)
    have NIL := Lib.hid (none_iff (e := ⟨k, p, m, t, s⟩))
    have SPF := Lib.hid (fun h => short_pf (p := p) h)
    have hPF0 : (plH ⟨k, p, m, t, s⟩).pf = strOfNums (splP (numsOf p)) := rfl
    dsimp only at NIL
    obtain ⟨T, hT⟩ := named (plH ⟨k, p, m, t, s⟩).T
    obtain ⟨nm, hnm⟩ := named (plH ⟨k, p, m, t, s⟩).nm
    obtain ⟨pf, hpf⟩ := named (plH ⟨k, p, m, t, s⟩).pf
    obtain ⟨lk, hlk⟩ := named (plH ⟨k, p, m, t, s⟩).lk
    obtain ⟨md, hmd⟩ := named (plH ⟨k, p, m, t, s⟩).md
    obtain ⟨sz, hsz⟩ := named (plH ⟨k, p, m, t, s⟩).sz
    obtain ⟨L, hL⟩ := named (plL ⟨k, p, m, t, s⟩)
    have HH : Hid (plH ⟨k, p, m, t, s⟩ = ⟨T, nm, pf, lk, md, sz⟩) := by show _ = _; rw [hT.out, hnm.out, hpf.out, hlk.out, hmd.out, hsz.out]
    rw [← hT.out, ← hnm.out, ← hpf.out, ← hlk.out, ← hmd.out, ← hsz.out, ← hL.out] at PL
    rw [← hnm.out, ← hpf.out, ← hlk.out] at ZZ
    rw [← hPF0, ← hpf.out] at SPF
    rw [← hL.out, ← hpf.out] at NIL
    rw [← hL.out] at HLL HVL
    simp only [HH.out, ← hL.out] at LESS MORE
    clear hT hnm hpf hlk hmd hsz hL HH e2 e3 z1 z2 z3 hok hE V hp ht hPF0
    go_enter Tryd.func6, Tryd.ntmps6
    go_wp2_with (first | (refine wpList_box_obj rfl 23 (.tmp 0) rfl (enV k p m t s) rfl ?_; intro w1 g1 b1; have E1 := Lib.hid g1; have B1 := Lib.hid b1; clear g1 b1) | (refine wpList_box_obj rfl 38 (.tmp 1) rfl [.string XK, .string XV] rfl ?_; intro w2 g2 b2; have X2 := Lib.hid g2; have E2 := Lib.hid (E1.out.below b2 E1.out.lt); have B2 := Lib.hid (belT B1.out b2); have c0 := E2.out.get 0 rfl; have c1 := E2.out.get 1 rfl; have c2 := E2.out.get 2 rfl; have c3 := E2.out.get 3 rfl; have c4 := E2.out.get 4 rfl; clear g2 b2))
    refine (PL.out w2 B2.out).mono ?_; rintro e w3 ⟨b, n, c, rfl, hn, hc, hm, hR, b3⟩
    have E3 := Lib.hid (E2.out.below b3 E2.out.lt)
    have X3 := Lib.hid (X2.out.below b3 X2.out.lt)
    have I3 := Lib.hid hR
    have B3 := Lib.hid (belT B2.out b3)
    have HN := Lib.hid hn; have HC := Lib.hid hc; have HM := Lib.hid hm
    clear b3 hR hn hc hm c0 c1 c2 c3 c4
    go_wp2_with (first | (refine wpList_alloc_obj rfl 27 rfl Ust.hd0 HZ.out ?_; intro w4 g4 b4; have R4 := Lib.hid g4; have A4 := Lib.hid b4; clear g4 b4) | (refine wpList_store_obj rfl 27 _ _ rfl w3.heap.size rfl (Ust.hdV T nm pf lk md sz) Ust.hd0 rfl 27 R4.out HO.out.2 rfl (hd_one _ _ _ _ _ _) ?_; intro w5 g5 t5; have H5 := Lib.hid g5; have A5 := Lib.hid (A4.out.trans (t5.below (Nat.le_refl _))); have E5 := Lib.hid (E3.out.below A5.out E3.out.lt); have X5 := Lib.hid (X3.out.below A5.out X3.out.lt); have I5 := Lib.hid (I3.out.below A5.out); have B5 := Lib.hid (belT B3.out A5.out); have c0 := E5.out.get 0 rfl; have c1 := E5.out.get 1 rfl; have c2 := E5.out.get 2 rfl; have c3 := E5.out.get 3 rfl; have c4 := E5.out.get 4 rfl; clear g5 t5))
    refine (LG.out w5).mono ?_; rintro e w6 ⟨BB, rfl, hBB, b6⟩
    have E6 := Lib.hid (E5.out.below b6 E5.out.lt)
    have X6 := Lib.hid (X5.out.below b6 X5.out.lt)
    have H6 := Lib.hid (H5.out.below b6 H5.out.lt)
    have I6 := Lib.hid (I5.out.below b6)
    have B6 := Lib.hid (belT B5.out b6)
    clear b6 c0 c1 c2 c3 c4
    rcases hBB with rfl | rfl
    · have x0 := X6.out.get 0 rfl; have x1 := X6.out.get 1 rfl
      by_cases hsum : 70000 < XK.size + XV.size
      · have n70 : (70000 : Int) < XK.size + XV.size := by omega
        clear hsum
        go_wp2_with fail
        refine (AL.out _ B6.out).mono ?_; rintro e w7 ⟨rfl, b7⟩
        have B7 := Lib.hid (belT B6.out b7)
        clear b7
        go_wp2
        go_ret
        exact ⟨rfl, B7.out⟩
      · have n70 : ¬ (70000 : Int) < XK.size + XV.size := by omega
        clear hsum
        go_wp2_with fail
        go_loopw [41] (fun i wr => MinRel n w w1 w3 w6 ⟨k, p, m, t, s⟩ XK XV ⟨T, nm, pf, lk, md, sz⟩ i wr) (fun i _ => n - (intOf i).toNat)
        case atStart => exact ⟨0, rfl, Nat.zero_le _, E6.out, X6.out, H6.out, Below.refl _ _⟩
        case round =>
          obtain ⟨j, rfl, hj, hE, hX, hH, hB⟩ := hrel
          have ER := Lib.hid hE; have XR := Lib.hid hX; have HR := Lib.hid hH; have D6 := Lib.hid hB
          have IR := Lib.hid (I6.out.below hB); have BR := Lib.hid (belT B6.out hB)
          clear hE hX hH hB
          by_cases hjn : j < n
          · obtain ⟨r, hr⟩ := get_some (show j < L.length by rw [HN.out]; exact hjn)
            have RJ := Lib.hid hr
            obtain ⟨Ke, Va⟩ := r
            obtain ⟨B, o, hbe, _, _, _⟩ := IR.out.get j _ hr
            subst hbe
            have j1 : (j : Int) < n := by omega
            have j2 : (j : Int) ≤ c := by have := HC.out; omega
            have j3 : ((j : Int) + 1) ≤ n := by omega
            have j4 : (n : Int) ≤ c := by have := HC.out; omega
            have j5 : (c : Int) ≤ 9223372036854775807 := by have := HM.out; unfold maxLen at this; omega
            have jw : IntKind.i64.wrap ((j : Int) + 1) = (j : Int) + 1 := wrapP (by omega) (by omega)
            have jt : ((j : Int) + 1).toNat = j + 1 := by omega
            have j7 : (0 : Int) ≤ (j : Int) + 1 := by omega
            have cp : ¬ c = 0 := by have := HC.out; omega
            clear hr
            go_wp2_with fail
            by_cases hcj : c = j + 1
            · obtain rfl : n = j + 1 := by omega
              subst hcj
              have j6 : (j : Int) ≤ (j : Int) + 1 := by omega
              refine wp_region_held_drew (S := (fun _ => True)) (by kernel_rfl) (trivial) (fun hHeld => ?_)
              refine wpAnyH_take (i := 1) (oi := { dst := some 45, op := Go.Op.move (Go.Operand.tmp 6), type := 28, pos := "law.go:76", after := #[], guard := none }) (v := ?_) rfl (by kernel_rfl) (by kernel_rfl) (by kernel_rfl) (fun _ _ _ h => h) (Or.inl ⟨by rfl, ?_⟩) (by assumption) ?_
              rotate_left 1
              focus ((intro wS hSw; (try dsimp only at hSw); go_simp) <;> (try with_reducible rfl))
              simp only [Act.put, List.setIfInBounds_toArray, List.set_cons_zero, List.set_cons_succ]
              refine wpAnyH_take (i := 2) (oi := { dst := some 46, op := Go.Op.move (Go.Operand.tmp 8), type := 3, pos := "law.go:76", after := #[], guard := none }) (v := ?_) rfl (by kernel_rfl) (by kernel_rfl) (by kernel_rfl) (fun _ _ _ h => h) (Or.inl ⟨by rfl, ?_⟩) (by assumption) ?_
              rotate_left 1
              focus ((intro wS hSw; (try dsimp only at hSw); go_simp) <;> (try with_reducible rfl))
              simp only [Act.put, List.setIfInBounds_toArray, List.set_cons_zero, List.set_cons_succ]
              refine wpAnyH_take (i := 3) (oi := { dst := some 47, op := Go.Op.slice 28 (Go.Operand.tmp 45) none (some (Go.Operand.tmp 46)) none, type := 28, pos := "law.go:76", after := #[{ on := 1, ground := Go.Ground.data }, { on := 2, ground := Go.Ground.data }], guard := none }) (v := ?_) rfl (by kernel_rfl) (by kernel_rfl) (by kernel_rfl) (fun _ _ _ h => h) (Or.inl ⟨by rfl, ?_⟩) (by assumption) ?_
              rotate_left 1
              focus ((intro wS hSw; (try dsimp only at hSw); go_simp) <;> (try with_reducible rfl))
              simp only [Act.put, List.setIfInBounds_toArray, List.set_cons_zero, List.set_cons_succ]
              refine wpAnyH_take (i := 5) (oi := { dst := some 49, op := Go.Op.move (Go.Operand.tmp 6), type := 28, pos := "law.go:76", after := #[], guard := none }) (v := ?_) rfl (by kernel_rfl) (by kernel_rfl) (by kernel_rfl) (fun _ _ _ h => h) (Or.inl ⟨by rfl, ?_⟩) (by assumption) ?_
              rotate_left 1
              focus ((intro wS hSw; (try dsimp only at hSw); go_simp) <;> (try with_reducible rfl))
              simp only [Act.put, List.setIfInBounds_toArray, List.set_cons_zero, List.set_cons_succ]
              refine wpAnyH_take (i := 6) (oi := { dst := some 50, op := Go.Op.move (Go.Operand.tmp 8), type := 3, pos := "law.go:76", after := #[], guard := none }) (v := ?_) rfl (by kernel_rfl) (by kernel_rfl) (by kernel_rfl) (fun _ _ _ h => h) (Or.inl ⟨by rfl, ?_⟩) (by assumption) ?_
              rotate_left 1
              focus ((intro wS hSw; (try dsimp only at hSw); go_simp) <;> (try with_reducible rfl))
              simp only [Act.put, List.setIfInBounds_toArray, List.set_cons_zero, List.set_cons_succ]
              refine wpAnyH_take (i := 7) (oi := { dst := some 51, op := Go.Op.binOp Go.BinOp.add 3 (Go.Operand.tmp 50) (Go.Operand.const (Go.Value.int Go.IntKind.i64 1)) 3, type := 3, pos := "law.go:76", after := #[{ on := 6, ground := Go.Ground.data }], guard := none }) (v := ?_) rfl (by kernel_rfl) (by kernel_rfl) (by kernel_rfl) (fun _ _ _ h => h) (Or.inl ⟨by rfl, ?_⟩) (by assumption) ?_
              rotate_left 1
              focus ((intro wS hSw; (try dsimp only at hSw); go_simp) <;> (try with_reducible rfl))
              simp only [Act.put, List.setIfInBounds_toArray, List.set_cons_zero, List.set_cons_succ]
              refine wpAnyH_take (i := 8) (oi := { dst := some 52, op := Go.Op.slice 28 (Go.Operand.tmp 49) (some (Go.Operand.tmp 51)) none none, type := 28, pos := "law.go:76", after := #[{ on := 5, ground := Go.Ground.data }, { on := 7, ground := Go.Ground.data }], guard := none }) (v := ?_) rfl (by kernel_rfl) (by kernel_rfl) (by kernel_rfl) (fun _ _ _ h => h) (Or.inl ⟨by rfl, ?_⟩) (by assumption) ?_
              rotate_left 1
              focus ((intro wS hSw; (try dsimp only at hSw); go_simp) <;> (try with_reducible rfl))
              simp only [Act.put, List.setIfInBounds_toArray, List.set_cons_zero, List.set_cons_succ]
              refine wpAnyH_ready (rs := [0]) (by kernel_rfl) (by simp) ?_
              refine AllReadyH.cons (o := { dst := some 44, op := Go.Op.buildSlice 28 0 #[], type := 28, pos := "law.go:76", after := #[], guard := none }) rfl (fun K hK => ?_) AllReadyH.nil
              refine step_lit_rec0 rfl 28 38 rfl HUnd.out _ hJ.out ?_
              intro y1 o1 b1
              have O1 : Hid (y1.ownsRow wr.heap.size 38 2 (.slice (some ⟨wr.heap.size, 0, none⟩) 0 0) 0 (recCells [])) := o1
              have D1 : Hid (Below wr.heap.size wr y1) := (Below.refl _ _).drew.trans b1
              clear o1 b1
              refine hK.out _ _ (trivial) (fun hHeld => ?_)
              clear hK K
              (try simp only [Act.put, List.setIfInBounds_toArray, List.set_cons_zero, List.set_cons_succ])
              refine wpAnyH_ready (rs := [4]) (by kernel_rfl) (by simp) ?_
              refine AllReadyH.cons (o := { dst := some 48, op := Go.Op.call { callee := Go.Callee.builtin Go.Builtin.append, args := #[Go.Operand.tmp 44, Go.Operand.tmp 47], argTypes := #[28, 28] }, type := 28, pos := "law.go:76", after := #[{ on := 0, ground := Go.Ground.data }, { on := 3, ground := Go.Ground.data }], guard := none }) rfl (fun K hK => ?_) AllReadyH.nil
              refine step_append_recs rfl (.tmp 44) (.tmp 47) 28 rfl wr.heap.size 38 i0 _ HUnd.out hI _ 0 [] rfl O1.out (some ⟨B, o, none⟩) j (j + 1) (L.take j) rfl ((IR.out.below D1.out).take j) (by rw [List.length_take, HN.out]; omega) (by have := HLL.out; have := HN.out; omega) D1.out.size ?_
              intro v2 y2 o2 b2 _
              have O2 : Hid (y2.ownsRow wr.heap.size 38 2 v2 (0 + j) (recCells ([] ++ L.take j))) := o2
              have D2 : Hid (Below wr.heap.size wr y2) := D1.out.trans b2
              clear o2 b2
              refine hK.out _ _ (trivial) (fun hHeld => ?_)
              clear hK K
              (try simp only [Act.put, List.setIfInBounds_toArray, List.set_cons_zero, List.set_cons_succ])
              refine wpAnyH_ready (rs := [9]) (by kernel_rfl) (by simp) ?_
              refine AllReadyH.cons (o := { dst := some 53, op := Go.Op.call { callee := Go.Callee.builtin Go.Builtin.append, args := #[Go.Operand.tmp 48, Go.Operand.tmp 52], argTypes := #[28, 28] }, type := 28, pos := "law.go:76", after := #[{ on := 4, ground := Go.Ground.data }, { on := 8, ground := Go.Ground.data }, { on := 4, ground := Go.Ground.chain }], guard := none }) rfl (fun K hK => ?_) AllReadyH.nil
              refine step_append_recs rfl (.tmp 48) (.tmp 52) 28 rfl wr.heap.size 38 i0 _ HUnd.out hI _ (0 + j) ([] ++ L.take j) rfl O2.out (some ⟨B, o, none⟩) 0 0 (L.drop (j + 1)) rfl (.inl (by rw [List.drop_eq_nil_iff, HN.out]; exact Nat.le_refl _)) (by rw [List.length_drop, HN.out]; omega) (by have := HLL.out; have := HN.out; omega) D2.out.size ?_
              intro v3 y3 o3 b3 _
              have O3 : Hid (y3.ownsRow wr.heap.size 38 2 v3 (0 + j + 0) (recCells ([] ++ L.take j ++ L.drop (j + 1)))) := o3
              have D3 : Hid (Below wr.heap.size wr y3) := D2.out.trans b3
              clear o3 b3
              refine hK.out _ _ (trivial) (fun hHeld => ?_)
              clear hK K
              (try simp only [Act.put, List.setIfInBounds_toArray, List.set_cons_zero, List.set_cons_succ])
              refine wpAnyH_take (i := 10) (oi := { dst := some 9, op := Go.Op.assign (Go.Operand.tmp 53), type := 28, pos := "law.go:76", after := #[{ on := 9, ground := Go.Ground.data }, { on := 9, ground := Go.Ground.chain }, { on := 0, ground := Go.Ground.phase }, { on := 1, ground := Go.Ground.phase }, { on := 2, ground := Go.Ground.phase }, { on := 3, ground := Go.Ground.phase }, { on := 4, ground := Go.Ground.phase }, { on := 5, ground := Go.Ground.phase }, { on := 6, ground := Go.Ground.phase }, { on := 7, ground := Go.Ground.phase }, { on := 8, ground := Go.Ground.phase }, { on := 9, ground := Go.Ground.phase }], guard := none }) (v := ?_) rfl (by kernel_rfl) (by kernel_rfl) (by kernel_rfl) (fun _ _ _ h => h) (Or.inl ⟨by rfl, ?_⟩) (by assumption) ?_
              rotate_left 1
              focus ((intro wS hSw; (try dsimp only at hSw); go_simp) <;> (try with_reducible rfl))
              simp only [Act.put, List.setIfInBounds_toArray, List.set_cons_zero, List.set_cons_succ]
              refine wpAnyH_done (by kernel_rfl) ?_ _
              obtain ⟨q, hq⟩ : ∃ q, 0 + j + 0 = q := ⟨_, rfl⟩
              have O4 : Hid (y3.ownsRow wr.heap.size 38 2 v3 q (recCells (L.take j ++ L.drop (j + 1)))) := by
                show World.ownsRow _ _ _ _ _ _ _
                have := O3.out
                rw [hq, List.nil_append] at this
                exact this
              have QN : Hid (q ≤ 3) := by show _ ≤ _; have := HLL.out; have := HN.out; omega
              clear hq O3
              obtain ⟨va, vc, hv3, hvn, hvc, hvm, hvi, _⟩ := RecsIn.of_own O4.out
              subst hv3
              have E3' := Lib.hid (ER.out.below D3.out ER.out.lt)
              have X3' := Lib.hid (XR.out.below D3.out XR.out.lt)
              have H3' := Lib.hid (HR.out.below D3.out HR.out.lt)
              have B3' := Lib.hid (belT BR.out D3.out)
              have I3' := Lib.hid (IR.out.below D3.out)
              have MG := merge_any T nm pf lk md sz va q vc (L.take j ++ L.drop (j + 1)) y3 (HV.out.go B3'.out) (by have := ZZ.out; omega) (by have := ZZ.out; omega) (by have := ZZ.out; omega)
                (fun q hq => Nat.le_trans (HVL.out q (by
                  rw [List.mem_append] at hq
                  rcases hq with hq | hq
                  · exact List.mem_of_mem_take hq
                  · exact List.mem_of_mem_drop hq)) (by decide)) hvn.symm hvi (Nat.le_trans QN.out (by decide))
              have HMG := Lib.hid MG
              have c0 := H3'.out.get 0 rfl; have c1 := H3'.out.get 1 rfl; have c2 := H3'.out.get 2 rfl; have c3 := H3'.out.get 3 rfl; have c4 := H3'.out.get 4 rfl; have c5 := H3'.out.get 5 rfl
              clear MG hvn hvc hvm hvi
              go_wp2_with fail
              refine HMG.out.mono ?_; rintro e y4 ⟨x, E, rfl, hres, b4⟩
              have E4' := Lib.hid (E3'.out.below b4 E3'.out.lt)
              have X4' := Lib.hid (X3'.out.below b4 X3'.out.lt)
              have H4' := Lib.hid (H3'.out.below b4 H3'.out.lt)
              have I4' := Lib.hid (I3'.out.below b4)
              have D4' := Lib.hid (belT D3.out b4)
              obtain ⟨xk, xp, xm, xt, xs⟩ := x
              clear b4 c0 c1 c2 c3 c4 c5
              rcases hres with ⟨h1, h2, rfl⟩ | ⟨_, _, h3⟩
              · obtain ⟨hks, hs0⟩ := LESS.out j (Ke, Va) RJ.out h1
                rw [← h2] at hs0
                obtain rfl : Ke = kSize := hks
                obtain rfl : xs = 0 := hs0
                clear h1 h2
                go_wp2_with (first | (refine wpList_alloc_obj rfl 23 rfl (enV 0 emp 0 emp 0) EZ.out ?_; intro y5 g5 b5; have R5 := Lib.hid g5; have A5 := Lib.hid b5; clear g5 b5) | (refine wpList_store_obj rfl 23 _ _ rfl y4.heap.size rfl (enV xk xp xm xt _) (enV 0 emp 0 emp 0) rfl 23 R5.out EO.out.2 rfl (en_one _ _ _ _ _) ?_; intro y6 g6 t6; have A6 := Lib.hid (A5.out.trans (t6.below (Nat.le_refl _))); have f4 := g6.get 4 rfl; have E6' := Lib.hid (E4'.out.below A6.out E4'.out.lt); have X6' := Lib.hid (X4'.out.below A6.out X4'.out.lt); have H6' := Lib.hid (H4'.out.below A6.out H4'.out.lt); have D6' := Lib.hid (belT D4'.out A6.out); obtain ⟨_, _, e0, _, x0, x1⟩ := (I4'.out.below A6.out).get j _ RJ.out; cases e0; have q0 : y6.cell? ⟨B, o + j * 2, none⟩ = some (.string _) := x0; clear g6 t6 x0 x1))
                go_roundw
                case rel => first | exact ⟨j + 1, by go_num, by omega, E6'.out, X6'.out, H6'.out, belT D6.out D6'.out⟩ | ((repeat apply Exists.intro); exact ⟨⟨j + 1, by go_num, by omega, E6'.out, X6'.out, H6'.out, belT D6.out D6'.out⟩, rfl, rfl, rfl, rfl, rfl, rfl⟩)
                (try (case measure => first | (simp [intOf]; done) | (simp [intOf]; omega)))
              · have n0 : (E == 0) = false := by rw [h3]; split <;> rfl
                clear h3
                go_wp2_with (first | (refine wpList_alloc_obj rfl 23 rfl (enV 0 emp 0 emp 0) EZ.out ?_; intro y5 g5 b5; have R5 := Lib.hid g5; have A5 := Lib.hid b5; clear g5 b5) | (refine wpList_store_obj rfl 23 _ _ rfl y4.heap.size rfl (enV xk xp xm xt _) (enV 0 emp 0 emp 0) rfl 23 R5.out EO.out.2 rfl (en_one _ _ _ _ _) ?_; intro y6 g6 t6; have A6 := Lib.hid (A5.out.trans (t6.below (Nat.le_refl _))); have f4 := g6.get 4 rfl; have E6' := Lib.hid (E4'.out.below A6.out E4'.out.lt); have X6' := Lib.hid (X4'.out.below A6.out X4'.out.lt); have H6' := Lib.hid (H4'.out.below A6.out H4'.out.lt); have D6' := Lib.hid (belT D4'.out A6.out); obtain ⟨_, _, e0, _, x0, x1⟩ := (I4'.out.below A6.out).get j _ RJ.out; cases e0; have q0 : y6.cell? ⟨B, o + j * 2, none⟩ = some (.string _) := x0; clear g6 t6 x0 x1))
                go_roundw
                case rel => first | exact ⟨j + 1, by go_num, by omega, E6'.out, X6'.out, H6'.out, belT D6.out D6'.out⟩ | ((repeat apply Exists.intro); exact ⟨⟨j + 1, by go_num, by omega, E6'.out, X6'.out, H6'.out, belT D6.out D6'.out⟩, rfl, rfl, rfl, rfl, rfl, rfl⟩)
                (try (case measure => first | (simp [intOf]; done) | (simp [intOf]; omega)))
            · have j6 : ((j : Int) + 1) ≤ c := by omega
              refine wp_region_held_drew (S := (fun _ => True)) (by kernel_rfl) (trivial) (fun hHeld => ?_)
              refine wpAnyH_take (i := 1) (oi := { dst := some 45, op := Go.Op.move (Go.Operand.tmp 6), type := 28, pos := "law.go:76", after := #[], guard := none }) (v := ?_) rfl (by kernel_rfl) (by kernel_rfl) (by kernel_rfl) (fun _ _ _ h => h) (Or.inl ⟨by rfl, ?_⟩) (by assumption) ?_
              rotate_left 1
              focus ((intro wS hSw; (try dsimp only at hSw); go_simp) <;> (try with_reducible rfl))
              simp only [Act.put, List.setIfInBounds_toArray, List.set_cons_zero, List.set_cons_succ]
              refine wpAnyH_take (i := 2) (oi := { dst := some 46, op := Go.Op.move (Go.Operand.tmp 8), type := 3, pos := "law.go:76", after := #[], guard := none }) (v := ?_) rfl (by kernel_rfl) (by kernel_rfl) (by kernel_rfl) (fun _ _ _ h => h) (Or.inl ⟨by rfl, ?_⟩) (by assumption) ?_
              rotate_left 1
              focus ((intro wS hSw; (try dsimp only at hSw); go_simp) <;> (try with_reducible rfl))
              simp only [Act.put, List.setIfInBounds_toArray, List.set_cons_zero, List.set_cons_succ]
              refine wpAnyH_take (i := 3) (oi := { dst := some 47, op := Go.Op.slice 28 (Go.Operand.tmp 45) none (some (Go.Operand.tmp 46)) none, type := 28, pos := "law.go:76", after := #[{ on := 1, ground := Go.Ground.data }, { on := 2, ground := Go.Ground.data }], guard := none }) (v := ?_) rfl (by kernel_rfl) (by kernel_rfl) (by kernel_rfl) (fun _ _ _ h => h) (Or.inl ⟨by rfl, ?_⟩) (by assumption) ?_
              rotate_left 1
              focus ((intro wS hSw; (try dsimp only at hSw); go_simp) <;> (try with_reducible rfl))
              simp only [Act.put, List.setIfInBounds_toArray, List.set_cons_zero, List.set_cons_succ]
              refine wpAnyH_take (i := 5) (oi := { dst := some 49, op := Go.Op.move (Go.Operand.tmp 6), type := 28, pos := "law.go:76", after := #[], guard := none }) (v := ?_) rfl (by kernel_rfl) (by kernel_rfl) (by kernel_rfl) (fun _ _ _ h => h) (Or.inl ⟨by rfl, ?_⟩) (by assumption) ?_
              rotate_left 1
              focus ((intro wS hSw; (try dsimp only at hSw); go_simp) <;> (try with_reducible rfl))
              simp only [Act.put, List.setIfInBounds_toArray, List.set_cons_zero, List.set_cons_succ]
              refine wpAnyH_take (i := 6) (oi := { dst := some 50, op := Go.Op.move (Go.Operand.tmp 8), type := 3, pos := "law.go:76", after := #[], guard := none }) (v := ?_) rfl (by kernel_rfl) (by kernel_rfl) (by kernel_rfl) (fun _ _ _ h => h) (Or.inl ⟨by rfl, ?_⟩) (by assumption) ?_
              rotate_left 1
              focus ((intro wS hSw; (try dsimp only at hSw); go_simp) <;> (try with_reducible rfl))
              simp only [Act.put, List.setIfInBounds_toArray, List.set_cons_zero, List.set_cons_succ]
              refine wpAnyH_take (i := 7) (oi := { dst := some 51, op := Go.Op.binOp Go.BinOp.add 3 (Go.Operand.tmp 50) (Go.Operand.const (Go.Value.int Go.IntKind.i64 1)) 3, type := 3, pos := "law.go:76", after := #[{ on := 6, ground := Go.Ground.data }], guard := none }) (v := ?_) rfl (by kernel_rfl) (by kernel_rfl) (by kernel_rfl) (fun _ _ _ h => h) (Or.inl ⟨by rfl, ?_⟩) (by assumption) ?_
              rotate_left 1
              focus ((intro wS hSw; (try dsimp only at hSw); go_simp) <;> (try with_reducible rfl))
              simp only [Act.put, List.setIfInBounds_toArray, List.set_cons_zero, List.set_cons_succ]
              refine wpAnyH_take (i := 8) (oi := { dst := some 52, op := Go.Op.slice 28 (Go.Operand.tmp 49) (some (Go.Operand.tmp 51)) none none, type := 28, pos := "law.go:76", after := #[{ on := 5, ground := Go.Ground.data }, { on := 7, ground := Go.Ground.data }], guard := none }) (v := ?_) rfl (by kernel_rfl) (by kernel_rfl) (by kernel_rfl) (fun _ _ _ h => h) (Or.inl ⟨by rfl, ?_⟩) (by assumption) ?_
              rotate_left 1
              focus ((intro wS hSw; (try dsimp only at hSw); go_simp) <;> (try with_reducible rfl))
              simp only [Act.put, List.setIfInBounds_toArray, List.set_cons_zero, List.set_cons_succ]
              refine wpAnyH_ready (rs := [0]) (by kernel_rfl) (by simp) ?_
              refine AllReadyH.cons (o := { dst := some 44, op := Go.Op.buildSlice 28 0 #[], type := 28, pos := "law.go:76", after := #[], guard := none }) rfl (fun K hK => ?_) AllReadyH.nil
              refine step_lit_rec0 rfl 28 38 rfl HUnd.out _ hJ.out ?_
              intro y1 o1 b1
              have O1 : Hid (y1.ownsRow wr.heap.size 38 2 (.slice (some ⟨wr.heap.size, 0, none⟩) 0 0) 0 (recCells [])) := o1
              have D1 : Hid (Below wr.heap.size wr y1) := (Below.refl _ _).drew.trans b1
              clear o1 b1
              refine hK.out _ _ (trivial) (fun hHeld => ?_)
              clear hK K
              (try simp only [Act.put, List.setIfInBounds_toArray, List.set_cons_zero, List.set_cons_succ])
              refine wpAnyH_ready (rs := [4]) (by kernel_rfl) (by simp) ?_
              refine AllReadyH.cons (o := { dst := some 48, op := Go.Op.call { callee := Go.Callee.builtin Go.Builtin.append, args := #[Go.Operand.tmp 44, Go.Operand.tmp 47], argTypes := #[28, 28] }, type := 28, pos := "law.go:76", after := #[{ on := 0, ground := Go.Ground.data }, { on := 3, ground := Go.Ground.data }], guard := none }) rfl (fun K hK => ?_) AllReadyH.nil
              refine step_append_recs rfl (.tmp 44) (.tmp 47) 28 rfl wr.heap.size 38 i0 _ HUnd.out hI _ 0 [] rfl O1.out (some ⟨B, o, none⟩) j c (L.take j) rfl ((IR.out.below D1.out).take j) (by rw [List.length_take, HN.out]; omega) (by have := HLL.out; have := HN.out; omega) D1.out.size ?_
              intro v2 y2 o2 b2 _
              have O2 : Hid (y2.ownsRow wr.heap.size 38 2 v2 (0 + j) (recCells ([] ++ L.take j))) := o2
              have D2 : Hid (Below wr.heap.size wr y2) := D1.out.trans b2
              clear o2 b2
              refine hK.out _ _ (trivial) (fun hHeld => ?_)
              clear hK K
              (try simp only [Act.put, List.setIfInBounds_toArray, List.set_cons_zero, List.set_cons_succ])
              refine wpAnyH_ready (rs := [9]) (by kernel_rfl) (by simp) ?_
              refine AllReadyH.cons (o := { dst := some 53, op := Go.Op.call { callee := Go.Callee.builtin Go.Builtin.append, args := #[Go.Operand.tmp 48, Go.Operand.tmp 52], argTypes := #[28, 28] }, type := 28, pos := "law.go:76", after := #[{ on := 4, ground := Go.Ground.data }, { on := 8, ground := Go.Ground.data }, { on := 4, ground := Go.Ground.chain }], guard := none }) rfl (fun K hK => ?_) AllReadyH.nil
              refine step_append_recs rfl (.tmp 48) (.tmp 52) 28 rfl wr.heap.size 38 i0 _ HUnd.out hI _ (0 + j) ([] ++ L.take j) rfl O2.out (some ⟨B, o + (j + 1) * 2, none⟩) (n - (j + 1)) (c - (j + 1)) (L.drop (j + 1)) rfl (recs_drop (IR.out.below D2.out) (j + 1)) (by rw [List.length_drop, HN.out]) (by have := HLL.out; have := HN.out; omega) D2.out.size ?_
              intro v3 y3 o3 b3 _
              have O3 : Hid (y3.ownsRow wr.heap.size 38 2 v3 (0 + j + (n - (j + 1))) (recCells ([] ++ L.take j ++ L.drop (j + 1)))) := o3
              have D3 : Hid (Below wr.heap.size wr y3) := D2.out.trans b3
              clear o3 b3
              refine hK.out _ _ (trivial) (fun hHeld => ?_)
              clear hK K
              (try simp only [Act.put, List.setIfInBounds_toArray, List.set_cons_zero, List.set_cons_succ])
              refine wpAnyH_take (i := 10) (oi := { dst := some 9, op := Go.Op.assign (Go.Operand.tmp 53), type := 28, pos := "law.go:76", after := #[{ on := 9, ground := Go.Ground.data }, { on := 9, ground := Go.Ground.chain }, { on := 0, ground := Go.Ground.phase }, { on := 1, ground := Go.Ground.phase }, { on := 2, ground := Go.Ground.phase }, { on := 3, ground := Go.Ground.phase }, { on := 4, ground := Go.Ground.phase }, { on := 5, ground := Go.Ground.phase }, { on := 6, ground := Go.Ground.phase }, { on := 7, ground := Go.Ground.phase }, { on := 8, ground := Go.Ground.phase }, { on := 9, ground := Go.Ground.phase }], guard := none }) (v := ?_) rfl (by kernel_rfl) (by kernel_rfl) (by kernel_rfl) (fun _ _ _ h => h) (Or.inl ⟨by rfl, ?_⟩) (by assumption) ?_
              rotate_left 1
              focus ((intro wS hSw; (try dsimp only at hSw); go_simp) <;> (try with_reducible rfl))
              simp only [Act.put, List.setIfInBounds_toArray, List.set_cons_zero, List.set_cons_succ]
              refine wpAnyH_done (by kernel_rfl) ?_ _
              obtain ⟨q, hq⟩ : ∃ q, 0 + j + (n - (j + 1)) = q := ⟨_, rfl⟩
              have O4 : Hid (y3.ownsRow wr.heap.size 38 2 v3 q (recCells (L.take j ++ L.drop (j + 1)))) := by
                show World.ownsRow _ _ _ _ _ _ _
                have := O3.out
                rw [hq, List.nil_append] at this
                exact this
              have QN : Hid (q ≤ 3) := by show _ ≤ _; have := HLL.out; have := HN.out; omega
              clear hq O3
              obtain ⟨va, vc, hv3, hvn, hvc, hvm, hvi, _⟩ := RecsIn.of_own O4.out
              subst hv3
              have E3' := Lib.hid (ER.out.below D3.out ER.out.lt)
              have X3' := Lib.hid (XR.out.below D3.out XR.out.lt)
              have H3' := Lib.hid (HR.out.below D3.out HR.out.lt)
              have B3' := Lib.hid (belT BR.out D3.out)
              have I3' := Lib.hid (IR.out.below D3.out)
              have MG := merge_any T nm pf lk md sz va q vc (L.take j ++ L.drop (j + 1)) y3 (HV.out.go B3'.out) (by have := ZZ.out; omega) (by have := ZZ.out; omega) (by have := ZZ.out; omega)
                (fun q hq => Nat.le_trans (HVL.out q (by
                  rw [List.mem_append] at hq
                  rcases hq with hq | hq
                  · exact List.mem_of_mem_take hq
                  · exact List.mem_of_mem_drop hq)) (by decide)) hvn.symm hvi (Nat.le_trans QN.out (by decide))
              have HMG := Lib.hid MG
              have c0 := H3'.out.get 0 rfl; have c1 := H3'.out.get 1 rfl; have c2 := H3'.out.get 2 rfl; have c3 := H3'.out.get 3 rfl; have c4 := H3'.out.get 4 rfl; have c5 := H3'.out.get 5 rfl
              clear MG hvn hvc hvm hvi
              go_wp2_with fail
              refine HMG.out.mono ?_; rintro e y4 ⟨x, E, rfl, hres, b4⟩
              have E4' := Lib.hid (E3'.out.below b4 E3'.out.lt)
              have X4' := Lib.hid (X3'.out.below b4 X3'.out.lt)
              have H4' := Lib.hid (H3'.out.below b4 H3'.out.lt)
              have I4' := Lib.hid (I3'.out.below b4)
              have D4' := Lib.hid (belT D3.out b4)
              obtain ⟨xk, xp, xm, xt, xs⟩ := x
              clear b4 c0 c1 c2 c3 c4 c5
              rcases hres with ⟨h1, h2, rfl⟩ | ⟨_, _, h3⟩
              · obtain ⟨hks, hs0⟩ := LESS.out j (Ke, Va) RJ.out h1
                rw [← h2] at hs0
                obtain rfl : Ke = kSize := hks
                obtain rfl : xs = 0 := hs0
                clear h1 h2
                go_wp2_with (first | (refine wpList_alloc_obj rfl 23 rfl (enV 0 emp 0 emp 0) EZ.out ?_; intro y5 g5 b5; have R5 := Lib.hid g5; have A5 := Lib.hid b5; clear g5 b5) | (refine wpList_store_obj rfl 23 _ _ rfl y4.heap.size rfl (enV xk xp xm xt _) (enV 0 emp 0 emp 0) rfl 23 R5.out EO.out.2 rfl (en_one _ _ _ _ _) ?_; intro y6 g6 t6; have A6 := Lib.hid (A5.out.trans (t6.below (Nat.le_refl _))); have f4 := g6.get 4 rfl; have E6' := Lib.hid (E4'.out.below A6.out E4'.out.lt); have X6' := Lib.hid (X4'.out.below A6.out X4'.out.lt); have H6' := Lib.hid (H4'.out.below A6.out H4'.out.lt); have D6' := Lib.hid (belT D4'.out A6.out); obtain ⟨_, _, e0, _, x0, x1⟩ := (I4'.out.below A6.out).get j _ RJ.out; cases e0; have q0 : y6.cell? ⟨B, o + j * 2, none⟩ = some (.string _) := x0; clear g6 t6 x0 x1))
                go_roundw
                case rel => first | exact ⟨j + 1, by go_num, by omega, E6'.out, X6'.out, H6'.out, belT D6.out D6'.out⟩ | ((repeat apply Exists.intro); exact ⟨⟨j + 1, by go_num, by omega, E6'.out, X6'.out, H6'.out, belT D6.out D6'.out⟩, rfl, rfl, rfl, rfl, rfl, rfl⟩)
                (try (case measure => first | (simp [intOf]; done) | (simp [intOf]; omega)))
              · have n0 : (E == 0) = false := by rw [h3]; split <;> rfl
                clear h3
                go_wp2_with (first | (refine wpList_alloc_obj rfl 23 rfl (enV 0 emp 0 emp 0) EZ.out ?_; intro y5 g5 b5; have R5 := Lib.hid g5; have A5 := Lib.hid b5; clear g5 b5) | (refine wpList_store_obj rfl 23 _ _ rfl y4.heap.size rfl (enV xk xp xm xt _) (enV 0 emp 0 emp 0) rfl 23 R5.out EO.out.2 rfl (en_one _ _ _ _ _) ?_; intro y6 g6 t6; have A6 := Lib.hid (A5.out.trans (t6.below (Nat.le_refl _))); have f4 := g6.get 4 rfl; have E6' := Lib.hid (E4'.out.below A6.out E4'.out.lt); have X6' := Lib.hid (X4'.out.below A6.out X4'.out.lt); have H6' := Lib.hid (H4'.out.below A6.out H4'.out.lt); have D6' := Lib.hid (belT D4'.out A6.out); obtain ⟨_, _, e0, _, x0, x1⟩ := (I4'.out.below A6.out).get j _ RJ.out; cases e0; have q0 : y6.cell? ⟨B, o + j * 2, none⟩ = some (.string _) := x0; clear g6 t6 x0 x1))
                go_roundw
                case rel => first | exact ⟨j + 1, by go_num, by omega, E6'.out, X6'.out, H6'.out, belT D6.out D6'.out⟩ | ((repeat apply Exists.intro); exact ⟨⟨j + 1, by go_num, by omega, E6'.out, X6'.out, H6'.out, belT D6.out D6'.out⟩, rfl, rfl, rfl, rfl, rfl, rfl⟩)
                (try (case measure => first | (simp [intOf]; done) | (simp [intOf]; omega)))
          · obtain rfl : j = n := by omega
            have j1 : ¬ (j : Int) < j := by omega
            clear hjn LESS hj
            have c1 := ER.out.get 1 rfl; have c3 := ER.out.get 3 rfl; have c4 := ER.out.get 4 rfl
            have d2 := HR.out.get 2 rfl
            go_upto_region 12 with fail
            (try simp only [Act.put, List.setIfInBounds_toArray, List.set_cons_zero, List.set_cons_succ])
            go_cut [110] from 76 to 109 (fun s110 wx => s110 = .bool false ∧ Hid (Below wr.heap.size wr wx))
            case first =>
              by_cases hp1 : p.size ≤ 100
              · obtain rfl : pf = emp := SPF.out hp1
                by_cases ht1 : t.size ≤ 100
                · by_cases hs1 : s ≤ 8589934591
                  · have hn0 : j = 0 := by
                      have e := NIL.out.2 ⟨.inl hp1, ht1, hs1⟩
                      have := HN.out
                      rw [e] at this; simpa using this.symm
                    have hz : ((j : Int) == 0) = true := by simp; exact hn0
                    have p1 : (p.size : Int) ≤ 100 := by omega
                    have t1 : (t.size : Int) ≤ 100 := by omega
                    clear hn0
                    go_wp2_with fail
                    go_meet
                    exact ⟨rfl, Below.refl _ _⟩
                  · have hn0 : ¬ j = 0 := fun h => by
                      have e : L = [] := List.length_eq_zero_iff.1 (by rw [HN.out]; exact h)
                      have := NIL.out.1 e
                      exact hs1 this.2.2
                    have hz : ((j : Int) == 0) = false := by simp; exact hn0
                    have p1 : (p.size : Int) ≤ 100 := by omega
                    have t1 : (t.size : Int) ≤ 100 := by omega
                    clear hn0
                    go_wp2_with fail
                    go_meet
                    exact ⟨rfl, Below.refl _ _⟩
                · have hn0 : ¬ j = 0 := fun h => by
                    have e : L = [] := List.length_eq_zero_iff.1 (by rw [HN.out]; exact h)
                    have := NIL.out.1 e
                    exact ht1 this.2.1
                  have hz : ((j : Int) == 0) = false := by simp; exact hn0
                  have p1 : (p.size : Int) ≤ 100 := by omega
                  have t1 : ¬ (t.size : Int) ≤ 100 := by omega
                  clear hn0
                  go_wp2_with fail
                  go_meet
                  exact ⟨rfl, Below.refl _ _⟩
              · by_cases hpf : pf = emp
                · subst hpf
                  have hn0 : ¬ j = 0 := fun h => by
                    have e : L = [] := List.length_eq_zero_iff.1 (by rw [HN.out]; exact h)
                    have := NIL.out.1 e
                    rcases this.1 with h | h
                    · exact hp1 h
                    · exact h rfl
                  have hz : ((j : Int) == 0) = false := by simp; exact hn0
                  have p1 : ¬ (p.size : Int) ≤ 100 := by omega
                  clear hn0
                  go_wp2_with fail
                  go_meet
                  exact ⟨rfl, Below.refl _ _⟩
                · have he : pf.toList.isEmpty = false := empty_no hpf
                  by_cases ht1 : t.size ≤ 100
                  · by_cases hs1 : s ≤ 8589934591
                    · have hn0 : j = 0 := by
                        have e := NIL.out.2 ⟨.inr hpf, ht1, hs1⟩
                        have := HN.out
                        rw [e] at this; simpa using this.symm
                      have hz : ((j : Int) == 0) = true := by simp; exact hn0
                      have p1 : ¬ (p.size : Int) ≤ 100 := by omega
                      have t1 : (t.size : Int) ≤ 100 := by omega
                      clear hn0
                      go_wp2_with fail
                      go_meet
                      exact ⟨rfl, Below.refl _ _⟩
                    · have hn0 : ¬ j = 0 := fun h => by
                        have e : L = [] := List.length_eq_zero_iff.1 (by rw [HN.out]; exact h)
                        have := NIL.out.1 e
                        exact hs1 this.2.2
                      have hz : ((j : Int) == 0) = false := by simp; exact hn0
                      have p1 : ¬ (p.size : Int) ≤ 100 := by omega
                      have t1 : (t.size : Int) ≤ 100 := by omega
                      clear hn0
                      go_wp2_with fail
                      go_meet
                      exact ⟨rfl, Below.refl _ _⟩
                  · have hn0 : ¬ j = 0 := fun h => by
                      have e : L = [] := List.length_eq_zero_iff.1 (by rw [HN.out]; exact h)
                      have := NIL.out.1 e
                      exact ht1 this.2.1
                    have hz : ((j : Int) == 0) = false := by simp; exact hn0
                    have p1 : ¬ (p.size : Int) ≤ 100 := by omega
                    have t1 : ¬ (t.size : Int) ≤ 100 := by omega
                    clear hn0
                    go_wp2_with fail
                    go_meet
                    exact ⟨rfl, Below.refl _ _⟩
            case rest =>
              obtain ⟨rfl, hbw⟩ := hcut
              obtain ⟨wz, hwz⟩ : ∃ wz : World, wz = wc := ⟨wc, rfl⟩
              subst hwz
              have EZ_ := Lib.hid (ER.out.below hbw.out ER.out.lt)
              have XZ := Lib.hid (XR.out.below hbw.out XR.out.lt)
              have HZ_ := Lib.hid (HR.out.below hbw.out HR.out.lt)
              have BZ := Lib.hid (belT BR.out hbw.out)
              have IZ := Lib.hid (IR.out.below hbw.out)
              clear hbw c1 c3 c4 d2 NIL SPF
              go_upto_region 14 with fail
              have D14 : Hid (Below wz.heap.size wz wz.drew) := (Below.refl _ _).drew
              have KS14 : Hid (∀ w', Below wz.heap.size wz w' → (fun w' : World => w'.cell? ⟨w1.heap.size, 0, none⟩ = some (.string XK) ∧ w'.cell? ⟨w1.heap.size, 1, none⟩ = some (.string XV)) w') := fun w' hb => ⟨(XZ.out.below hb XZ.out.lt).get 0 rfl, (XZ.out.below hb XZ.out.lt).get 1 rfl⟩
              (try simp only [Act.put, List.setIfInBounds_toArray, List.set_cons_zero, List.set_cons_succ])
              go_cut [12] from 111 to 116 (fun s12 wx => ∃ (va : Option Addr) (vc : Nat), s12 = .slice va (j + 1) vc ∧ RecsIn wx va (L ++ [(XK, XV)]) ∧ Below wz.heap.size wz wx)
              case first =>
                refine wp_region_held_drew (S := (fun w' : World => w'.cell? ⟨w1.heap.size, 0, none⟩ = some (.string XK) ∧ w'.cell? ⟨w1.heap.size, 1, none⟩ = some (.string XV))) (by kernel_rfl) (KS14.out _ D14.out) (fun hHeld => ?_)
                refine wpAnyH_take (i := 1) (oi := { dst := some 112, op := Go.Op.move (Go.Operand.tmp 6), type := 28, pos := "law.go:84", after := #[], guard := none }) (v := ?_) rfl (by kernel_rfl) (by kernel_rfl) (by kernel_rfl) (fun _ _ _ h => h) (Or.inl ⟨by rfl, ?_⟩) (by assumption) ?_
                rotate_left 1
                focus ((intro wS hSw; (try dsimp only at hSw); go_simp) <;> (try with_reducible rfl))
                simp only [Act.put, List.setIfInBounds_toArray, List.set_cons_zero, List.set_cons_succ]
                refine wpAnyH_take (i := 3) (oi := { dst := some 114, op := Go.Op.load 38 (Go.Operand.tmp 3), type := 38, pos := "law.go:84", after := #[], guard := none }) (v := ?_) rfl (by kernel_rfl) (by kernel_rfl) (by kernel_rfl) (fun _ _ _ h => h) (Or.inl ⟨by rfl, ?_⟩) (by assumption) ?_
                rotate_left 1
                focus ((intro wS hSw; (try dsimp only at hSw); go_simp) <;> (try with_reducible rfl))
                simp only [Act.put, List.setIfInBounds_toArray, List.set_cons_zero, List.set_cons_succ]
                refine wpAnyH_ready (rs := [0, 4]) (by kernel_rfl) (by simp) ?_
                refine AllReadyH.cons (o := { dst := some 111, op := Go.Op.buildSlice 28 0 #[], type := 28, pos := "law.go:84", after := #[], guard := none }) rfl (fun K hK => ?_) (AllReadyH.cons (o := { dst := some 115, op := Go.Op.buildSlice 28 1 #[(0, Go.Operand.tmp 114)], type := 28, pos := "law.go:84", after := #[{ on := 3, ground := Go.Ground.data }], guard := none }) rfl (fun K hK => ?_) AllReadyH.nil)
                · refine step_lit_rec0 rfl 28 38 rfl HUnd.out _ hJ.out ?_
                  intro z21 o21 b21
                  have O21 : Hid (z21.ownsRow wz.heap.size 38 2 (.slice (some ⟨wz.heap.size, 0, none⟩) 0 0) 0 (recCells [])) := own_base2 o21 (D14.out.size)
                  have D21 : Hid (Below wz.heap.size wz z21) := D14.out.trans (b21.mono D14.out.size)
                  have SO21 : Hid (wz.heap.size < z21.heap.size) := by
                    rcases o21.2 with ⟨h, _⟩ | ⟨g, _, _, hv, _, hh, _⟩
                    · cases h
                    · cases hv; exact (Array.getElem?_eq_some_iff.1 hh).1
                  clear o21 b21
                  refine hK.out _ _ (KS14.out _ D21.out) (fun hHeld => ?_)
                  clear hK K
                  (try simp only [Act.put, List.setIfInBounds_toArray, List.set_cons_zero, List.set_cons_succ])
                  refine wpAnyH_ready (rs := [2, 4]) (by kernel_rfl) (by simp) ?_
                  refine AllReadyH.cons (o := { dst := some 113, op := Go.Op.call { callee := Go.Callee.builtin Go.Builtin.append, args := #[Go.Operand.tmp 111, Go.Operand.tmp 112], argTypes := #[28, 28] }, type := 28, pos := "law.go:84", after := #[{ on := 0, ground := Go.Ground.data }, { on := 1, ground := Go.Ground.data }], guard := none }) rfl (fun K hK => ?_) (AllReadyH.cons (o := { dst := some 115, op := Go.Op.buildSlice 28 1 #[(0, Go.Operand.tmp 114)], type := 28, pos := "law.go:84", after := #[{ on := 3, ground := Go.Ground.data }], guard := none }) rfl (fun K hK => ?_) AllReadyH.nil)
                  · refine step_append_recs rfl (.tmp 111) (.tmp 112) 28 rfl wz.heap.size 38 i0 _ HUnd.out hI (.slice (some ⟨wz.heap.size, 0, none⟩) 0 0) 0 [] rfl O21.out b j c L rfl (IZ.out.below D21.out) HN.out (by have := HLL.out; have := HN.out; omega) D21.out.size ?_
                    intro v22 z22 o22 b22 k22
                    have O22 : Hid (z22.ownsRow wz.heap.size 38 2 v22 (0 + j) (recCells ([] ++ L))) := o22
                    have D22 : Hid (Below wz.heap.size wz z22) := D21.out.trans b22
                    clear o22 b22 k22
                    refine hK.out _ _ (KS14.out _ D22.out) (fun hHeld => ?_)
                    clear hK K
                    (try simp only [Act.put, List.setIfInBounds_toArray, List.set_cons_zero, List.set_cons_succ])
                    refine wpAnyH_ready (rs := [4]) (by kernel_rfl) (by simp) ?_
                    refine AllReadyH.cons (o := { dst := some 115, op := Go.Op.buildSlice 28 1 #[(0, Go.Operand.tmp 114)], type := 28, pos := "law.go:84", after := #[{ on := 3, ground := Go.Ground.data }], guard := none }) rfl (fun K hK => ?_) AllReadyH.nil
                    · refine step_lit_rec1 rfl 28 38 (.tmp 114) rfl HUnd.out _ hJ.out (XK, XV) rfl ?_
                      intro z23 l23 b23
                      have L23 : Hid (RecsIn z23 (some ⟨z22.heap.size, 0, none⟩) [(XK, XV)]) := l23
                      have D23 : Hid (Below wz.heap.size wz z23) := D22.out.trans (b23.mono D22.out.size)
                      have O23 := Lib.hid (own_stay O22.out b23 (Nat.le_refl _))
                      have S23 : Hid (z22.heap.size < z23.heap.size) := by
                        rcases l23 with h | ⟨_, _, h1, h2, _⟩
                        · cases h
                        · cases h1; exact h2
                      clear l23 b23
                      refine hK.out _ _ (KS14.out _ D23.out) (fun hHeld => ?_)
                      clear hK K
                      (try simp only [Act.put, List.setIfInBounds_toArray, List.set_cons_zero, List.set_cons_succ])
                      refine wpAnyH_ready (rs := [5]) (by kernel_rfl) (by simp) ?_
                      refine AllReadyH.cons (o := { dst := some 116, op := Go.Op.call { callee := Go.Callee.builtin Go.Builtin.append, args := #[Go.Operand.tmp 113, Go.Operand.tmp 115], argTypes := #[28, 28] }, type := 28, pos := "law.go:84", after := #[{ on := 2, ground := Go.Ground.data }, { on := 4, ground := Go.Ground.data }, { on := 2, ground := Go.Ground.chain }], guard := none }) rfl (fun K hK => ?_) AllReadyH.nil
                      · refine step_append_recs rfl (.tmp 113) (.tmp 115) 28 rfl wz.heap.size 38 i0 _ HUnd.out hI _ (0 + j) ([] ++ L) rfl O23.out (some ⟨z22.heap.size, 0, none⟩) 1 1 [(XK, XV)] rfl L23.out rfl (by have := HLL.out; have := HN.out; omega) D23.out.size ?_
                        intro v24 z24 o24 b24 _
                        have O24 : Hid (z24.ownsRow wz.heap.size 38 2 v24 (j + 1) (recCells (L ++ [(XK, XV)]))) := by
                          show World.ownsRow _ _ _ _ _ _ _
                          rw [Nat.zero_add, List.nil_append] at o24
                          exact o24
                        have D24 : Hid (Below wz.heap.size wz z24) := D23.out.trans b24
                        clear o24 b24
                        refine hK.out _ _ (KS14.out _ D24.out) (fun hHeld => ?_)
                        clear hK K
                        (try simp only [Act.put, List.setIfInBounds_toArray, List.set_cons_zero, List.set_cons_succ])
                        refine wpAnyH_take (i := 6) (oi := { dst := some 12, op := Go.Op.assign (Go.Operand.tmp 116), type := 28, pos := "law.go:84", after := #[{ on := 5, ground := Go.Ground.data }, { on := 5, ground := Go.Ground.chain }, { on := 0, ground := Go.Ground.phase }, { on := 1, ground := Go.Ground.phase }, { on := 2, ground := Go.Ground.phase }, { on := 3, ground := Go.Ground.phase }, { on := 4, ground := Go.Ground.phase }, { on := 5, ground := Go.Ground.phase }], guard := none }) (v := ?_) rfl (by kernel_rfl) (by kernel_rfl) (by kernel_rfl) (fun _ _ _ h => h) (Or.inl ⟨by rfl, ?_⟩) (by assumption) ?_
                        rotate_left 1
                        focus ((intro wS hSw; (try dsimp only at hSw); go_simp) <;> (try with_reducible rfl))
                        simp only [Act.put, List.setIfInBounds_toArray, List.set_cons_zero, List.set_cons_succ]
                        refine wpAnyH_done (by kernel_rfl) ?_ _
                        go_wp2_with fail
                        go_meet
                        obtain ⟨va, vc, hva, _, _, _, hvi, _⟩ := RecsIn.of_own O24.out
                        exact ⟨va, vc, by rw [hva], hvi, D24.out⟩
                      
                    
                  · refine step_lit_rec1 rfl 28 38 (.tmp 114) rfl HUnd.out _ hJ.out (XK, XV) rfl ?_
                    intro z25 l25 b25
                    have L25 : Hid (RecsIn z25 (some ⟨z21.heap.size, 0, none⟩) [(XK, XV)]) := l25
                    have D25 : Hid (Below wz.heap.size wz z25) := D21.out.trans (b25.mono D21.out.size)
                    have O25 := Lib.hid (own_stay O21.out b25 (Nat.le_refl _))
                    have G25 : Hid (z21.heap.size ≠ wz.heap.size) := Nat.ne_of_gt SO21.out
                    have S25 : Hid (z21.heap.size < z25.heap.size) := by
                      rcases l25 with h | ⟨_, _, h1, h2, _⟩
                      · cases h
                      · cases h1; exact h2
                    clear l25 b25
                    refine hK.out _ _ (KS14.out _ D25.out) (fun hHeld => ?_)
                    clear hK K
                    (try simp only [Act.put, List.setIfInBounds_toArray, List.set_cons_zero, List.set_cons_succ])
                    refine wpAnyH_ready (rs := [2]) (by kernel_rfl) (by simp) ?_
                    refine AllReadyH.cons (o := { dst := some 113, op := Go.Op.call { callee := Go.Callee.builtin Go.Builtin.append, args := #[Go.Operand.tmp 111, Go.Operand.tmp 112], argTypes := #[28, 28] }, type := 28, pos := "law.go:84", after := #[{ on := 0, ground := Go.Ground.data }, { on := 1, ground := Go.Ground.data }], guard := none }) rfl (fun K hK => ?_) AllReadyH.nil
                    · refine step_append_recs rfl (.tmp 111) (.tmp 112) 28 rfl wz.heap.size 38 i0 _ HUnd.out hI (.slice (some ⟨wz.heap.size, 0, none⟩) 0 0) 0 [] rfl O25.out b j c L rfl (IZ.out.below D25.out) HN.out (by have := HLL.out; have := HN.out; omega) D25.out.size ?_
                      intro v26 z26 o26 b26 k26
                      have O26 : Hid (z26.ownsRow wz.heap.size 38 2 v26 (0 + j) (recCells ([] ++ L))) := o26
                      have D26 : Hid (Below wz.heap.size wz z26) := D25.out.trans b26
                      have L26 : Hid (RecsIn z26 (some ⟨z21.heap.size, 0, none⟩) [(XK, XV)]) := L25.out.blk (k26 _ S25.out (fun e => G25.out (by simpa [Value.ownBlock] using e))) b26.size
                      clear o26 b26 k26
                      refine hK.out _ _ (KS14.out _ D26.out) (fun hHeld => ?_)
                      clear hK K
                      (try simp only [Act.put, List.setIfInBounds_toArray, List.set_cons_zero, List.set_cons_succ])
                      refine wpAnyH_ready (rs := [5]) (by kernel_rfl) (by simp) ?_
                      refine AllReadyH.cons (o := { dst := some 116, op := Go.Op.call { callee := Go.Callee.builtin Go.Builtin.append, args := #[Go.Operand.tmp 113, Go.Operand.tmp 115], argTypes := #[28, 28] }, type := 28, pos := "law.go:84", after := #[{ on := 2, ground := Go.Ground.data }, { on := 4, ground := Go.Ground.data }, { on := 2, ground := Go.Ground.chain }], guard := none }) rfl (fun K hK => ?_) AllReadyH.nil
                      · refine step_append_recs rfl (.tmp 113) (.tmp 115) 28 rfl wz.heap.size 38 i0 _ HUnd.out hI _ (0 + j) ([] ++ L) rfl O26.out (some ⟨z21.heap.size, 0, none⟩) 1 1 [(XK, XV)] rfl L26.out rfl (by have := HLL.out; have := HN.out; omega) D26.out.size ?_
                        intro v27 z27 o27 b27 _
                        have O27 : Hid (z27.ownsRow wz.heap.size 38 2 v27 (j + 1) (recCells (L ++ [(XK, XV)]))) := by
                          show World.ownsRow _ _ _ _ _ _ _
                          rw [Nat.zero_add, List.nil_append] at o27
                          exact o27
                        have D27 : Hid (Below wz.heap.size wz z27) := D26.out.trans b27
                        clear o27 b27
                        refine hK.out _ _ (KS14.out _ D27.out) (fun hHeld => ?_)
                        clear hK K
                        (try simp only [Act.put, List.setIfInBounds_toArray, List.set_cons_zero, List.set_cons_succ])
                        refine wpAnyH_take (i := 6) (oi := { dst := some 12, op := Go.Op.assign (Go.Operand.tmp 116), type := 28, pos := "law.go:84", after := #[{ on := 5, ground := Go.Ground.data }, { on := 5, ground := Go.Ground.chain }, { on := 0, ground := Go.Ground.phase }, { on := 1, ground := Go.Ground.phase }, { on := 2, ground := Go.Ground.phase }, { on := 3, ground := Go.Ground.phase }, { on := 4, ground := Go.Ground.phase }, { on := 5, ground := Go.Ground.phase }], guard := none }) (v := ?_) rfl (by kernel_rfl) (by kernel_rfl) (by kernel_rfl) (fun _ _ _ h => h) (Or.inl ⟨by rfl, ?_⟩) (by assumption) ?_
                        rotate_left 1
                        focus ((intro wS hSw; (try dsimp only at hSw); go_simp) <;> (try with_reducible rfl))
                        simp only [Act.put, List.setIfInBounds_toArray, List.set_cons_zero, List.set_cons_succ]
                        refine wpAnyH_done (by kernel_rfl) ?_ _
                        go_wp2_with fail
                        go_meet
                        obtain ⟨va, vc, hva, _, _, _, hvi, _⟩ := RecsIn.of_own O27.out
                        exact ⟨va, vc, by rw [hva], hvi, D27.out⟩
                      
                    
                  
                · refine step_lit_rec1 rfl 28 38 (.tmp 114) rfl HUnd.out _ hJ.out (XK, XV) rfl ?_
                  intro z28 l28 b28
                  have L28 : Hid (RecsIn z28 (some ⟨wz.heap.size, 0, none⟩) [(XK, XV)]) := l28
                  have D28 : Hid (Below wz.heap.size wz z28) := D14.out.trans (b28.mono D14.out.size)
                  have S28 : Hid (wz.heap.size < z28.heap.size) := by
                    rcases l28 with h | ⟨_, _, h1, h2, _⟩
                    · cases h
                    · cases h1; exact h2
                  clear l28 b28
                  refine hK.out _ _ (KS14.out _ D28.out) (fun hHeld => ?_)
                  clear hK K
                  (try simp only [Act.put, List.setIfInBounds_toArray, List.set_cons_zero, List.set_cons_succ])
                  refine wpAnyH_ready (rs := [0]) (by kernel_rfl) (by simp) ?_
                  refine AllReadyH.cons (o := { dst := some 111, op := Go.Op.buildSlice 28 0 #[], type := 28, pos := "law.go:84", after := #[], guard := none }) rfl (fun K hK => ?_) AllReadyH.nil
                  · refine step_lit_rec0 rfl 28 38 rfl HUnd.out _ hJ.out ?_
                    intro z29 o29 b29
                    have O29 : Hid (z29.ownsRow wz.heap.size 38 2 (.slice (some ⟨z28.heap.size, 0, none⟩) 0 0) 0 (recCells [])) := own_base2 o29 (D28.out.size)
                    have D29 : Hid (Below wz.heap.size wz z29) := D28.out.trans (b29.mono D28.out.size)
                    have L29 : Hid (RecsIn z29 (some ⟨wz.heap.size, 0, none⟩) [(XK, XV)]) := L28.out.below b29
                    have G29 : Hid (wz.heap.size ≠ z28.heap.size ∧ wz.heap.size < z29.heap.size) := ⟨Nat.ne_of_lt S28.out, Nat.lt_of_lt_of_le S28.out b29.size⟩
                    have SO29 : Hid (z28.heap.size < z29.heap.size) := by
                      rcases o29.2 with ⟨h, _⟩ | ⟨g, _, _, hv, _, hh, _⟩
                      · cases h
                      · cases hv; exact (Array.getElem?_eq_some_iff.1 hh).1
                    clear o29 b29
                    refine hK.out _ _ (KS14.out _ D29.out) (fun hHeld => ?_)
                    clear hK K
                    (try simp only [Act.put, List.setIfInBounds_toArray, List.set_cons_zero, List.set_cons_succ])
                    refine wpAnyH_ready (rs := [2]) (by kernel_rfl) (by simp) ?_
                    refine AllReadyH.cons (o := { dst := some 113, op := Go.Op.call { callee := Go.Callee.builtin Go.Builtin.append, args := #[Go.Operand.tmp 111, Go.Operand.tmp 112], argTypes := #[28, 28] }, type := 28, pos := "law.go:84", after := #[{ on := 0, ground := Go.Ground.data }, { on := 1, ground := Go.Ground.data }], guard := none }) rfl (fun K hK => ?_) AllReadyH.nil
                    · refine step_append_recs rfl (.tmp 111) (.tmp 112) 28 rfl wz.heap.size 38 i0 _ HUnd.out hI (.slice (some ⟨z28.heap.size, 0, none⟩) 0 0) 0 [] rfl O29.out b j c L rfl (IZ.out.below D29.out) HN.out (by have := HLL.out; have := HN.out; omega) D29.out.size ?_
                      intro v30 z30 o30 b30 k30
                      have O30 : Hid (z30.ownsRow wz.heap.size 38 2 v30 (0 + j) (recCells ([] ++ L))) := o30
                      have D30 : Hid (Below wz.heap.size wz z30) := D29.out.trans b30
                      have L30 : Hid (RecsIn z30 (some ⟨wz.heap.size, 0, none⟩) [(XK, XV)]) := L29.out.blk (k30 _ G29.out.2 (fun e => G29.out.1 (by simpa [Value.ownBlock] using e))) b30.size
                      clear o30 b30 k30
                      refine hK.out _ _ (KS14.out _ D30.out) (fun hHeld => ?_)
                      clear hK K
                      (try simp only [Act.put, List.setIfInBounds_toArray, List.set_cons_zero, List.set_cons_succ])
                      refine wpAnyH_ready (rs := [5]) (by kernel_rfl) (by simp) ?_
                      refine AllReadyH.cons (o := { dst := some 116, op := Go.Op.call { callee := Go.Callee.builtin Go.Builtin.append, args := #[Go.Operand.tmp 113, Go.Operand.tmp 115], argTypes := #[28, 28] }, type := 28, pos := "law.go:84", after := #[{ on := 2, ground := Go.Ground.data }, { on := 4, ground := Go.Ground.data }, { on := 2, ground := Go.Ground.chain }], guard := none }) rfl (fun K hK => ?_) AllReadyH.nil
                      · refine step_append_recs rfl (.tmp 113) (.tmp 115) 28 rfl wz.heap.size 38 i0 _ HUnd.out hI _ (0 + j) ([] ++ L) rfl O30.out (some ⟨wz.heap.size, 0, none⟩) 1 1 [(XK, XV)] rfl L30.out rfl (by have := HLL.out; have := HN.out; omega) D30.out.size ?_
                        intro v31 z31 o31 b31 _
                        have O31 : Hid (z31.ownsRow wz.heap.size 38 2 v31 (j + 1) (recCells (L ++ [(XK, XV)]))) := by
                          show World.ownsRow _ _ _ _ _ _ _
                          rw [Nat.zero_add, List.nil_append] at o31
                          exact o31
                        have D31 : Hid (Below wz.heap.size wz z31) := D30.out.trans b31
                        clear o31 b31
                        refine hK.out _ _ (KS14.out _ D31.out) (fun hHeld => ?_)
                        clear hK K
                        (try simp only [Act.put, List.setIfInBounds_toArray, List.set_cons_zero, List.set_cons_succ])
                        refine wpAnyH_take (i := 6) (oi := { dst := some 12, op := Go.Op.assign (Go.Operand.tmp 116), type := 28, pos := "law.go:84", after := #[{ on := 5, ground := Go.Ground.data }, { on := 5, ground := Go.Ground.chain }, { on := 0, ground := Go.Ground.phase }, { on := 1, ground := Go.Ground.phase }, { on := 2, ground := Go.Ground.phase }, { on := 3, ground := Go.Ground.phase }, { on := 4, ground := Go.Ground.phase }, { on := 5, ground := Go.Ground.phase }], guard := none }) (v := ?_) rfl (by kernel_rfl) (by kernel_rfl) (by kernel_rfl) (fun _ _ _ h => h) (Or.inl ⟨by rfl, ?_⟩) (by assumption) ?_
                        rotate_left 1
                        focus ((intro wS hSw; (try dsimp only at hSw); go_simp) <;> (try with_reducible rfl))
                        simp only [Act.put, List.setIfInBounds_toArray, List.set_cons_zero, List.set_cons_succ]
                        refine wpAnyH_done (by kernel_rfl) ?_ _
                        go_wp2_with fail
                        go_meet
                        obtain ⟨va, vc, hva, _, _, _, hvi, _⟩ := RecsIn.of_own O31.out
                        exact ⟨va, vc, by rw [hva], hvi, D31.out⟩
                      
                    
                  
              case rest =>
                obtain ⟨va, vc, rfl, hvi, hb'⟩ := hcut
                have EC := Lib.hid (EZ_.out.below hb' EZ_.out.lt)
                have XC := Lib.hid (XZ.out.below hb' XZ.out.lt)
                have HCc := Lib.hid (HZ_.out.below hb' HZ_.out.lt)
                have BC := Lib.hid (belT BZ.out hb')
                have IC := Lib.hid hvi
                clear hb' hvi KS14 D14
                have d0 := HCc.out.get 0 rfl; have d1 := HCc.out.get 1 rfl; have d2 := HCc.out.get 2 rfl; have d3 := HCc.out.get 3 rfl; have d4 := HCc.out.get 4 rfl; have d5 := HCc.out.get 5 rfl
                have HMG := Lib.hid (merge_any T nm pf lk md sz va (j + 1) vc (L ++ [(XK, XV)]) wc (HV.out.go BC.out) (by have := ZZ.out; omega) (by have := ZZ.out; omega) (by have := ZZ.out; omega)
                  (fun q hq => by
                    rw [List.mem_append, List.mem_singleton] at hq
                    rcases hq with hq | rfl
                    · exact Nat.le_trans (HVL.out q hq) (by decide)
                    · exact Nat.le_trans hxv (by decide)) (by rw [List.length_append, HN.out]; rfl) IC.out (by have := HLL.out; have := HN.out; omega))
                go_wp2_with fail
                refine HMG.out.mono ?_; rintro e y4 ⟨x, E, rfl, hres, b4⟩
                have X4' := Lib.hid (XC.out.below b4 XC.out.lt)
                have B4' := Lib.hid (belT BC.out b4)
                obtain ⟨xk, xp, xm, xt, xs⟩ := x
                clear b4 d0 d1 d2 d3 d4 d5 HMG
                go_wp2_with (first | (refine wpList_alloc_obj rfl 23 rfl (enV 0 emp 0 emp 0) EZ.out ?_; intro y5 g5 b5; have R5 := Lib.hid g5; have A5 := Lib.hid b5; clear g5 b5) | (refine wpList_store_obj rfl 23 _ _ rfl y4.heap.size rfl (enV xk xp xm xt xs) (enV 0 emp 0 emp 0) rfl 23 R5.out EO.out.2 rfl (en_one _ _ _ _ _) ?_; intro y6 g6 t6; have F6 := Lib.hid g6; have A6 := Lib.hid (A5.out.trans (t6.below (Nat.le_refl _))); have X6' := Lib.hid (X4'.out.below A6.out X4'.out.lt); have B6' := Lib.hid (belT B4'.out A6.out); clear g6 t6))
                refine (AL.out _ B6'.out).mono ?_; rintro e y7 ⟨rfl, b7⟩
                have B7' := Lib.hid (belT B6'.out b7)
                have f4 := (F6.out.below b7 F6.out.lt).get 4 rfl
                have q0 := (X6'.out.below b7 X6'.out.lt).get 0 rfl
                clear b7
                rcases hres with ⟨h1, h2, rfl⟩ | ⟨_, _, h3⟩
                · obtain ⟨hks, hs0⟩ := MORE.out (XK, XV) h1
                  rw [← h2] at hs0
                  have hs1 : (8589934591 : Int) < xs := hs0
                  obtain rfl : XK = kSize := hks
                  clear h1 h2 hs0
                  go_wp2
                  go_ret
                  exact ⟨rfl, B7'.out⟩
                · rw [if_neg (by simp)] at h3
                  subst h3
                  go_wp2
                  go_ret
                  exact ⟨rfl, B7'.out⟩
    · go_wp2_with fail
      refine (AL.out _ B6.out).mono ?_; rintro e w7 ⟨rfl, b7⟩
      have B7 := Lib.hid (belT B6.out b7)
      clear b7
      go_wp2
      go_ret
      exact ⟨rfl, B7.out⟩
  · obtain ⟨e2, e3⟩ := pl_bad_eq hE
    rw [e2, e3] at PL
    obtain ⟨E, hEn⟩ := named (ckE ⟨k, p, m, t, s⟩)
    rw [← hEn.out] at PL
    have n0 : (E != 0) = true := by rw [hEn.out]; simpa using hE
    clear hEn hE e2 e3 V hp ht hxk hxv
    go_enter Tryd.func6, Tryd.ntmps6
    go_wp2_with (first | (refine wpList_box_obj rfl 23 (.tmp 0) rfl (enV k p m t s) rfl ?_; intro w1 g1 b1; have E1 := Lib.hid g1; have B1 := Lib.hid b1; clear g1 b1) | (refine wpList_box_obj rfl 38 (.tmp 1) rfl [.string XK, .string XV] rfl ?_; intro w2 g2 b2; have X2 := Lib.hid g2; have E2 := Lib.hid (E1.out.below b2 E1.out.lt); have B2 := Lib.hid (belT B1.out b2); have c0 := E2.out.get 0 rfl; have c1 := E2.out.get 1 rfl; have c2 := E2.out.get 2 rfl; have c3 := E2.out.get 3 rfl; have c4 := E2.out.get 4 rfl; clear g2 b2))
    refine (PL.out w2 B2.out).mono ?_; rintro e w3 ⟨b, n, c, rfl, hn, hc, hm, hR, b3⟩
    have E3 := Lib.hid (E2.out.below b3 E2.out.lt)
    have X3 := Lib.hid (X2.out.below b3 X2.out.lt)
    have I3 := Lib.hid hR
    have B3 := Lib.hid (belT B2.out b3)
    have HN := Lib.hid hn; have HC := Lib.hid hc; have HM := Lib.hid hm
    clear b3 hR hn hc hm c0 c1 c2 c3 c4
    go_wp2_with (first | (refine wpList_alloc_obj rfl 27 rfl Ust.hd0 HZ.out ?_; intro w4 g4 b4; have R4 := Lib.hid g4; have A4 := Lib.hid b4; clear g4 b4) | (refine wpList_store_obj rfl 27 _ _ rfl w3.heap.size rfl (Ust.hd0) Ust.hd0 rfl 27 R4.out HO.out.2 rfl (hd_one _ _ _ _ _ _) ?_; intro w5 g5 t5; have H5 := Lib.hid g5; have A5 := Lib.hid (A4.out.trans (t5.below (Nat.le_refl _))); have E5 := Lib.hid (E3.out.below A5.out E3.out.lt); have X5 := Lib.hid (X3.out.below A5.out X3.out.lt); have I5 := Lib.hid (I3.out.below A5.out); have B5 := Lib.hid (belT B3.out A5.out); have c0 := E5.out.get 0 rfl; have c1 := E5.out.get 1 rfl; have c2 := E5.out.get 2 rfl; have c3 := E5.out.get 3 rfl; have c4 := E5.out.get 4 rfl; clear g5 t5))
    refine (LG.out w5).mono ?_; rintro e w6 ⟨BB, rfl, hBB, b6⟩
    have E6 := Lib.hid (E5.out.below b6 E5.out.lt)
    have X6 := Lib.hid (X5.out.below b6 X5.out.lt)
    have H6 := Lib.hid (H5.out.below b6 H5.out.lt)
    have I6 := Lib.hid (I5.out.below b6)
    have B6 := Lib.hid (belT B5.out b6)
    clear b6 c0 c1 c2 c3 c4
    rcases hBB with rfl | rfl
    all_goals
      go_wp2_with fail
      refine (AL.out _ B6.out).mono ?_; rintro e w7 ⟨rfl, b7⟩
      have B7 := Lib.hid (belT B6.out b7)
      clear b7
      go_wp2
      go_ret
      exact ⟨rfl, B7.out⟩
end Go.Proofs.YtokjmehecfjhmaaDoor
