/-
  The statement FitIsInjective: a walk.
-/
import Derived.Test.YtokjmehecfjhmaaDoorFitB
import Derived.Test.YtokjmehecfjhmaaDoorRegion
namespace Go.Proofs.YtokjmehecfjhmaaDoor.Fit
open Go.RowKit Pxr Pnm

theorem ent_eq {e f : Ent} : e = f ↔ (e.k = f.k ∧ e.p = f.p ∧ e.m = f.m ∧ e.t = f.t ∧ e.s = f.s) := by
  cases e; cases f; simp
theorem hd_eq {e f : Hd} : e = f ↔ (e.T = f.T ∧ e.nm = f.nm ∧ e.pf = f.pf ∧ e.lk = f.lk ∧ e.md = f.md ∧ e.sz = f.sz) := by
  cases e; cases f; simp
/-- the plans of valid entries tell them apart -/
theorem inj_iff {e f : Ent} (he : ckE e = 0) (hf : ckE f = 0) : (e.k = f.k ∧ e.p = f.p ∧ e.m = f.m ∧ e.t = f.t ∧ e.s = f.s) ↔
    (((plHz e).T = (plHz f).T ∧ (plHz e).nm = (plHz f).nm ∧ (plHz e).pf = (plHz f).pf ∧ (plHz e).lk = (plHz f).lk ∧ (plHz e).md = (plHz f).md ∧ (plHz e).sz = (plHz f).sz) ∧ plLz e = plLz f) := by
  rw [← ent_eq, ← hd_eq, (pl_good_eq he).1, (pl_good_eq he).2, (pl_good_eq hf).1, (pl_good_eq hf).2]
  exact (plan_inj (ck_ok.1 he) (ck_ok.1 hf)).symm
theorem plLz_len (e : Ent) : (plLz e).length ≤ 3 := by unfold plLz; split; exact pl_len _; decide
end Go.Proofs.YtokjmehecfjhmaaDoor.Fit
namespace Go.Proofs.YtokjmehecfjhmaaDoor
open Go.RowKit Go.Proofs.YtokjmehecfjhmaaDoor.Fit Pxr Pnm

set_option maxHeartbeats 8000000 in
set_option maxRecDepth 100000 in
theorem walk_FitIsInjective (k : Int) (p : ByteArray) (m : Int) (t : ByteArray) (s : Int) (k' : Int) (p' : ByteArray) (m' : Int) (t' : ByteArray) (s' : Int) (w : World) (V : FVars w)
    (_ : (Lit.int .i64 k).wf = true) (hp : p.size ≤ maxLen) (_ : (Lit.int .i64 m).wf = true) (ht : t.size ≤ maxLen) (_ : (Lit.int .i64 s).wf = true) (_ : (Lit.int .i64 k').wf = true) (hp' : p'.size ≤ maxLen) (_ : (Lit.int .i64 m').wf = true) (ht' : t'.size ≤ maxLen) (_ : (Lit.int .i64 s').wf = true) :
    Calls Tryd.prog 7 #[.agg (enV k p m t s).toArray, .agg (enV k' p' m' t' s').toArray] w fun e w' => e = .returned (.bool true) ∧ Below w.heap.size w w' := by
  have PL := Lib.hid fun w' (hb : Below w.heap.size w w') => pplan_any ⟨k, p, m, t, s⟩ w' (V.go hb) hp ht
  have QL := Lib.hid fun w' (hb : Below w.heap.size w w') => pplan_any ⟨k', p', m', t', s'⟩ w' (V.go hb) hp' ht'
  have LG := Lib.hid fun w' => large_any k p m t s w' hp ht
  have LH := Lib.hid fun w' => large_any k' p' m' t' s' w' hp' ht'
  have AL := Lib.hid fun w' (hb : Below w.heap.size w w') => alive_any w' (V.go hb)
  have HL := Lib.hid (plLz_len ⟨k, p, m, t, s⟩)
  have INJ : Hid (ckE ⟨k, p, m, t, s⟩ = 0 → ckE ⟨k', p', m', t', s'⟩ = 0 → _) := fun a b => inj_iff a b
  unfold RetP at PL QL
  dsimp only at INJ
  obtain ⟨T, hT⟩ := named (plHz ⟨k, p, m, t, s⟩).T
  obtain ⟨nm, hnm⟩ := named (plHz ⟨k, p, m, t, s⟩).nm
  obtain ⟨pf, hpf⟩ := named (plHz ⟨k, p, m, t, s⟩).pf
  obtain ⟨lk, hlk⟩ := named (plHz ⟨k, p, m, t, s⟩).lk
  obtain ⟨md, hmd⟩ := named (plHz ⟨k, p, m, t, s⟩).md
  obtain ⟨sz, hsz⟩ := named (plHz ⟨k, p, m, t, s⟩).sz
  obtain ⟨L, hL⟩ := named (plLz ⟨k, p, m, t, s⟩)
  obtain ⟨E, hE⟩ := named (ckE ⟨k, p, m, t, s⟩)
  obtain ⟨T', hT'⟩ := named (plHz ⟨k', p', m', t', s'⟩).T
  obtain ⟨nm', hnm'⟩ := named (plHz ⟨k', p', m', t', s'⟩).nm
  obtain ⟨pf', hpf'⟩ := named (plHz ⟨k', p', m', t', s'⟩).pf
  obtain ⟨lk', hlk'⟩ := named (plHz ⟨k', p', m', t', s'⟩).lk
  obtain ⟨md', hmd'⟩ := named (plHz ⟨k', p', m', t', s'⟩).md
  obtain ⟨sz', hsz'⟩ := named (plHz ⟨k', p', m', t', s'⟩).sz
  obtain ⟨L', hL'⟩ := named (plLz ⟨k', p', m', t', s'⟩)
  obtain ⟨E', hE'⟩ := named (ckE ⟨k', p', m', t', s'⟩)
  rw [← hT.out, ← hnm.out, ← hpf.out, ← hlk.out, ← hmd.out, ← hsz.out, ← hL.out, ← hE.out] at PL
  rw [← hT'.out, ← hnm'.out, ← hpf'.out, ← hlk'.out, ← hmd'.out, ← hsz'.out, ← hL'.out, ← hE'.out] at QL
  rw [← hT.out, ← hnm.out, ← hpf.out, ← hlk.out, ← hmd.out, ← hsz.out, ← hT'.out, ← hnm'.out, ← hpf'.out, ← hlk'.out, ← hmd'.out, ← hsz'.out, ← hL.out, ← hL'.out, ← hE.out, ← hE'.out] at INJ
  rw [← hL.out] at HL
  clear hT hnm hpf hlk hmd hsz hT' hnm' hpf' hlk' hmd' hsz' hL hL' hE hE' V hp ht hp' ht'
  have HO := Lib.hid hdTp
  have HZ := Lib.hid zHp
  have qE : ∀ w : World, (Op.equalIn 10000 23 (.agg (enV k p m t s).toArray) (.agg (enV k' p' m' t' s').toArray)).run Tryd.prog w = .ok (decide (k = k' ∧ p = p' ∧ m = m' ∧ t = t' ∧ s = s')) w := fun w => run_eqE k p m t s k' p' m' t' s' w
  have qH : ∀ w : World, (Op.equalIn 10000 27 (.agg (Ust.hdV T nm pf lk md sz).toArray) (.agg (Ust.hdV T' nm' pf' lk' md' sz').toArray)).run Tryd.prog w = .ok (decide (T = T' ∧ nm = nm' ∧ pf = pf' ∧ lk = lk' ∧ md = md' ∧ sz = sz')) w := fun w => Ust.run_eqH 27 Tryd.underlying27 (by kernel_rfl) _ _ _ _ _ _ _ _ _ _ _ _ w
  have gE : Tryd.prog.eqGuardType Tryd.prog.depth 23 = false := by kernel_rfl
  have gH : Tryd.prog.eqGuardType Tryd.prog.depth 27 = false := by kernel_rfl
  have QE := Lib.hid qE; have QH := Lib.hid qH
  clear qE qH
  go_enter Tryd.func7, Tryd.ntmps7
  go_wp2_with (first | (refine wpList_box_obj rfl 23 (.tmp 0) rfl (enV k p m t s) rfl ?_; intro w1 g1 b1; have E1 := Lib.hid g1; have B1 := Lib.hid b1; clear g1 b1) | (refine wpList_box_obj rfl 23 (.tmp 1) rfl (enV k' p' m' t' s') rfl ?_; intro w2 g2 b2; have F2 := Lib.hid g2; have E2 := Lib.hid (E1.out.below b2 E1.out.lt); have B2 := Lib.hid (belT B1.out b2); have c0 := E2.out.get 0 rfl; have c1 := E2.out.get 1 rfl; have c2 := E2.out.get 2 rfl; have c3 := E2.out.get 3 rfl; have c4 := E2.out.get 4 rfl; have d0 := F2.out.get 0 rfl; have d1 := F2.out.get 1 rfl; have d2 := F2.out.get 2 rfl; have d3 := F2.out.get 3 rfl; have d4 := F2.out.get 4 rfl; clear g2 b2))
  refine (LG.out w2).mono ?_; rintro e w3 ⟨BB, rfl, hBB, b3⟩
  have E3 := Lib.hid (E2.out.below b3 E2.out.lt)
  have F3 := Lib.hid (F2.out.below b3 F2.out.lt)
  have B3 := Lib.hid (belT B2.out b3)
  clear b3 c0 c1 c2 c3 c4 d0 d1 d2 d3 d4
  rcases hBB with rfl | rfl
  · have c0 := E3.out.get 0 rfl; have c1 := E3.out.get 1 rfl; have c2 := E3.out.get 2 rfl; have c3 := E3.out.get 3 rfl; have c4 := E3.out.get 4 rfl
    have d0 := F3.out.get 0 rfl; have d1 := F3.out.get 1 rfl; have d2 := F3.out.get 2 rfl; have d3 := F3.out.get 3 rfl; have d4 := F3.out.get 4 rfl
    go_wp2_with fail
    refine (LH.out w3).mono ?_; rintro e w4 ⟨BB, rfl, hBB, b4⟩
    have E4 := Lib.hid (E3.out.below b4 E3.out.lt)
    have F4 := Lib.hid (F3.out.below b4 F3.out.lt)
    have B4 := Lib.hid (belT B3.out b4)
    clear b4 c0 c1 c2 c3 c4 d0 d1 d2 d3 d4
    rcases hBB with rfl | rfl
    · have c0 := E4.out.get 0 rfl; have c1 := E4.out.get 1 rfl; have c2 := E4.out.get 2 rfl; have c3 := E4.out.get 3 rfl; have c4 := E4.out.get 4 rfl
      have d0 := F4.out.get 0 rfl; have d1 := F4.out.get 1 rfl; have d2 := F4.out.get 2 rfl; have d3 := F4.out.get 3 rfl; have d4 := F4.out.get 4 rfl
      go_wp2_with fail
      refine (PL.out w4 B4.out).mono ?_; rintro e w5 ⟨b, n, c, rfl, hn, hc, hm, hR, b5⟩
      have E5 := Lib.hid (E4.out.below b5 E4.out.lt)
      have F5 := Lib.hid (F4.out.below b5 F4.out.lt)
      have I5 := Lib.hid hR
      have B5 := Lib.hid (belT B4.out b5)
      have HN := Lib.hid hn
      clear b5 hR hn hc hm c0 c1 c2 c3 c4 d0 d1 d2 d3 d4
      go_wp2_with (first | (refine wpList_alloc_obj rfl 27 rfl Ust.hd0 HZ.out ?_; intro w6 g6 b6; have R6 := Lib.hid g6; have A6 := Lib.hid b6; clear g6 b6) | (refine wpList_store_obj rfl 27 _ _ rfl w5.heap.size rfl (Ust.hdV T nm pf lk md sz) Ust.hd0 rfl 27 R6.out HO.out.2 rfl (hd_one _ _ _ _ _ _) ?_; intro w7 g7 t7; have X7 := Lib.hid g7; have A7 := Lib.hid (A6.out.trans (t7.below (Nat.le_refl _))); have B7 := Lib.hid (belT B5.out A7.out); have E7 := Lib.hid (E5.out.below A7.out E5.out.lt); have F7 := Lib.hid (F5.out.below A7.out F5.out.lt); have I7 := Lib.hid (I5.out.below A7.out); have c0 := E7.out.get 0 rfl; have c1 := E7.out.get 1 rfl; have c2 := E7.out.get 2 rfl; have c3 := E7.out.get 3 rfl; have c4 := E7.out.get 4 rfl; have d0 := F7.out.get 0 rfl; have d1 := F7.out.get 1 rfl; have d2 := F7.out.get 2 rfl; have d3 := F7.out.get 3 rfl; have d4 := F7.out.get 4 rfl; clear g7 t7))
      refine (QL.out w7 B7.out).mono ?_; rintro e w8 ⟨b', n', c', rfl, hn', hc', hm', hR', b8⟩
      have E8 := Lib.hid (E7.out.below b8 E7.out.lt)
      have F8 := Lib.hid (F7.out.below b8 F7.out.lt)
      have I8 := Lib.hid (I7.out.below b8)
      have X8 := Lib.hid (X7.out.below b8 X7.out.lt)
      have J8 := Lib.hid hR'
      have B8 := Lib.hid (belT B7.out b8)
      have HN' := Lib.hid hn'
      clear b8 hR' hn' hc' hm' c0 c1 c2 c3 c4 d0 d1 d2 d3 d4
      by_cases hE : E = 0
      · subst hE
        by_cases hE' : E' = 0
        · subst hE'
          go_wp2_with (first | (refine wpList_alloc_obj rfl 27 rfl Ust.hd0 HZ.out ?_; intro w9 g9 b9; have R9 := Lib.hid g9; have A9 := Lib.hid b9; clear g9 b9) | (refine wpList_store_obj rfl 27 _ _ rfl w8.heap.size rfl (Ust.hdV T' nm' pf' lk' md' sz') Ust.hd0 rfl 27 R9.out HO.out.2 rfl (hd_one _ _ _ _ _ _) ?_; intro w10 g10 t10; have X10 := Lib.hid g10; have A10 := Lib.hid (A9.out.trans (t10.below (Nat.le_refl _))); have B10 := Lib.hid (belT B8.out A10.out); have E10 := Lib.hid (E8.out.below A10.out E8.out.lt); have F10 := Lib.hid (F8.out.below A10.out F8.out.lt); have I10 := Lib.hid (I8.out.below A10.out); have J10 := Lib.hid (J8.out.below A10.out); have Y10 := Lib.hid (X8.out.below A10.out X8.out.lt); clear g10 t10))
          have IFF := INJ.out (by first | rfl | trivial) (by first | rfl | trivial)
          clear INJ
          by_cases hH : T = T' ∧ nm = nm' ∧ pf = pf' ∧ lk = lk' ∧ md = md' ∧ sz = sz'
          · by_cases hLL : L = L'
            · have qE := QE.out; rw [decide_eq_true (IFF.2 ⟨hH, hLL⟩)] at qE
              have qH := QH.out; rw [decide_eq_true hH] at qH
              have EQ : Hid (∀ w', Below w10.heap.size w10 w' → Calls Tryd.prog 15 #[.slice b n c, .slice b' n' c'] w' fun e w'' => e = .returned (.bool true) ∧ Below w'.heap.size w' w'') := fun w' hw => by
                have := eqr_any b n c b' n' c' L L' w' HN.out HN'.out (I10.out.below hw) (J10.out.below hw) (by have := HL.out; have := HN.out; omega)
                rwa [decide_eq_true hLL] at this
              clear IFF
              clear hH hLL QE QH
              have e0 : ∀ q : Of (fun w' => Below w10.heap.size w10 w'), q.w.cell? ⟨w.heap.size, 0, none⟩ = some (.int .i64 k) := fun q => (fun hw => ((E10.out.below hw E10.out.lt).get 0 rfl)) q.h
              have e1 : ∀ q : Of (fun w' => Below w10.heap.size w10 w'), q.w.cell? ⟨w.heap.size, 1, none⟩ = some (.string p) := fun q => (fun hw => ((E10.out.below hw E10.out.lt).get 1 rfl)) q.h
              have e2 : ∀ q : Of (fun w' => Below w10.heap.size w10 w'), q.w.cell? ⟨w.heap.size, 2, none⟩ = some (.int .i64 m) := fun q => (fun hw => ((E10.out.below hw E10.out.lt).get 2 rfl)) q.h
              have e3 : ∀ q : Of (fun w' => Below w10.heap.size w10 w'), q.w.cell? ⟨w.heap.size, 3, none⟩ = some (.string t) := fun q => (fun hw => ((E10.out.below hw E10.out.lt).get 3 rfl)) q.h
              have e4 : ∀ q : Of (fun w' => Below w10.heap.size w10 w'), q.w.cell? ⟨w.heap.size, 4, none⟩ = some (.int .i64 s) := fun q => (fun hw => ((E10.out.below hw E10.out.lt).get 4 rfl)) q.h
              have f0 : ∀ q : Of (fun w' => Below w10.heap.size w10 w'), q.w.cell? ⟨w1.heap.size, 0, none⟩ = some (.int .i64 k') := fun q => (fun hw => ((F10.out.below hw F10.out.lt).get 0 rfl)) q.h
              have f1 : ∀ q : Of (fun w' => Below w10.heap.size w10 w'), q.w.cell? ⟨w1.heap.size, 1, none⟩ = some (.string p') := fun q => (fun hw => ((F10.out.below hw F10.out.lt).get 1 rfl)) q.h
              have f2 : ∀ q : Of (fun w' => Below w10.heap.size w10 w'), q.w.cell? ⟨w1.heap.size, 2, none⟩ = some (.int .i64 m') := fun q => (fun hw => ((F10.out.below hw F10.out.lt).get 2 rfl)) q.h
              have f3 : ∀ q : Of (fun w' => Below w10.heap.size w10 w'), q.w.cell? ⟨w1.heap.size, 3, none⟩ = some (.string t') := fun q => (fun hw => ((F10.out.below hw F10.out.lt).get 3 rfl)) q.h
              have f4 : ∀ q : Of (fun w' => Below w10.heap.size w10 w'), q.w.cell? ⟨w1.heap.size, 4, none⟩ = some (.int .i64 s') := fun q => (fun hw => ((F10.out.below hw F10.out.lt).get 4 rfl)) q.h
              have x0 : ∀ q : Of (fun w' => Below w10.heap.size w10 w'), q.w.cell? ⟨w5.heap.size, 0, none⟩ = some (.int .u8 T) := fun q => (fun hw => ((Y10.out.below hw Y10.out.lt).get 0 rfl)) q.h
              have x1 : ∀ q : Of (fun w' => Below w10.heap.size w10 w'), q.w.cell? ⟨w5.heap.size, 1, none⟩ = some (.string nm) := fun q => (fun hw => ((Y10.out.below hw Y10.out.lt).get 1 rfl)) q.h
              have x2 : ∀ q : Of (fun w' => Below w10.heap.size w10 w'), q.w.cell? ⟨w5.heap.size, 2, none⟩ = some (.string pf) := fun q => (fun hw => ((Y10.out.below hw Y10.out.lt).get 2 rfl)) q.h
              have x3 : ∀ q : Of (fun w' => Below w10.heap.size w10 w'), q.w.cell? ⟨w5.heap.size, 3, none⟩ = some (.string lk) := fun q => (fun hw => ((Y10.out.below hw Y10.out.lt).get 3 rfl)) q.h
              have x4 : ∀ q : Of (fun w' => Below w10.heap.size w10 w'), q.w.cell? ⟨w5.heap.size, 4, none⟩ = some (.int .i64 md) := fun q => (fun hw => ((Y10.out.below hw Y10.out.lt).get 4 rfl)) q.h
              have x5 : ∀ q : Of (fun w' => Below w10.heap.size w10 w'), q.w.cell? ⟨w5.heap.size, 5, none⟩ = some (.int .i64 sz) := fun q => (fun hw => ((Y10.out.below hw Y10.out.lt).get 5 rfl)) q.h
              have y0 : ∀ q : Of (fun w' => Below w10.heap.size w10 w'), q.w.cell? ⟨w8.heap.size, 0, none⟩ = some (.int .u8 T') := fun q => (fun hw => ((X10.out.below hw X10.out.lt).get 0 rfl)) q.h
              have y1 : ∀ q : Of (fun w' => Below w10.heap.size w10 w'), q.w.cell? ⟨w8.heap.size, 1, none⟩ = some (.string nm') := fun q => (fun hw => ((X10.out.below hw X10.out.lt).get 1 rfl)) q.h
              have y2 : ∀ q : Of (fun w' => Below w10.heap.size w10 w'), q.w.cell? ⟨w8.heap.size, 2, none⟩ = some (.string pf') := fun q => (fun hw => ((X10.out.below hw X10.out.lt).get 2 rfl)) q.h
              have y3 : ∀ q : Of (fun w' => Below w10.heap.size w10 w'), q.w.cell? ⟨w8.heap.size, 3, none⟩ = some (.string lk') := fun q => (fun hw => ((X10.out.below hw X10.out.lt).get 3 rfl)) q.h
              have y4 : ∀ q : Of (fun w' => Below w10.heap.size w10 w'), q.w.cell? ⟨w8.heap.size, 4, none⟩ = some (.int .i64 md') := fun q => (fun hw => ((X10.out.below hw X10.out.lt).get 4 rfl)) q.h
              have y5 : ∀ q : Of (fun w' => Below w10.heap.size w10 w'), q.w.cell? ⟨w8.heap.size, 5, none⟩ = some (.int .i64 sz') := fun q => (fun hw => ((X10.out.below hw X10.out.lt).get 5 rfl)) q.h
              refine wp_region_class (S := fun w' => Below w10.heap.size w10 w') (by kernel_rfl) (by kernel_rfl) (Below.refl _ _).drew ?_
              intro hne
              repeat (go_big_quiet_step (first | (go_at_call 11; exact Calls.in_class (AL.out _ (B10.out.trans (Below.mono (Of.h _) B10.out.size))) fun w' hb q => q.trans (hb.mono q.size)) | (go_at_call 15; exact Calls.in_class (EQ.out _ (Of.h _)) fun w' hb q => q.trans (hb.mono q.size))))
              refine wpQuiet_nil ?_
              rintro wq ⟨q, rfl⟩
              have BQ := Lib.hid (B10.out.trans (Below.mono q.h B10.out.size))
              go_wp2
              go_ret
              exact ⟨rfl, BQ.out⟩
            · have qE := QE.out; rw [decide_eq_false (fun h => hLL (IFF.1 h).2)] at qE
              have qH := QH.out; rw [decide_eq_true hH] at qH
              have EQ : Hid (∀ w', Below w10.heap.size w10 w' → Calls Tryd.prog 15 #[.slice b n c, .slice b' n' c'] w' fun e w'' => e = .returned (.bool false) ∧ Below w'.heap.size w' w'') := fun w' hw => by
                have := eqr_any b n c b' n' c' L L' w' HN.out HN'.out (I10.out.below hw) (J10.out.below hw) (by have := HL.out; have := HN.out; omega)
                rwa [decide_eq_false hLL] at this
              clear IFF
              clear hH hLL QE QH
              have e0 : ∀ q : Of (fun w' => Below w10.heap.size w10 w'), q.w.cell? ⟨w.heap.size, 0, none⟩ = some (.int .i64 k) := fun q => (fun hw => ((E10.out.below hw E10.out.lt).get 0 rfl)) q.h
              have e1 : ∀ q : Of (fun w' => Below w10.heap.size w10 w'), q.w.cell? ⟨w.heap.size, 1, none⟩ = some (.string p) := fun q => (fun hw => ((E10.out.below hw E10.out.lt).get 1 rfl)) q.h
              have e2 : ∀ q : Of (fun w' => Below w10.heap.size w10 w'), q.w.cell? ⟨w.heap.size, 2, none⟩ = some (.int .i64 m) := fun q => (fun hw => ((E10.out.below hw E10.out.lt).get 2 rfl)) q.h
              have e3 : ∀ q : Of (fun w' => Below w10.heap.size w10 w'), q.w.cell? ⟨w.heap.size, 3, none⟩ = some (.string t) := fun q => (fun hw => ((E10.out.below hw E10.out.lt).get 3 rfl)) q.h
              have e4 : ∀ q : Of (fun w' => Below w10.heap.size w10 w'), q.w.cell? ⟨w.heap.size, 4, none⟩ = some (.int .i64 s) := fun q => (fun hw => ((E10.out.below hw E10.out.lt).get 4 rfl)) q.h
              have f0 : ∀ q : Of (fun w' => Below w10.heap.size w10 w'), q.w.cell? ⟨w1.heap.size, 0, none⟩ = some (.int .i64 k') := fun q => (fun hw => ((F10.out.below hw F10.out.lt).get 0 rfl)) q.h
              have f1 : ∀ q : Of (fun w' => Below w10.heap.size w10 w'), q.w.cell? ⟨w1.heap.size, 1, none⟩ = some (.string p') := fun q => (fun hw => ((F10.out.below hw F10.out.lt).get 1 rfl)) q.h
              have f2 : ∀ q : Of (fun w' => Below w10.heap.size w10 w'), q.w.cell? ⟨w1.heap.size, 2, none⟩ = some (.int .i64 m') := fun q => (fun hw => ((F10.out.below hw F10.out.lt).get 2 rfl)) q.h
              have f3 : ∀ q : Of (fun w' => Below w10.heap.size w10 w'), q.w.cell? ⟨w1.heap.size, 3, none⟩ = some (.string t') := fun q => (fun hw => ((F10.out.below hw F10.out.lt).get 3 rfl)) q.h
              have f4 : ∀ q : Of (fun w' => Below w10.heap.size w10 w'), q.w.cell? ⟨w1.heap.size, 4, none⟩ = some (.int .i64 s') := fun q => (fun hw => ((F10.out.below hw F10.out.lt).get 4 rfl)) q.h
              have x0 : ∀ q : Of (fun w' => Below w10.heap.size w10 w'), q.w.cell? ⟨w5.heap.size, 0, none⟩ = some (.int .u8 T) := fun q => (fun hw => ((Y10.out.below hw Y10.out.lt).get 0 rfl)) q.h
              have x1 : ∀ q : Of (fun w' => Below w10.heap.size w10 w'), q.w.cell? ⟨w5.heap.size, 1, none⟩ = some (.string nm) := fun q => (fun hw => ((Y10.out.below hw Y10.out.lt).get 1 rfl)) q.h
              have x2 : ∀ q : Of (fun w' => Below w10.heap.size w10 w'), q.w.cell? ⟨w5.heap.size, 2, none⟩ = some (.string pf) := fun q => (fun hw => ((Y10.out.below hw Y10.out.lt).get 2 rfl)) q.h
              have x3 : ∀ q : Of (fun w' => Below w10.heap.size w10 w'), q.w.cell? ⟨w5.heap.size, 3, none⟩ = some (.string lk) := fun q => (fun hw => ((Y10.out.below hw Y10.out.lt).get 3 rfl)) q.h
              have x4 : ∀ q : Of (fun w' => Below w10.heap.size w10 w'), q.w.cell? ⟨w5.heap.size, 4, none⟩ = some (.int .i64 md) := fun q => (fun hw => ((Y10.out.below hw Y10.out.lt).get 4 rfl)) q.h
              have x5 : ∀ q : Of (fun w' => Below w10.heap.size w10 w'), q.w.cell? ⟨w5.heap.size, 5, none⟩ = some (.int .i64 sz) := fun q => (fun hw => ((Y10.out.below hw Y10.out.lt).get 5 rfl)) q.h
              have y0 : ∀ q : Of (fun w' => Below w10.heap.size w10 w'), q.w.cell? ⟨w8.heap.size, 0, none⟩ = some (.int .u8 T') := fun q => (fun hw => ((X10.out.below hw X10.out.lt).get 0 rfl)) q.h
              have y1 : ∀ q : Of (fun w' => Below w10.heap.size w10 w'), q.w.cell? ⟨w8.heap.size, 1, none⟩ = some (.string nm') := fun q => (fun hw => ((X10.out.below hw X10.out.lt).get 1 rfl)) q.h
              have y2 : ∀ q : Of (fun w' => Below w10.heap.size w10 w'), q.w.cell? ⟨w8.heap.size, 2, none⟩ = some (.string pf') := fun q => (fun hw => ((X10.out.below hw X10.out.lt).get 2 rfl)) q.h
              have y3 : ∀ q : Of (fun w' => Below w10.heap.size w10 w'), q.w.cell? ⟨w8.heap.size, 3, none⟩ = some (.string lk') := fun q => (fun hw => ((X10.out.below hw X10.out.lt).get 3 rfl)) q.h
              have y4 : ∀ q : Of (fun w' => Below w10.heap.size w10 w'), q.w.cell? ⟨w8.heap.size, 4, none⟩ = some (.int .i64 md') := fun q => (fun hw => ((X10.out.below hw X10.out.lt).get 4 rfl)) q.h
              have y5 : ∀ q : Of (fun w' => Below w10.heap.size w10 w'), q.w.cell? ⟨w8.heap.size, 5, none⟩ = some (.int .i64 sz') := fun q => (fun hw => ((X10.out.below hw X10.out.lt).get 5 rfl)) q.h
              refine wp_region_class (S := fun w' => Below w10.heap.size w10 w') (by kernel_rfl) (by kernel_rfl) (Below.refl _ _).drew ?_
              intro hne
              repeat (go_big_quiet_step (first | (go_at_call 11; exact Calls.in_class (AL.out _ (B10.out.trans (Below.mono (Of.h _) B10.out.size))) fun w' hb q => q.trans (hb.mono q.size)) | (go_at_call 15; exact Calls.in_class (EQ.out _ (Of.h _)) fun w' hb q => q.trans (hb.mono q.size))))
              refine wpQuiet_nil ?_
              rintro wq ⟨q, rfl⟩
              have BQ := Lib.hid (B10.out.trans (Below.mono q.h B10.out.size))
              go_wp2
              go_ret
              exact ⟨rfl, BQ.out⟩
          · have qE := QE.out; rw [decide_eq_false (fun h => hH (IFF.1 h).1)] at qE
            have qH := QH.out; rw [decide_eq_false hH] at qH
            have EQ := AL
            clear IFF
            clear hH QE QH EQ
            have e0 : ∀ q : Of (fun w' => Below w10.heap.size w10 w'), q.w.cell? ⟨w.heap.size, 0, none⟩ = some (.int .i64 k) := fun q => (fun hw => ((E10.out.below hw E10.out.lt).get 0 rfl)) q.h
            have e1 : ∀ q : Of (fun w' => Below w10.heap.size w10 w'), q.w.cell? ⟨w.heap.size, 1, none⟩ = some (.string p) := fun q => (fun hw => ((E10.out.below hw E10.out.lt).get 1 rfl)) q.h
            have e2 : ∀ q : Of (fun w' => Below w10.heap.size w10 w'), q.w.cell? ⟨w.heap.size, 2, none⟩ = some (.int .i64 m) := fun q => (fun hw => ((E10.out.below hw E10.out.lt).get 2 rfl)) q.h
            have e3 : ∀ q : Of (fun w' => Below w10.heap.size w10 w'), q.w.cell? ⟨w.heap.size, 3, none⟩ = some (.string t) := fun q => (fun hw => ((E10.out.below hw E10.out.lt).get 3 rfl)) q.h
            have e4 : ∀ q : Of (fun w' => Below w10.heap.size w10 w'), q.w.cell? ⟨w.heap.size, 4, none⟩ = some (.int .i64 s) := fun q => (fun hw => ((E10.out.below hw E10.out.lt).get 4 rfl)) q.h
            have f0 : ∀ q : Of (fun w' => Below w10.heap.size w10 w'), q.w.cell? ⟨w1.heap.size, 0, none⟩ = some (.int .i64 k') := fun q => (fun hw => ((F10.out.below hw F10.out.lt).get 0 rfl)) q.h
            have f1 : ∀ q : Of (fun w' => Below w10.heap.size w10 w'), q.w.cell? ⟨w1.heap.size, 1, none⟩ = some (.string p') := fun q => (fun hw => ((F10.out.below hw F10.out.lt).get 1 rfl)) q.h
            have f2 : ∀ q : Of (fun w' => Below w10.heap.size w10 w'), q.w.cell? ⟨w1.heap.size, 2, none⟩ = some (.int .i64 m') := fun q => (fun hw => ((F10.out.below hw F10.out.lt).get 2 rfl)) q.h
            have f3 : ∀ q : Of (fun w' => Below w10.heap.size w10 w'), q.w.cell? ⟨w1.heap.size, 3, none⟩ = some (.string t') := fun q => (fun hw => ((F10.out.below hw F10.out.lt).get 3 rfl)) q.h
            have f4 : ∀ q : Of (fun w' => Below w10.heap.size w10 w'), q.w.cell? ⟨w1.heap.size, 4, none⟩ = some (.int .i64 s') := fun q => (fun hw => ((F10.out.below hw F10.out.lt).get 4 rfl)) q.h
            have x0 : ∀ q : Of (fun w' => Below w10.heap.size w10 w'), q.w.cell? ⟨w5.heap.size, 0, none⟩ = some (.int .u8 T) := fun q => (fun hw => ((Y10.out.below hw Y10.out.lt).get 0 rfl)) q.h
            have x1 : ∀ q : Of (fun w' => Below w10.heap.size w10 w'), q.w.cell? ⟨w5.heap.size, 1, none⟩ = some (.string nm) := fun q => (fun hw => ((Y10.out.below hw Y10.out.lt).get 1 rfl)) q.h
            have x2 : ∀ q : Of (fun w' => Below w10.heap.size w10 w'), q.w.cell? ⟨w5.heap.size, 2, none⟩ = some (.string pf) := fun q => (fun hw => ((Y10.out.below hw Y10.out.lt).get 2 rfl)) q.h
            have x3 : ∀ q : Of (fun w' => Below w10.heap.size w10 w'), q.w.cell? ⟨w5.heap.size, 3, none⟩ = some (.string lk) := fun q => (fun hw => ((Y10.out.below hw Y10.out.lt).get 3 rfl)) q.h
            have x4 : ∀ q : Of (fun w' => Below w10.heap.size w10 w'), q.w.cell? ⟨w5.heap.size, 4, none⟩ = some (.int .i64 md) := fun q => (fun hw => ((Y10.out.below hw Y10.out.lt).get 4 rfl)) q.h
            have x5 : ∀ q : Of (fun w' => Below w10.heap.size w10 w'), q.w.cell? ⟨w5.heap.size, 5, none⟩ = some (.int .i64 sz) := fun q => (fun hw => ((Y10.out.below hw Y10.out.lt).get 5 rfl)) q.h
            have y0 : ∀ q : Of (fun w' => Below w10.heap.size w10 w'), q.w.cell? ⟨w8.heap.size, 0, none⟩ = some (.int .u8 T') := fun q => (fun hw => ((X10.out.below hw X10.out.lt).get 0 rfl)) q.h
            have y1 : ∀ q : Of (fun w' => Below w10.heap.size w10 w'), q.w.cell? ⟨w8.heap.size, 1, none⟩ = some (.string nm') := fun q => (fun hw => ((X10.out.below hw X10.out.lt).get 1 rfl)) q.h
            have y2 : ∀ q : Of (fun w' => Below w10.heap.size w10 w'), q.w.cell? ⟨w8.heap.size, 2, none⟩ = some (.string pf') := fun q => (fun hw => ((X10.out.below hw X10.out.lt).get 2 rfl)) q.h
            have y3 : ∀ q : Of (fun w' => Below w10.heap.size w10 w'), q.w.cell? ⟨w8.heap.size, 3, none⟩ = some (.string lk') := fun q => (fun hw => ((X10.out.below hw X10.out.lt).get 3 rfl)) q.h
            have y4 : ∀ q : Of (fun w' => Below w10.heap.size w10 w'), q.w.cell? ⟨w8.heap.size, 4, none⟩ = some (.int .i64 md') := fun q => (fun hw => ((X10.out.below hw X10.out.lt).get 4 rfl)) q.h
            have y5 : ∀ q : Of (fun w' => Below w10.heap.size w10 w'), q.w.cell? ⟨w8.heap.size, 5, none⟩ = some (.int .i64 sz') := fun q => (fun hw => ((X10.out.below hw X10.out.lt).get 5 rfl)) q.h
            refine wp_region_class (S := fun w' => Below w10.heap.size w10 w') (by kernel_rfl) (by kernel_rfl) (Below.refl _ _).drew ?_
            intro hne
            repeat (go_big_quiet_step (first | (go_at_call 11; exact Calls.in_class (AL.out _ (B10.out.trans (Below.mono (Of.h _) B10.out.size))) fun w' hb q => q.trans (hb.mono q.size))))
            refine wpQuiet_nil ?_
            rintro wq ⟨q, rfl⟩
            have BQ := Lib.hid (B10.out.trans (Below.mono q.h B10.out.size))
            go_wp2
            go_ret
            exact ⟨rfl, BQ.out⟩
        · have n0 : (E' != 0) = true := by simpa using hE'
          go_wp2_with (first | (refine wpList_alloc_obj rfl 27 rfl Ust.hd0 HZ.out ?_; intro w9 g9 b9; have R9 := Lib.hid g9; have A9 := Lib.hid b9; clear g9 b9) | (refine wpList_store_obj rfl 27 _ _ rfl w8.heap.size rfl (Ust.hdV T' nm' pf' lk' md' sz') Ust.hd0 rfl 27 R9.out HO.out.2 rfl (hd_one _ _ _ _ _ _) ?_; intro w10 g10 t10; have X10 := Lib.hid g10; have A10 := Lib.hid (A9.out.trans (t10.below (Nat.le_refl _))); have B10 := Lib.hid (belT B8.out A10.out); have E10 := Lib.hid (E8.out.below A10.out E8.out.lt); have F10 := Lib.hid (F8.out.below A10.out F8.out.lt); have I10 := Lib.hid (I8.out.below A10.out); have J10 := Lib.hid (J8.out.below A10.out); have Y10 := Lib.hid (X8.out.below A10.out X8.out.lt); clear g10 t10))
          refine (AL.out w10 B10.out).mono ?_; rintro e w11 ⟨rfl, b11⟩
          have B11 := Lib.hid (belT B10.out b11)
          clear b11
          go_wp2
          go_ret
          exact ⟨rfl, B11.out⟩
      · have n0 : (E != 0) = true := by simpa using hE
        go_wp2_with (first | (refine wpList_alloc_obj rfl 27 rfl Ust.hd0 HZ.out ?_; intro w9 g9 b9; have R9 := Lib.hid g9; have A9 := Lib.hid b9; clear g9 b9) | (refine wpList_store_obj rfl 27 _ _ rfl w8.heap.size rfl (Ust.hdV T' nm' pf' lk' md' sz') Ust.hd0 rfl 27 R9.out HO.out.2 rfl (hd_one _ _ _ _ _ _) ?_; intro w10 g10 t10; have X10 := Lib.hid g10; have A10 := Lib.hid (A9.out.trans (t10.below (Nat.le_refl _))); have B10 := Lib.hid (belT B8.out A10.out); have E10 := Lib.hid (E8.out.below A10.out E8.out.lt); have F10 := Lib.hid (F8.out.below A10.out F8.out.lt); have I10 := Lib.hid (I8.out.below A10.out); have J10 := Lib.hid (J8.out.below A10.out); have Y10 := Lib.hid (X8.out.below A10.out X8.out.lt); clear g10 t10))
        refine (AL.out w10 B10.out).mono ?_; rintro e w11 ⟨rfl, b11⟩
        have B11 := Lib.hid (belT B10.out b11)
        clear b11
        go_wp2
        go_ret
        exact ⟨rfl, B11.out⟩
    · go_wp2_with fail
      refine (AL.out w4 B4.out).mono ?_; rintro e w5 ⟨rfl, b5⟩
      have B5 := Lib.hid (belT B4.out b5)
      clear b5
      go_wp2
      go_ret
      exact ⟨rfl, B5.out⟩
  · go_wp2_with fail
    refine (AL.out w3 B3.out).mono ?_; rintro e w4 ⟨rfl, b4⟩
    have B4 := Lib.hid (belT B3.out b4)
    clear b4
    go_wp2
    go_ret
    exact ⟨rfl, B4.out⟩
end Go.Proofs.YtokjmehecfjhmaaDoor
