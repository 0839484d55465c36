/-
  The statement FitPlanMatchesReference: a walk.
-/
import Derived.Test.YtokjmehecfjhmaaDoorFitB
import Derived.Test.YtokjmehecfjhmaaDoorFitRB
import Derived.Test.YtokjmehecfjhmaaDoorUstOfA
import Derived.Test.YtokjmehecfjhmaaDoorRegion
namespace Go.Proofs.YtokjmehecfjhmaaDoor
open Go.RowKit Go.Proofs.YtokjmehecfjhmaaDoor.Fit Pxr Pnm

set_option maxHeartbeats 8000000 in
set_option maxRecDepth 100000 in
theorem walk_FitPlanMatchesReference (k : Int) (p : ByteArray) (m : Int) (t : ByteArray) (s : Int) (w : World) (V : FVars w) (_ : (Lit.int .i64 k).wf = true) (hp : p.size ≤ maxLen) (_ : (Lit.int .i64 m).wf = true) (ht : t.size ≤ maxLen) (_ : (Lit.int .i64 s).wf = true) :
    Calls Tryd.prog 3 #[.agg (enV k p m t s).toArray] w fun e w' => e = .returned (.bool true) ∧ Below w.heap.size w w' := by
  have PL := Lib.hid fun w' (hb : Below w.heap.size w w') => pplan_any ⟨k, p, m, t, s⟩ w' (V.go hb) hp ht
  have RL := Lib.hid fun w' => rplan_any ⟨k, p, m, t, s⟩ w' hp ht
  have CK := Lib.hid fun w' (hb : Below w.heap.size w w') => pcheck_any k p m t s w' (V.go hb) hp ht
  have LG := Lib.hid fun w' => large_any k p m t s w' hp ht
  have AL := Lib.hid fun w' (hb : Below w.heap.size w w') => alive_any w' (V.go hb)
  have HL := Lib.hid (show (plLz ⟨k, p, m, t, s⟩).length ≤ 3 by unfold plLz; split; exact pl_len _; decide)
  unfold RetP at PL RL
  obtain ⟨T, hT⟩ := named (plHz ⟨k, p, m, t, s⟩).T
  obtain ⟨nm, hnm⟩ := named (plHz ⟨k, p, m, t, s⟩).nm
  obtain ⟨pf, hpf⟩ := named (plHz ⟨k, p, m, t, s⟩).pf
  obtain ⟨lk, hlk⟩ := named (plHz ⟨k, p, m, t, s⟩).lk
  obtain ⟨md, hmd⟩ := named (plHz ⟨k, p, m, t, s⟩).md
  obtain ⟨sz, hsz⟩ := named (plHz ⟨k, p, m, t, s⟩).sz
  obtain ⟨L, hL⟩ := named (plLz ⟨k, p, m, t, s⟩)
  obtain ⟨E, hE⟩ := named (ckE ⟨k, p, m, t, s⟩)
  rw [← hT.out, ← hnm.out, ← hpf.out, ← hlk.out, ← hmd.out, ← hsz.out, ← hL.out, ← hE.out] at PL RL
  rw [← hE.out] at CK
  rw [← hL.out] at HL
  have NO := Lib.hid fun w' => Ust.of_any T nm pf lk md sz w'
  have heq : ∀ w : World, (Op.equalIn 10000 32 (.agg (Ust.hdV T nm pf lk md sz).toArray) (.agg (Ust.hdV T nm pf lk md sz).toArray)).run Tryd.prog w = .ok true w := fun w => by
    rw [Ust.run_eqH 32 Tryd.underlying32 (by kernel_rfl)]; simp
  have hg : Tryd.prog.eqGuardType Tryd.prog.depth 32 = false := by kernel_rfl
  have HO := Lib.hid hdTp; have RO := Lib.hid hdTr
  have HZ := Lib.hid zHp; have RZ := Lib.hid zHr
  clear hT hnm hpf hlk hmd hsz hL hE V hp ht
  go_enter Tryd.func3, Tryd.ntmps3
  go_wp2_with (first | (refine wpList_box_obj rfl 23 _ rfl (enV k p m t s) rfl ?_; intro w1 g1 b1; have E1 := Lib.hid g1; have B1 := Lib.hid b1; have c0 := E1.out.get 0 rfl; have c1 := E1.out.get 1 rfl; have c2 := E1.out.get 2 rfl; have c3 := E1.out.get 3 rfl; have c4 := E1.out.get 4 rfl; clear g1 b1))
  refine (LG.out w1).mono ?_; rintro e w2 ⟨BB, rfl, hBB, b2⟩
  have E2 := Lib.hid (E1.out.below b2 E1.out.lt)
  have B2 := Lib.hid (belT B1.out b2)
  clear b2 c0 c1 c2 c3 c4
  rcases hBB with rfl | rfl
  · have c0 := E2.out.get 0 rfl; have c1 := E2.out.get 1 rfl; have c2 := E2.out.get 2 rfl; have c3 := E2.out.get 3 rfl; have c4 := E2.out.get 4 rfl
    go_wp2_with fail
    refine (PL.out w2 B2.out).mono ?_; rintro e w3 ⟨b, n, c, rfl, hn, hc, hm, hR, b3⟩
    have E3 := Lib.hid (E2.out.below b3 E2.out.lt)
    have I3 := Lib.hid hR
    have B3 := Lib.hid (belT B2.out b3)
    have HN := Lib.hid hn; have HC := Lib.hid hc; have HM := Lib.hid hm
    clear b3 hR hn hc hm c0 c1 c2 c3 c4
    go_wp2_with (first | (refine wpList_alloc_obj rfl 27 rfl Ust.hd0 HZ.out ?_; intro w4 g4 b4; have R4 := Lib.hid g4; have A4 := Lib.hid b4; clear g4 b4) | (refine wpList_store_obj rfl 27 _ _ rfl w3.heap.size rfl (Ust.hdV T nm pf lk md sz) Ust.hd0 rfl 27 R4.out HO.out.2 rfl (hd_one _ _ _ _ _ _) ?_; intro w5 g5 t5; have X5 := Lib.hid g5; have A5 := Lib.hid (A4.out.trans (t5.below (Nat.le_refl _))); have B5 := Lib.hid (belT B3.out A5.out); have E5 := Lib.hid (E3.out.below A5.out E3.out.lt); have I5 := Lib.hid (I3.out.below A5.out); have c0 := E5.out.get 0 rfl; have c1 := E5.out.get 1 rfl; have c2 := E5.out.get 2 rfl; have c3 := E5.out.get 3 rfl; have c4 := E5.out.get 4 rfl; clear g5 t5))
    refine (RL.out w5).mono ?_; rintro e w6 ⟨b', n', c', rfl, hn', hc', hm', hR', b6⟩
    have E6 := Lib.hid (E5.out.below b6 E5.out.lt)
    have I6 := Lib.hid (I5.out.below b6)
    have X6 := Lib.hid (X5.out.below b6 X5.out.lt)
    have J6 := Lib.hid hR'
    have B6 := Lib.hid (belT B5.out b6)
    have HN' := Lib.hid hn'
    clear b6 hR' hn' hc' hm' c0 c1 c2 c3 c4
    go_wp2_with (first | (refine wpList_alloc_obj rfl 32 rfl Ust.hd0 RZ.out ?_; intro w7 g7 b7; have R7 := Lib.hid g7; have A7 := Lib.hid b7; clear g7 b7) | (refine wpList_store_obj rfl 32 _ _ rfl w6.heap.size rfl (Ust.hdV T nm pf lk md sz) Ust.hd0 rfl 32 R7.out RO.out.2 rfl (hd_one _ _ _ _ _ _) ?_; intro w8 g8 t8; have X8 := Lib.hid g8; have A8 := Lib.hid (A7.out.trans (t8.below (Nat.le_refl _))); have B8 := Lib.hid (belT B6.out A8.out); have E8 := Lib.hid (E6.out.below A8.out E6.out.lt); have I8 := Lib.hid (I6.out.below A8.out); have J8 := Lib.hid (J6.out.below A8.out); have Y8 := Lib.hid (X6.out.below A8.out X6.out.lt); clear g8 t8))
    have e0 : ∀ q : Of (fun w' => Below w8.heap.size w8 w'), q.w.cell? ⟨w.heap.size, 0, none⟩ = some (.int .i64 k) := fun q => (fun hw => ((E8.out.below hw E8.out.lt).get 0 rfl)) q.h
    have e1 : ∀ q : Of (fun w' => Below w8.heap.size w8 w'), q.w.cell? ⟨w.heap.size, 1, none⟩ = some (.string p) := fun q => (fun hw => ((E8.out.below hw E8.out.lt).get 1 rfl)) q.h
    have e2 : ∀ q : Of (fun w' => Below w8.heap.size w8 w'), q.w.cell? ⟨w.heap.size, 2, none⟩ = some (.int .i64 m) := fun q => (fun hw => ((E8.out.below hw E8.out.lt).get 2 rfl)) q.h
    have e3 : ∀ q : Of (fun w' => Below w8.heap.size w8 w'), q.w.cell? ⟨w.heap.size, 3, none⟩ = some (.string t) := fun q => (fun hw => ((E8.out.below hw E8.out.lt).get 3 rfl)) q.h
    have e4 : ∀ q : Of (fun w' => Below w8.heap.size w8 w'), q.w.cell? ⟨w.heap.size, 4, none⟩ = some (.int .i64 s) := fun q => (fun hw => ((E8.out.below hw E8.out.lt).get 4 rfl)) q.h
    have x0 : ∀ q : Of (fun w' => Below w8.heap.size w8 w'), q.w.cell? ⟨w3.heap.size, 0, none⟩ = some (.int .u8 T) := fun q => (fun hw => ((Y8.out.below hw Y8.out.lt).get 0 rfl)) q.h
    have x1 : ∀ q : Of (fun w' => Below w8.heap.size w8 w'), q.w.cell? ⟨w3.heap.size, 1, none⟩ = some (.string nm) := fun q => (fun hw => ((Y8.out.below hw Y8.out.lt).get 1 rfl)) q.h
    have x2 : ∀ q : Of (fun w' => Below w8.heap.size w8 w'), q.w.cell? ⟨w3.heap.size, 2, none⟩ = some (.string pf) := fun q => (fun hw => ((Y8.out.below hw Y8.out.lt).get 2 rfl)) q.h
    have x3 : ∀ q : Of (fun w' => Below w8.heap.size w8 w'), q.w.cell? ⟨w3.heap.size, 3, none⟩ = some (.string lk) := fun q => (fun hw => ((Y8.out.below hw Y8.out.lt).get 3 rfl)) q.h
    have x4 : ∀ q : Of (fun w' => Below w8.heap.size w8 w'), q.w.cell? ⟨w3.heap.size, 4, none⟩ = some (.int .i64 md) := fun q => (fun hw => ((Y8.out.below hw Y8.out.lt).get 4 rfl)) q.h
    have x5 : ∀ q : Of (fun w' => Below w8.heap.size w8 w'), q.w.cell? ⟨w3.heap.size, 5, none⟩ = some (.int .i64 sz) := fun q => (fun hw => ((Y8.out.below hw Y8.out.lt).get 5 rfl)) q.h
    have y0 : ∀ q : Of (fun w' => Below w8.heap.size w8 w'), q.w.cell? ⟨w6.heap.size, 0, none⟩ = some (.int .u8 T) := fun q => (fun hw => ((X8.out.below hw X8.out.lt).get 0 rfl)) q.h
    have y1 : ∀ q : Of (fun w' => Below w8.heap.size w8 w'), q.w.cell? ⟨w6.heap.size, 1, none⟩ = some (.string nm) := fun q => (fun hw => ((X8.out.below hw X8.out.lt).get 1 rfl)) q.h
    have y2 : ∀ q : Of (fun w' => Below w8.heap.size w8 w'), q.w.cell? ⟨w6.heap.size, 2, none⟩ = some (.string pf) := fun q => (fun hw => ((X8.out.below hw X8.out.lt).get 2 rfl)) q.h
    have y3 : ∀ q : Of (fun w' => Below w8.heap.size w8 w'), q.w.cell? ⟨w6.heap.size, 3, none⟩ = some (.string lk) := fun q => (fun hw => ((X8.out.below hw X8.out.lt).get 3 rfl)) q.h
    have y4 : ∀ q : Of (fun w' => Below w8.heap.size w8 w'), q.w.cell? ⟨w6.heap.size, 4, none⟩ = some (.int .i64 md) := fun q => (fun hw => ((X8.out.below hw X8.out.lt).get 4 rfl)) q.h
    have y5 : ∀ q : Of (fun w' => Below w8.heap.size w8 w'), q.w.cell? ⟨w6.heap.size, 5, none⟩ = some (.int .i64 sz) := fun q => (fun hw => ((X8.out.below hw X8.out.lt).get 5 rfl)) q.h
    have EQ : Hid (∀ w', Below w8.heap.size w8 w' → Calls Tryd.prog 15 #[.slice b n c, .slice b' n' c'] w' fun e w'' => e = .returned (.bool true) ∧ Below w'.heap.size w' w'') := fun w' hw => by
      have := eqr_any b n c b' n' c' L L w' HN.out HN'.out (I8.out.below hw) (J8.out.below hw) (by have := HL.out; have := HN.out; omega)
      rwa [decide_eq_true (rfl : L = L)] at this
    refine wp_region_class (S := fun w' => Below w8.heap.size w8 w') (by kernel_rfl) (by kernel_rfl) (Below.refl _ _).drew ?_
    intro hne
    repeat (go_big_quiet_step (first | (go_at_call 11; exact Calls.in_class (AL.out _ (B8.out.trans (Below.mono (Of.h _) B8.out.size))) fun w' hb q => q.trans (hb.mono q.size)) | (go_at_call 14; exact Calls.in_class (NO.out _) fun w' hb q => q.trans (hb.mono q.size)) | (go_at_call 15; exact Calls.in_class (EQ.out _ (Of.h _)) fun w' hb q => q.trans (hb.mono q.size)) | (go_at_call 16; exact Calls.in_class (CK.out _ (B8.out.trans (Below.mono (Of.h _) B8.out.size))) fun w' hb q => q.trans (hb.mono q.size))))
    refine wpQuiet_nil ?_
    rintro wq ⟨q, rfl⟩
    have BQ := Lib.hid (B8.out.trans (Below.mono q.h B8.out.size))
    go_wp2
    go_ret
    exact ⟨rfl, BQ.out⟩
  · go_wp2_with fail
    refine (AL.out w2 B2.out).mono ?_; rintro e w3 ⟨rfl, b3⟩
    have B3 := Lib.hid (belT B2.out b3)
    clear b3
    go_wp2
    go_ret
    exact ⟨rfl, B3.out⟩
end Go.Proofs.YtokjmehecfjhmaaDoor
