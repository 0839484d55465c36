/-
  Layer 14: the reference's Same.
-/
import Derived.Test.YtmbimnnacjbdfaaDoorFltNode
import Derived.Test.YtmbimnnacjbdfaaDoorEntEq
import Derived.Test.YtmbimnnacjbdfaaDoorPk13
import Derived.Test.YtmbimnnacjbdfaaDoorPk08
namespace Go.Proofs.YtmbimnnacjbdfaaDoor.Flt
open Go.RowKit Go.Proofs.YtmbimnnacjbdfaaDoor.Fit Pnm Tre

def mm0 : Mb := ⟨⟨0, emp, 0, emp, 0⟩, []⟩
def mm (l : List Mb) (i : Nat) : Mb := (l[i]?).getD mm0
theorem mm_y {ys : List MbS} {i : Nat} {y : MbS} (h : ys[i]? = some y) : mm (mms ys) i = y.n := by unfold mm; rw [mms_at h]; rfl
theorem mm_ext {l m : List Mb} (hl : l.length = m.length) (h : ∀ k, k < l.length → mm l k = mm m k) : l = m := by
  refine List.ext_getElem hl fun i h1 h2 => ?_
  have := h i h1
  unfold mm at this
  rwa [List.getElem?_eq_getElem h1, List.getElem?_eq_getElem h2] at this

set_option maxRecDepth 100000 in
set_option maxHeartbeats 8000000 in
theorem rsameM_any (a : Option Addr) (n cap : Nat) (ys : List MbS) (a' : Option Addr) (n' cap' : Nat) (zs : List MbS) (w : World) (ha : ArgMbs w a n cap ys) (hb : ArgMbs w a' n' cap' zs) :
    Calls Tryd.prog 18 #[.slice a n cap, .slice a' n' cap'] w (RetIff (mms ys = mms zs) w) := by
  have HA := Lib.hid ha
  have HB := Lib.hid hb
  have hn : n ≤ maxLen := Nat.le_trans ha.c ha.m
  have LA : Hid ((mms ys).length = n) := by show _ = _; rw [mms_len]; exact ha.n
  have LB : Hid ((mms zs).length = n') := by show _ = _; rw [mms_len]; exact hb.n
  have hg : Tryd.prog.eqGuardType Tryd.prog.depth 44 = false := by kernel_rfl
  have na := ha.c; have nb := hb.c
  unfold maxLen at hn
  clear ha hb
  by_cases hnn : n = n'
  · subst hnn
    have ni : ((n : Int) != (n : Int)) = false := by simp
    have nac : (n : Int) ≤ cap := by omega
    have nbc : (n : Int) ≤ cap' := by omega
    go_enter Tryd.func18, Tryd.ntmps18
    go_wp2_with fail
    go_loopw [5] (fun i wr => ∃ j : Nat, i = .int .i64 j ∧ j ≤ n ∧ (∀ k, k < j → mm (mms ys) k = mm (mms zs) k) ∧ Below w.heap.size w wr) (fun i _ => n - (intOf i).toNat)
    case atStart => exact ⟨0, rfl, Nat.zero_le _, fun k hk => absurd hk (Nat.not_lt_zero k), Below.refl _ _⟩
    case round =>
      obtain ⟨j, rfl, hj, hp, hW⟩ := hrel
      have HP := Lib.hid hp; have HW := Lib.hid hW
      clear hp hW
      by_cases hjn : j < n
      · obtain ⟨b, off, y, rfl, hb, hy, hf, hat⟩ := HA.out.get j hjn
        obtain ⟨b', off', z, rfl, hb', hz, hf', hat'⟩ := HB.out.get j hjn
        have YB := Lib.hid hf.d.bytes
        have ZB := Lib.hid hf'.d.bytes
        have EY : Hid (mm (mms ys) j = y.n ∧ mm (mms zs) j = z.n) := ⟨mm_y hy, mm_y hz⟩
        have NE : Hid (y.n ≠ z.n → ¬ mms ys = mms zs) := fun h e => h (by rw [← EY.out.1, ← EY.out.2, e])
        have YC := Lib.hid fun (q : Of fun w' => Below w.heap.size w w') => (hat.below q.h hb).c hy
        have ZC := Lib.hid fun (q : Of fun w' => Below w.heap.size w w') => (hat'.below q.h hb').c hz
        clear hat hat' hf hf' hy hz hb hb'
        obtain ⟨⟨⟨k, p, m, t, s⟩, d⟩, x, xc⟩ := y
        obtain ⟨⟨⟨k', p', m', t', s'⟩, d'⟩, x', xc'⟩ := z
        obtain ⟨L, hL⟩ := named d.length
        obtain ⟨L', hL'⟩ := named d'.length
        have y5 : ∀ q : Of (fun w' => Below w.heap.size w w'), q.w.cell? ⟨b, off + j * 6 + 5, none⟩ = some (.slice x L xc) := fun q => by rw [hL.out]; exact (YC.out q).2.2.2.2.2
        have z5 : ∀ q : Of (fun w' => Below w.heap.size w w'), q.w.cell? ⟨b', off' + j * 6 + 5, none⟩ = some (.slice x' L' xc') := fun q => by rw [hL'.out]; exact (ZC.out q).2.2.2.2.2
        have y0 : ∀ q : Of (fun w' => Below w.heap.size w w'), q.w.cell? ⟨b, off + j * 6, none⟩ = some (.int .i64 k) := fun q => (YC.out q).1
        have y1 : ∀ q : Of (fun w' => Below w.heap.size w w'), q.w.cell? ⟨b, off + j * 6 + 1, none⟩ = some (.string p) := fun q => (YC.out q).2.1
        have y2 : ∀ q : Of (fun w' => Below w.heap.size w w'), q.w.cell? ⟨b, off + j * 6 + 2, none⟩ = some (.int .i64 m) := fun q => (YC.out q).2.2.1
        have y3 : ∀ q : Of (fun w' => Below w.heap.size w w'), q.w.cell? ⟨b, off + j * 6 + 3, none⟩ = some (.string t) := fun q => (YC.out q).2.2.2.1
        have y4 : ∀ q : Of (fun w' => Below w.heap.size w w'), q.w.cell? ⟨b, off + j * 6 + 4, none⟩ = some (.int .i64 s) := fun q => (YC.out q).2.2.2.2.1
        have z0 : ∀ q : Of (fun w' => Below w.heap.size w w'), q.w.cell? ⟨b', off' + j * 6, none⟩ = some (.int .i64 k') := fun q => (ZC.out q).1
        have z1 : ∀ q : Of (fun w' => Below w.heap.size w w'), q.w.cell? ⟨b', off' + j * 6 + 1, none⟩ = some (.string p') := fun q => (ZC.out q).2.1
        have z2 : ∀ q : Of (fun w' => Below w.heap.size w w'), q.w.cell? ⟨b', off' + j * 6 + 2, none⟩ = some (.int .i64 m') := fun q => (ZC.out q).2.2.1
        have z3 : ∀ q : Of (fun w' => Below w.heap.size w w'), q.w.cell? ⟨b', off' + j * 6 + 3, none⟩ = some (.string t') := fun q => (ZC.out q).2.2.2.1
        have z4 : ∀ q : Of (fun w' => Below w.heap.size w w'), q.w.cell? ⟨b', off' + j * 6 + 4, none⟩ = some (.int .i64 s') := fun q => (ZC.out q).2.2.2.2.1
        have cv : ∀ q : Of (fun w' => Below w.heap.size w w'), (convert 23 9 (.slice x L xc)).run Tryd.prog q.w = .ok (.string (strOfNums d)) q.w := fun q => run_str_in Tryd.underlying23 Tryd.underlying5 Tryd.underlying9 (YB.out.below q.h) L xc (by rw [hL.out])
        have cv' : ∀ q : Of (fun w' => Below w.heap.size w w'), (convert 23 9 (.slice x' L' xc')).run Tryd.prog q.w = .ok (.string (strOfNums d')) q.w := fun q => run_str_in Tryd.underlying23 Tryd.underlying5 Tryd.underlying9 (ZB.out.below q.h) L' xc' (by rw [hL'.out])
        have DB : Hid (d = d' ↔ strOfNums d = strOfNums d') := by
          show _ ↔ _
          constructor
          · rintro rfl; rfl
          · intro h
            have h1 := numsOf_strOfNums (show Bytes d from YB.out.bytes)
            rw [h, numsOf_strOfNums (show Bytes d' from ZB.out.bytes)] at h1
            exact h1.symm
        obtain ⟨S, hS⟩ := named (strOfNums d)
        obtain ⟨S', hS'⟩ := named (strOfNums d')
        rw [← hS.out, ← hS'.out] at DB
        rw [← hS.out] at cv
        rw [← hS'.out] at cv'
        clear hL hL' YC ZC YB ZB hS hS'
        have j1 : (j : Int) < n := by omega
        have JN := Lib.hid hjn
        by_cases he : k = k' ∧ p = p' ∧ m = m' ∧ t = t' ∧ s = s'
        · obtain ⟨rfl, rfl, rfl, rfl, rfl⟩ := he
          have hq1 : ∀ w, (Op.equalIn 10000 44 (.agg (enV k p m t s).toArray) (.agg (enV k p m t s).toArray)).run Tryd.prog w = .ok true w := fun w => by rw [run_eqE]; simp
          by_cases hs : S = S'
          · have hs' := strs_eq hs
            have HD := Lib.hid (DB.out.mpr hs)
            clear hs DB NE
            go_wp2_with fail
            refine wp_region_class (S := fun w' => Below w.heap.size w w') (by kernel_rfl) (by kernel_rfl) HW.out.drew ?_
            intro hne'
            repeat (go_big_quiet_step (fail))
            refine wpQuiet_nil ?_
            rintro wq ⟨q, rfl⟩
            go_wp2
            go_round
            case rel => exact ⟨j + 1, by go_num, by have := JN.out; omega, fun i hi => by
              by_cases h' : i < j
              · exact HP.out i h'
              · obtain rfl : i = j := by omega
                rw [EY.out.1, EY.out.2, HD.out], q.h⟩
            case measure => simp [intOf]; have := JN.out; omega
          · have hs' := strs_no hs
            have HE := Lib.hid (NE.out fun h => hs (DB.out.mp (congrArg Mb.d h)))
            clear hs DB NE
            go_wp2_with fail
            refine wp_region_class (S := fun w' => Below w.heap.size w w') (by kernel_rfl) (by kernel_rfl) HW.out.drew ?_
            intro hne'
            repeat (go_big_quiet_step (fail))
            refine wpQuiet_nil ?_
            rintro wq ⟨q, rfl⟩
            go_wp2
            go_ret
            exact .no HE.out q.h
        · have HE := Lib.hid (NE.out fun h => he (by injection h with h _; injection h with h1 h2 h3 h4 h5; exact ⟨h1, h2, h3, h4, h5⟩))
          have hq1 : ∀ w, (Op.equalIn 10000 44 (.agg (enV k p m t s).toArray) (.agg (enV k' p' m' t' s').toArray)).run Tryd.prog w = .ok false w := fun w => by rw [run_eqE, decide_eq_false he]
          clear he DB NE cv cv'
          go_wp2_with fail
          refine wp_region_class (S := fun w' => Below w.heap.size w w') (by kernel_rfl) (by kernel_rfl) HW.out.drew ?_
          intro hne'
          repeat (go_big_quiet_step (fail))
          refine wpQuiet_nil ?_
          rintro wq ⟨q, rfl⟩
          go_wp2
          go_ret
          exact .no HE.out q.h
      · obtain rfl : j = n := by omega
        go_wp2
        go_ret
        exact .yes (mm_ext (by rw [LA.out, LB.out]) fun k hk => HP.out k (by rw [← LA.out]; exact hk)) HW.out
  · have ni : ((n : Int) != (n' : Int)) = true := by simp; omega
    go_enter Tryd.func18, Tryd.ntmps18
    go_wp2_with fail
    go_ret
    exact .no (fun h => hnn (by rw [← LA.out, ← LB.out, h])) (Below.refl _ _)
end Go.Proofs.YtmbimnnacjbdfaaDoor.Flt
