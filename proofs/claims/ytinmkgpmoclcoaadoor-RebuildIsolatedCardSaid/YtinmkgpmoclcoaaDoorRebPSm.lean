/-
  Layer 15: the program's follows and linkable.
-/
import Derived.Test.YtinmkgpmoclcoaaDoorRebBd
import Derived.Test.YtinmkgpmoclcoaaDoorPz08
import Derived.Test.YtinmkgpmoclcoaaDoorPz13
namespace Go.Proofs.YtinmkgpmoclcoaaDoor.Reb
open Go.RowKit Go.MapKept Go.Proofs.YtinmkgpmoclcoaaDoor.Fit Pnm Tre Flt

section
variable {w : World} {g cap gd gf Nd Nf : Nat} {a : Option Addr} {Fd Ff : Value → Option Value} {us : List NdS} {A : List Mb}
set_option maxRecDepth 100000 in
set_option maxHeartbeats 2000000 in
theorem follows_any (hb : PB w g a cap gd gf Nd Nf Fd Ff us A) (p : ByteArray) (hp : p.size ≤ maxLen) :
    Calls Tryd.prog 28 #[.pointer (some ⟨g, 0, none⟩), .string p] w fun e w' => ∃ R : Bool, e = .returned (.bool R) ∧ (R = true ↔ ¬ Late A p) ∧ Below w.heap.size w w' := by
  obtain ⟨n, hn⟩ := named A.length
  have HB := Lib.hid hb
  have HP := Lib.hid hp
  have nm : n ≤ 9223372036854775807 := by have := hb.arg.c; have := hb.arg.m; unfold maxLen at this; rw [← hn.out] at *; omega
  have nc : (n : Int) ≤ cap := by have := hb.arg.c; rw [← hn.out] at this; omega
  have c0 : w.cell? ⟨g, 0, none⟩ = some (.slice a n cap) := by rw [hn.out]; exact hb.o.get 0 rfl
  clear hb hp
  by_cases h0 : n = 0
  · subst h0
    have LT : Hid (¬ Late A p) := fun h => by have := h.1; have := hn.out; omega
    go_enter Tryd.func28, Tryd.ntmps28
    go_wp2_with fail
    go_ret
    exact ⟨true, rfl, ⟨fun _ => LT.out, fun _ => rfl⟩, Below.refl _ _⟩
  · obtain ⟨N, hN⟩ : ∃ N, n = N + 1 := ⟨n - 1, by omega⟩
    have NE : ¬ (n : Int) = 0 := by omega
    have WN : IntKind.i64.wrap ((n : Int) - 1) = (N : Int) := by rw [show (n : Int) - 1 = (N : Int) by omega]; exact wrapI (by omega) (by omega)
    obtain ⟨b, u, rfl, hbl, hu, hun, hst, _, hat⟩ := HB.out.at_ (i := N) (by have := hn.out; omega)
    have gq : ∀ q : Of (fun w' => Below w.heap.size w w'), q.w.cell? ⟨g, 0, none⟩ = some (.slice (some ⟨b, 0, none⟩) n cap) := fun q => by rw [hn.out]; exact (HB.out.below q.h).o.get 0 rfl
    have yq : ∀ q : Of (fun w' => Below w.heap.size w w'), q.w.cell? ⟨b, N * 6 + 1, none⟩ = some (.string u.n.p) := fun q => by have := ((hat.below q.h hbl).c hu).2.1; rw [Nat.zero_add] at this; exact this
    have YP : Hid (u.n.p.size ≤ maxLen) := Nat.le_trans hst.p (by unfold maxLen; omega)
    have EY : Hid (u.n.p = (ma A (A.length - 1)).e.p) := by
      show _ = _
      rw [hun, HB.out.good.path (by have := hn.out; omega)]
      congr 3; have := hn.out; omega
    obtain ⟨yp, hyp⟩ := named u.n.p
    rw [← hyp.out] at yq
    obtain ⟨Z, hZ⟩ := named (cmpZ (numsOf p) (numsOf yp))
    have CZ : Hid (∀ q : World, Calls Tryd.prog 49 #[.string p, .string yp] q fun e w' => e = .returned (.int .i64 Z) ∧ Below q.heap.size q w') := fun q => by rw [hZ.out]; exact pcompare p yp q HP.out (by rw [hyp.out]; exact YP.out)
    have LZ : Hid (¬ Late A p ↔ 0 < Z) := by
      show _ ↔ _
      unfold Late
      rw [← EY.out, hZ.out, ← hyp.out, cmp_neg (numsOf yp) (numsOf p)]
      constructor
      · intro h; refine Classical.byContradiction fun c => h ⟨by have := hn.out; omega, by omega⟩
      · rintro h ⟨_, h2⟩; omega
    have n1 : (N : Int) < n := by omega
    have n2 : (N : Int) < cap := by omega
    clear hbl hu hun hst hat YP EY hyp hZ h0
    go_enter Tryd.func28, Tryd.ntmps28
    go_wp2_with fail
    refine wp_region_class (S := fun w' => Below w.heap.size w w') (by kernel_rfl) (by kernel_rfl) (Below.refl _ _).drew ?_
    intro hne'
    repeat (go_big_quiet_step (fail))
    refine wpQuiet_nil ?_
    rintro wq ⟨q, rfl⟩
    have Q0 := Lib.hid q.h
    go_wp2_with fail
    refine (CZ.out _).mono ?_; rintro e w4 ⟨rfl, b4⟩
    have B4 := Lib.hid (belT Q0.out b4)
    clear b4
    by_cases z0 : 0 < Z
    · have d2 : decide (0 < Z) = true := decide_eq_true z0
      have LT : Hid (¬ Late A p) := LZ.out.mpr z0
      go_wp2_with fail
      go_ret
      exact ⟨true, rfl, ⟨fun _ => LT.out, fun _ => rfl⟩, B4.out⟩
    · have d2 : decide (0 < Z) = false := decide_eq_false z0
      have LT : Hid (Late A p) := Classical.byContradiction fun h => z0 (LZ.out.mp h)
      go_wp2_with fail
      go_ret
      exact ⟨false, rfl, ⟨(fun h => by cases h), fun h => absurd LT.out h⟩, B4.out⟩

set_option maxRecDepth 100000 in
set_option maxHeartbeats 2000000 in
theorem linkable_any (hb : PB w g a cap gd gf Nd Nf Fd Ff us A) (t : ByteArray) (m : Int) :
    Calls Tryd.prog 29 #[.pointer (some ⟨g, 0, none⟩), .string t, .int .i64 m] w fun e w' => ∃ R : Bool, e = .returned (.bool R) ∧ (R = true ↔ ∃ r, fnd A 1 t = some r ∧ (ma A r).e.m = m) ∧ w = w' := by
  obtain ⟨n, hn⟩ := named A.length
  have HB := Lib.hid hb
  have ZI : Hid ((Tryd.prog.info? 3).map (·.zero) = some (some (.int .i64 0))) := by show _ = _; kernel_rfl
  have nc : (n : Int) ≤ cap := by have := hb.arg.c; rw [← hn.out] at this; omega
  have c0 : w.cell? ⟨g, 0, none⟩ = some (.slice a n cap) := by rw [hn.out]; exact hb.o.get 0 rfl
  have c2 : w.cell? ⟨g, 2, none⟩ = some (.map (some gf)) := hb.o.get 2 rfl
  have lk := (run_lookF (P := Tryd.prog) (w := w) 58 9 3 Tryd.underlying58 .string Tryd.underlying9 (.int .i64 0) ZI.out gf Nf (.string t) (show IsKey .string (.string t) from trivial) Ff hb.mf).1
  rw [hb.ff t] at lk
  clear hb
  obtain ⟨fo, hf⟩ : ∃ fo, fnd A 1 t = fo := ⟨_, rfl⟩
  cases fo with
  | none =>
    rw [hf] at lk
    have lk' : (Instr.lookup 58 (.map (some gf)) (.string t) true).run Tryd.prog w = .ok (.tuple #[.int .i64 0, .bool false]) w := lk
    have HF := Lib.hid hf
    clear lk hf
    go_enter Tryd.func29, Tryd.ntmps29
    go_wp2_with fail
    go_ret
    exact ⟨false, rfl, ⟨(fun h => by cases h), fun ⟨r, h, _⟩ => by rw [HF.out] at h; cases h⟩, rfl⟩
  | some r =>
    rw [hf] at lk
    have lk' : (Instr.lookup 58 (.map (some gf)) (.string t) true).run Tryd.prog w = .ok (.tuple #[.int .i64 r, .bool true]) w := lk
    have HF := Lib.hid hf
    clear lk hf
    obtain ⟨hr, hk, _, _⟩ := fnd_some.mp HF.out
    obtain ⟨b, u, rfl, hbl, hu, hun, hst, _, hat⟩ := HB.out.at_ (i := r) hr
    have y2 := (hat.c hu).2.2.1
    have EM : Hid (u.n.m = (ma A r).e.m) := by
      show _ = _
      rw [hun]; unfold ndOf; rw [if_neg (by omega)]
    rw [Nat.zero_add] at y2
    obtain ⟨M, hM⟩ := named u.n.m
    rw [← hM.out] at y2
    have EM' : Hid (M = (ma A r).e.m) := hM.out.trans EM.out
    have r1 : (r : Int) < n := by have := hn.out; omega
    have r2 : (r : Int) < cap := by omega
    have r3 : (0 : Int) ≤ r := by omega
    clear hr hk hbl hu hun hst hat EM hM
    by_cases hm : M = m
    · have d2 : (M == m) = true := by simpa using hm
      have EX : Hid (∃ r, fnd A 1 t = some r ∧ (ma A r).e.m = m) := ⟨r, HF.out, by rw [← EM'.out]; exact hm⟩
      clear hm
      go_enter Tryd.func29, Tryd.ntmps29
      go_wp2_with fail
      go_ret
      exact ⟨true, rfl, ⟨fun _ => EX.out, fun _ => rfl⟩, rfl⟩
    · have d2 : (M == m) = false := by simpa using hm
      have EX : Hid (¬ ∃ r, fnd A 1 t = some r ∧ (ma A r).e.m = m) := fun ⟨q, h1, h2⟩ => by
        rw [HF.out] at h1
        obtain rfl := Option.some.inj h1
        exact hm (by rw [EM'.out]; exact h2)
      clear hm
      go_enter Tryd.func29, Tryd.ntmps29
      go_wp2_with fail
      go_ret
      exact ⟨false, rfl, ⟨(fun h => by cases h), fun h => absurd h EX.out⟩, rfl⟩
end
end Go.Proofs.YtinmkgpmoclcoaaDoor.Reb
