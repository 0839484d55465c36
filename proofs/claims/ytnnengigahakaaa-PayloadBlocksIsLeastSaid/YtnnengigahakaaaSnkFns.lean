/-
  Layer 5: walks of New, Len, Bytes, room, chunk; the methods of a nil sink.
-/
import Derived.Test.YtnnengigahakaaaSnkObj
namespace Go.Proofs.Ytnnengigahakaaa
open Go.RowKit

theorem swrite_nil (v : Value) (w : World) : Calls Try.prog 38 #[.pointer none, v] w fun e w' => e = .returned (.tuple #[.int .i64 0, .int .i64 1]) ∧ w = w' := by
  go_enter Try.func38, Try.ntmps38
  go_wp2
  go_ret2
  exact ⟨rfl, rfl⟩
theorem sbytes_nil (w : World) : Calls Try.prog 19 #[.pointer none] w fun e w' => e = .returned (.slice none 0 0) ∧ w = w' := by
  go_enter Try.func19, Try.ntmps19
  go_wp2
  go_ret
  exact ⟨rfl, rfl⟩
theorem slen_nil (w : World) : Calls Try.prog 21 #[.pointer none] w fun e w' => e = .returned (.int .i64 0) ∧ w = w' := by
  go_enter Try.func21, Try.ntmps21
  go_wp2
  go_ret
  exact ⟨rfl, rfl⟩
theorem sall_nil (a : Option Addr) (n c : Nat) (w : World) : Calls Try.prog 33 #[.pointer none, .slice a n c] w fun e w' => e = .returned (.int .i64 1) ∧ w = w' := by
  go_enter Try.func33, Try.ntmps33
  go_wp2_with fail
  go_loopw [1, 5, 6, 7] (fun v _ _ _ wr => v = .slice a n c ∧ wr = w) (fun _ _ _ _ _ => 0)
  case atStart => exact ⟨rfl, rfl⟩
  case round =>
    obtain ⟨rfl, rfl⟩ := hrel
    go_wp2_with fail
    refine (swrite_nil _ _).mono ?_; rintro e w2 ⟨rfl, rfl⟩
    go_wp2_with fail
    go_ret
    exact ⟨rfl, rfl⟩

theorem slen_any {S : Nat → Prop} {m : Nat} {ys cs : List Int} {F : Int} {r : Nat} (w : World) (h : Snk w S m ys F cs r) :
    Calls Try.prog 21 #[.pointer (some ⟨m, 0, none⟩)] w fun e w' => e = .returned (.int .i64 ys.length) ∧ w = w' := by
  obtain ⟨da, dc, sa, sc, h1, h2, h3, h4, h5, h6, h7, h8, h9, h10, h11⟩ := h
  have c2 := h1.get 2 rfl
  have h6' : (ys.length : Int) ≤ 100000000 := by omega
  clear h1 h2 h3 h4 h5 h6 h7 h8 h9 h10 h11
  go_enter Try.func21, Try.ntmps21
  go_wp2
  go_ret
  exact ⟨rfl, rfl⟩
theorem own_in {w : World} {a : Option Addr} {n c base : Nat} {e : TypeId} {k : IntKind} {zs : List Int} (h : w.ownsRow base e 1 (.slice a n c) n (zs.map (.int k))) : InK k w a zs := by
  obtain ⟨b, c', hv, h1, _⟩ := own_any h
  simp only [Value.slice.injEq, true_and] at hv
  rw [hv.1]; exact h1
theorem sbytes_any {S : Nat → Prop} {m : Nat} {ys cs : List Int} {F : Int} {r : Nat} (w : World) (h : Snk w S m ys F cs r) :
    Calls Try.prog 19 #[.pointer (some ⟨m, 0, none⟩)] w fun e w' => ∃ v, e = .returned v ∧ w'.ownsRow w.heap.size 5 1 v ys.length (ys.map (.int .u8)) ∧ Below w.heap.size w w' := by
  obtain ⟨da, dc, sa, sc, h1, h2, h3, h4, h5, h6, h7, h8, h9, h10, h11⟩ := h
  have c2 := h1.get 2 rfl
  have HI := Lib.hid (own_in h2); have H6 := Lib.hid h6
  clear h1 h2 h3 h4 h5 h6 h7 h8 h9 h10 h11
  go_enter Try.func19, Try.ntmps19
  go_wp2_with fail
  refine (bclone da ys.length dc ys w HI.out rfl (by have := H6.out; omega)).mono ?_; rintro e w2 ⟨v2, rfl, o2, b2⟩
  have O2 := Lib.hid o2; have B2 := Lib.hid b2
  clear o2 b2
  go_wp2_with fail
  go_ret
  exact ⟨_, rfl, O2.out, B2.out⟩

/-- the bytes up to the failure, as the program counts them -/
def roomZ (F : Int) (L : Nat) : Int := if F < 0 then 9223372036854775807 else F - L

set_option maxHeartbeats 1000000 in
theorem sroom_any {S : Nat → Prop} {m : Nat} {ys cs : List Int} {F : Int} {r : Nat} (w : World) (h : Snk w S m ys F cs r) (hF : F ≤ 9223372036854775807) :
    Calls Try.prog 39 #[.pointer (some ⟨m, 0, none⟩)] w fun e w' => e = .returned (.int .i64 (roomZ F ys.length)) ∧ Below w.heap.size w w' := by
  have H := Lib.hid h
  obtain ⟨da, dc, sa, sc, h1, h2, h3, h4, h5, h6, h7, h8, h9, h10, h11, h12⟩ := h
  have c1 := h1.get 1 rfl
  have H6 := Lib.hid h6
  have HL : Hid (0 ≤ F → (ys.length : Int) ≤ F) := h12
  clear h1 h2 h3 h4 h5 h6 h7 h8 h9 h10 h11 h12
  by_cases h0 : F < 0
  · have e1 : roomZ F ys.length = 9223372036854775807 := if_pos h0
    rw [e1]; clear e1
    go_enter Try.func39, Try.ntmps39
    go_wp2
    go_ret
    exact ⟨rfl, Below.refl _ _⟩
  · have e1 : roomZ F ys.length = F - ys.length := if_neg h0
    rw [e1]; clear e1
    obtain ⟨L, hL⟩ := named ys.length
    have hl : (L : Int) ≤ F := by rw [hL.out]; exact HL.out (by omega)
    rw [← hL.out]
    go_enter Try.func39, Try.ntmps39
    go_wp2_with fail
    have NC : Hid (∀ w' : World, Snk w' S m ys F cs r → Calls Try.prog 21 #[.pointer (some ⟨m, 0, none⟩)] w' fun e w'' => e = .returned (.int .i64 L) ∧ w'' = w') := fun w' hs => (slen_any w' hs).mono fun e w'' ⟨h1, h2⟩ => ⟨by rw [h1, hL.out], h2.symm⟩
    go_quiet ((go_at_call 21; refine Calls.quiet_of_same (NC.out _ H.out)))
    go_wp2
    go_ret
    exact ⟨rfl, drewN_below _ _ _⟩

set_option maxRecDepth 100000 in
set_option maxHeartbeats 4000000 in
theorem schunk_any {S : Nat → Prop} {m : Nat} {ys cs : List Int} {F : Int} {r : Nat} (w : World) (h : Snk w S m ys F cs r) :
    Calls Try.prog 40 #[.pointer (some ⟨m, 0, none⟩)] w fun e w' => e = .returned (.int .i64 (chunkZ cs r)) ∧ Below w.heap.size w w' := by
  have H := Lib.hid h
  obtain ⟨da, dc, sa, sc, h1, h2, h3, h4, h5, h6, h7, h8, h9, h10, h11, h12⟩ := h
  have HI := Lib.hid h4; have HL := Lib.hid h5
  have c0 := h1.get 0 rfl
  have c3 := h1.get 3 rfl
  clear h1 h2 h3 h4 h5 h6 h7 h8 h9 h10 h11 h12
  by_cases hz : cs.length = 0
  · have HZ := Lib.hid hz
    rw [hz] at c0
    clear hz
    go_enter Try.func40, Try.ntmps40
    go_wp2
    go_ret
    refine ⟨?_, Below.refl _ _⟩
    unfold chunkZ; rw [if_pos HZ.out]; rfl
  · obtain ⟨L, hL⟩ := named cs.length
    obtain ⟨i, hI⟩ := named (r % cs.length)
    obtain ⟨d, hd⟩ := named (cs.getD i 0)
    have hlt : i < cs.length := by rw [hI.out]; exact Nat.mod_lt _ (by omega)
    obtain ⟨b, off, rfl, hb⟩ := HI.out.plain (by omega)
    have hck : Hid (chunkZ cs r = max d 1) := by show _ = _; unfold chunkZ; rw [if_neg hz, hd.out, hI.out]
    have cd := HI.out.get i hlt
    rw [← hd.out] at cd
    have hmod : (r : Int) % (L : Int) = (i : Int) := by rw [hI.out, hL.out]; omega
    have hlt' : (i : Int) < L := by rw [hL.out]; omega
    have hL0 : ¬ L = 0 := by rw [hL.out]; exact hz
    rw [← hL.out] at c0
    clear hz hlt
    go_enter Try.func40, Try.ntmps40
    go_wp2_with fail
    have hr : Hid (Below w.heap.size w w) := Below.refl _ _
    by_cases hd1 : 1 ≤ d
    · have HKd : Hid (chunkZ cs r = d) := by show _ = _; rw [hck.out]; omega
      have fin : ∀ nq, Below w.heap.size w (w.drewN nq) := fun nq => drewN_below _ _ _
      have FIN := Lib.hid fin; clear fin
      go_region
      all_goals (go_wp2; go_ret; exact ⟨by rw [HKd.out]; rfl, FIN.out _⟩)
    · have HKd : Hid (chunkZ cs r = 1) := by show _ = _; rw [hck.out]; omega
      have fin : ∀ nq, Below w.heap.size w (w.drewN nq) := fun nq => drewN_below _ _ _
      have FIN := Lib.hid fin; clear fin
      go_region
      all_goals (go_wp2; go_ret; exact ⟨by rw [HKd.out]; rfl, FIN.out _⟩)
end Go.Proofs.Ytnnengigahakaaa
