/-
  Layer 19: the statements' own Do. (gen_VfsDo.py writes it.)
-/
import Derived.Test.YthcbiohmghaobaaDoorPz08
import Derived.Test.YthcbiohmghaobaaDoorPz10
namespace Go.Proofs.YthcbiohmghaobaaDoor.Vfs
open Go.RowKit Go.MapKept Go.Proofs.YthcbiohmghaobaaDoor.Pnm Flt

section
variable {N : Nat} {F S : Int} {R : List Int} {T : Nat → Prop} {w w1 w' : World} {f : Nat} {s s' : St}
theorem RetFs.back {E : Int} {e : Ending} (hl : ∀ k, T k → k < w.heap.size) (b : Below w.heap.size w w1) (h : RetFs N F S R T w1 f E s e w') : RetFs N F S R T w f E s e w' := by
  obtain ⟨h1, h2, h3⟩ := h
  have o : Only T w w' := (Only.of_below b (Nat.le_refl _)).trans h2
  exact ⟨h1, o, h3.wide (fun k hk => hk.imp id fun q => ⟨Nat.le_trans b.size q.1, q.2⟩) (grow_lt hl o.size)⟩
set_option maxRecDepth 100000 in
set_option maxHeartbeats 4000000 in
theorem do_any (h : FsS N F S R T w f s) (g : Gd N F S s) (hN : s.ps.length < N) (hN2 : N ≤ 1000000) (V : Pxr.Vars w) (k : Int) (p : ByteArray) (m : Int) (d : List Int) (a : Option Addr) (c : Nat) (t : ByteArray)
    (hp : p.size ≤ 140737488355328) (ht : t.size ≤ 140737488355328) (hd : BytesIn w a d) (hdl : d.length ≤ 140737488355328) (hda : d = [] ∨ ∀ x, a = some x → x.block ≠ f) :
    Calls Tryd.prog 14 #[.pointer (some ⟨f, 0, none⟩), .agg (vaL k p m a d.length c t).toArray] w (RetFs N F S R T w f (doE s ⟨k, p, m, d, t⟩) (doS F S s ⟨k, p, m, d, t⟩)) := by
  have hpm : p.size ≤ maxLen := by unfold maxLen; omega
  have HL := Lib.hid h.lt
  obtain ⟨E, hE⟩ := named (doE s ⟨k, p, m, d, t⟩); obtain ⟨s', hs'⟩ := named (doS F S s ⟨k, p, m, d, t⟩)
  have e1 := hE.out; have e2 := hs'.out
  unfold doE at e1; unfold doS at e2
  dsimp only at e1 e2
  obtain ⟨OkQ, hOkQ⟩ : ∃ Q : World → Prop, Q = fun w' => Only T w w' ∧ FsS N F S R (Grow T w w') w' f s' := ⟨_, rfl⟩
  suffices hG : Calls Tryd.prog 14 #[.pointer (some ⟨f, 0, none⟩), .agg (vaL k p m a d.length c t).toArray] w fun e w' => e = .returned (.int .i64 E) ∧ OkQ w' from hG.mono fun e w' ⟨q1, q2⟩ => by rw [hOkQ] at q2; rw [← hE.out, ← hs'.out]; exact ⟨q1, q2.1, q2.2⟩
  by_cases h0 : k = 0
  · rw [if_pos h0] at e1 e2
    subst h0
    have CT : Hid (∀ w1, Below w.heap.size w w1 → Calls Tryd.prog 22 #[.pointer (some ⟨f, 0, none⟩), .string p, .int .i64 m] w1 fun e w' => e = .returned (.int .i64 E) ∧ OkQ w') := fun w1 hb => by
      rw [hOkQ, e1, e2]
      exact (mkdir_any (h.below hb) g hN hN2 (V.go hb) p hpm m).mono fun e w' q => RetFs.back HL.out hb q
    obtain ⟨n, hn⟩ := named d.length
    have nb : (n : Int) ≤ 140737488355328 := by rw [hn.out]; omega
    rw [← hn.out]
    (try rw [← hn.out] at CT)
    clear h g hN hN2 V hp ht hd hdl hda hpm HL hE hs' e1 e2 hOkQ hn
    go_enter Tryd.func14, Tryd.ntmps14
    go_wp2_with (first | (refine wpList_box_obj rfl 40 _ rfl (vaL 0 p m a n c t) rfl ?_; intro w1 h1 b1; have B1 := Lib.hid b1; have c0 := h1.get 0 rfl; have c1 := h1.get 1 rfl; have c2 := h1.get 2 rfl; have c3 := h1.get 3 rfl; have c4 := h1.get 4 rfl; clear h1 b1))
    refine (CT.out w1 B1.out).mono ?_; rintro e w2 ⟨rfl, q⟩
    have QQ := Lib.hid q
    clear q
    go_wp2_with fail
    go_ret
    exact ⟨rfl, QQ.out⟩
  rw [if_neg h0] at e1 e2
  have n0 : (k == 0) = false := by simpa using h0
  by_cases h1 : k = 1
  · rw [if_pos h1] at e1 e2
    subst h1
    (try clear h0 n0 )
    have CT : Hid (∀ w1, Below w.heap.size w w1 → Calls Tryd.prog 23 #[.pointer (some ⟨f, 0, none⟩), .string p, .int .i64 m, .slice a d.length c] w1 fun e w' => e = .returned (.int .i64 E) ∧ OkQ w') := fun w1 hb => by
      rw [hOkQ, e1, e2]
      exact (fcreate_any (h.below hb) g hN hN2 (V.go hb) p hpm m d a c (hd.below hb) hdl hda).mono fun e w' q => RetFs.back HL.out hb q
    obtain ⟨n, hn⟩ := named d.length
    have nb : (n : Int) ≤ 140737488355328 := by rw [hn.out]; omega
    rw [← hn.out]
    (try rw [← hn.out] at CT)
    clear h g hN hN2 V hp ht hd hdl hda hpm HL hE hs' e1 e2 hOkQ hn
    go_enter Tryd.func14, Tryd.ntmps14
    go_wp2_with (first | (refine wpList_box_obj rfl 40 _ rfl (vaL 1 p m a n c t) rfl ?_; intro w1 h1 b1; have B1 := Lib.hid b1; have c0 := h1.get 0 rfl; have c1 := h1.get 1 rfl; have c2 := h1.get 2 rfl; have c3 := h1.get 3 rfl; have c4 := h1.get 4 rfl; clear h1 b1))
    refine (CT.out w1 B1.out).mono ?_; rintro e w2 ⟨rfl, q⟩
    have QQ := Lib.hid q
    clear q
    go_wp2_with fail
    go_ret
    exact ⟨rfl, QQ.out⟩
  rw [if_neg h1] at e1 e2
  have n1 : (k == 1) = false := by simpa using h1
  by_cases h2 : k = 2
  · rw [if_pos h2] at e1 e2
    subst h2
    (try clear h0 n0 h1 n1 )
    have CT : Hid (∀ w1, Below w.heap.size w w1 → Calls Tryd.prog 24 #[.pointer (some ⟨f, 0, none⟩), .string p, .string t] w1 fun e w' => e = .returned (.int .i64 E) ∧ OkQ w') := fun w1 hb => by
      rw [hOkQ, e1, e2]
      exact (symlink_any (h.below hb) g hN hN2 (V.go hb) p hpm t ht).mono fun e w' q => RetFs.back HL.out hb q
    obtain ⟨n, hn⟩ := named d.length
    have nb : (n : Int) ≤ 140737488355328 := by rw [hn.out]; omega
    rw [← hn.out]
    (try rw [← hn.out] at CT)
    clear h g hN hN2 V hp ht hd hdl hda hpm HL hE hs' e1 e2 hOkQ hn
    go_enter Tryd.func14, Tryd.ntmps14
    go_wp2_with (first | (refine wpList_box_obj rfl 40 _ rfl (vaL 2 p m a n c t) rfl ?_; intro w1 h1 b1; have B1 := Lib.hid b1; have c0 := h1.get 0 rfl; have c1 := h1.get 1 rfl; have c2 := h1.get 2 rfl; have c3 := h1.get 3 rfl; have c4 := h1.get 4 rfl; clear h1 b1))
    refine (CT.out w1 B1.out).mono ?_; rintro e w2 ⟨rfl, q⟩
    have QQ := Lib.hid q
    clear q
    go_wp2_with fail
    go_ret
    exact ⟨rfl, QQ.out⟩
  rw [if_neg h2] at e1 e2
  have n2 : (k == 2) = false := by simpa using h2
  by_cases h3 : k = 3
  · rw [if_pos h3] at e1 e2
    subst h3
    (try clear h0 n0 h1 n1 h2 n2 )
    have CT : Hid (∀ w1, Below w.heap.size w w1 → Calls Tryd.prog 25 #[.pointer (some ⟨f, 0, none⟩), .string p, .int .i64 m] w1 fun e w' => e = .returned (.int .i64 E) ∧ OkQ w') := fun w1 hb => by
      rw [hOkQ, e1, e2]
      exact (mknod_any (h.below hb) g hN hN2 (V.go hb) p hpm m).mono fun e w' q => RetFs.back HL.out hb q
    obtain ⟨n, hn⟩ := named d.length
    have nb : (n : Int) ≤ 140737488355328 := by rw [hn.out]; omega
    rw [← hn.out]
    (try rw [← hn.out] at CT)
    clear h g hN hN2 V hp ht hd hdl hda hpm HL hE hs' e1 e2 hOkQ hn
    go_enter Tryd.func14, Tryd.ntmps14
    go_wp2_with (first | (refine wpList_box_obj rfl 40 _ rfl (vaL 3 p m a n c t) rfl ?_; intro w1 h1 b1; have B1 := Lib.hid b1; have c0 := h1.get 0 rfl; have c1 := h1.get 1 rfl; have c2 := h1.get 2 rfl; have c3 := h1.get 3 rfl; have c4 := h1.get 4 rfl; clear h1 b1))
    refine (CT.out w1 B1.out).mono ?_; rintro e w2 ⟨rfl, q⟩
    have QQ := Lib.hid q
    clear q
    go_wp2_with fail
    go_ret
    exact ⟨rfl, QQ.out⟩
  rw [if_neg h3] at e1 e2
  have n3 : (k == 3) = false := by simpa using h3
  by_cases h4 : k = 4
  · rw [if_pos h4] at e1 e2
    subst h4
    (try clear h0 n0 h1 n1 h2 n2 h3 n3 )
    have CT : Hid (∀ w1, Below w.heap.size w w1 → Calls Tryd.prog 26 #[.pointer (some ⟨f, 0, none⟩), .string p, .string t] w1 fun e w' => e = .returned (.int .i64 E) ∧ OkQ w') := fun w1 hb => by
      rw [hOkQ, e1, e2]
      exact (link_any (h.below hb) g hN hN2 p t hpm).mono fun e w' q => RetFs.back HL.out hb q
    obtain ⟨n, hn⟩ := named d.length
    have nb : (n : Int) ≤ 140737488355328 := by rw [hn.out]; omega
    rw [← hn.out]
    (try rw [← hn.out] at CT)
    clear h g hN hN2 V hp ht hd hdl hda hpm HL hE hs' e1 e2 hOkQ hn
    go_enter Tryd.func14, Tryd.ntmps14
    go_wp2_with (first | (refine wpList_box_obj rfl 40 _ rfl (vaL 4 p m a n c t) rfl ?_; intro w1 h1 b1; have B1 := Lib.hid b1; have c0 := h1.get 0 rfl; have c1 := h1.get 1 rfl; have c2 := h1.get 2 rfl; have c3 := h1.get 3 rfl; have c4 := h1.get 4 rfl; clear h1 b1))
    refine (CT.out w1 B1.out).mono ?_; rintro e w2 ⟨rfl, q⟩
    have QQ := Lib.hid q
    clear q
    go_wp2_with fail
    go_ret
    exact ⟨rfl, QQ.out⟩
  rw [if_neg h4] at e1 e2
  have n4 : (k == 4) = false := by simpa using h4
  by_cases h5 : k = 5
  · rw [if_pos h5] at e1 e2
    subst h5
    (try clear h0 n0 h1 n1 h2 n2 h3 n3 h4 n4 )
    have CT : Hid (∀ w1, Below w.heap.size w w1 → Calls Tryd.prog 27 #[.pointer (some ⟨f, 0, none⟩), .string p, .int .i64 m, .int .i64 (d.length : Int)] w1 fun e w' => e = .returned (.int .i64 E) ∧ OkQ w') := fun w1 hb => by
      rw [hOkQ, e1, e2]
      exact (chown_any (h.below hb) p m (d.length : Int)).mono fun e w' q => RetFs.back HL.out hb q
    obtain ⟨n, hn⟩ := named d.length
    have nb : (n : Int) ≤ 140737488355328 := by rw [hn.out]; omega
    rw [← hn.out]
    (try rw [← hn.out] at CT)
    clear h g hN hN2 V hp ht hd hdl hda hpm HL hE hs' e1 e2 hOkQ hn
    go_enter Tryd.func14, Tryd.ntmps14
    go_wp2_with (first | (refine wpList_box_obj rfl 40 _ rfl (vaL 5 p m a n c t) rfl ?_; intro w1 h1 b1; have B1 := Lib.hid b1; have c0 := h1.get 0 rfl; have c1 := h1.get 1 rfl; have c2 := h1.get 2 rfl; have c3 := h1.get 3 rfl; have c4 := h1.get 4 rfl; clear h1 b1))
    refine (CT.out w1 B1.out).mono ?_; rintro e w2 ⟨rfl, q⟩
    have QQ := Lib.hid q
    clear q
    go_wp2_with fail
    go_ret
    exact ⟨rfl, QQ.out⟩
  rw [if_neg h5] at e1 e2
  have n5 : (k == 5) = false := by simpa using h5
  have ST : Hid (∀ w1, Below w.heap.size w w1 → OkQ w1) := fun w1 hb => by rw [hOkQ, e2]; exact h.stay hb
  obtain rfl : E = 0 := e1
  obtain ⟨n, hn⟩ := named d.length
  rw [← hn.out]
  clear h g hN hN2 V hp ht hd hdl hda hpm HL hE hs' e2 hOkQ hn h0 h1 h2 h3 h4 h5
  go_enter Tryd.func14, Tryd.ntmps14
  go_wp2_with (first | (refine wpList_box_obj rfl 40 _ rfl (vaL k p m a n c t) rfl ?_; intro w1 h1 b1; have B1 := Lib.hid b1; have c0 := h1.get 0 rfl; clear h1 b1))
  go_ret
  exact ⟨rfl, ST.out _ B1.out⟩
end
end Go.Proofs.YthcbiohmghaobaaDoor.Vfs
