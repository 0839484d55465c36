/-
  Layer 19: the program's nextRotation. (gen_VfsRot.py writes it.)
-/
import Derived.Test.YthcbiohmghaobaaDoorPz05
import Derived.Test.YthcbiohmghaobaaDoorPz07
namespace Go.Proofs.YthcbiohmghaobaaDoor.Vfs
open Go.RowKit Go.MapKept Go.Proofs.YthcbiohmghaobaaDoor.Pnm Flt

def lsS (s : St) : St := { s with ls := s.ls + 1 }
def rotV (R : List Int) (s : St) : Int := if R.length = 0 then 0 else R.getD (s.ls % R.length) 0
theorem rix_next {R : List Int} {s : St} (h : R.length ≠ 0) : rix R (lsS s) = (rix R s + 1) % R.length := by
  unfold rix
  rw [if_neg h, if_neg h]
  show (s.ls + 1) % _ = _
  rw [Nat.mod_add_mod]
section
variable {N : Nat} {F S : Int} {R : List Int} {W D : Nat → Prop} {w w' : World} {f : Nat} {s : St} {mp nm : Nat} {ra : Option Addr} {rc : Nat} {M : List InM}
theorem InP.oth {x : Ino} {y : InM} (h : InP W D w x y) (ho : ∃ vs, ObjAt w f 84 vs) (hD : ¬ D f) (t : TurnB w w' f) : InP W D w' x y := by
  obtain ⟨vs, ho⟩ := ho
  have nf : y.g ≠ f := fun e => by
    have h1 := h.o
    unfold ObjAt at h1 ho
    rw [e, ho] at h1
    injection h1 with h1; injection h1 with _ h1
    exact absurd h1 (by decide)
  refine ⟨h.o.turnB t nf, h.wg, ?_, h.dl, h.dm, h.db, own_keepS h.n fun k hk _ => t.other fun e => not_obj h.n ho (by decide) (by rw [hk, e]), h.nw⟩
  by_cases h0 : x.d = []
  · exact .inl h0
  · exact h.d.block (Nat.le_of_eq t.size.symm) fun a ha _ => t.other fun e => hD (by rw [← e]; exact h.db a ha h0)
/-- a listing more -/
theorem FsP.lst (h : FsP N F S R W D w f s mp nm ra rc M) (t : TurnB w w' f) (ho : ObjAt w' f 84 (fsL mp (F + S * (s.is.length : Int)) S ra R.length rc (rix R (lsS s)))) : FsP N F S R W D w' f (lsS s) mp nm ra rc M := by
  have hD : ¬ D f := h.wd f h.wfb
  have mf : mp ≠ f := fun e => by
    obtain ⟨xs, clk, h1, _⟩ := h.m
    have h2 := h.o
    unfold ObjAt at h2
    rw [← e, h1] at h2; cases h2
  refine ⟨ho, h.m.block (t.other mf), ⟨h.wf.i, h.wf.r, h.wf.n, h.wf.p, h.wf.ns, h.wf.l, h.wf.z, h.wf.b⟩, h.ml, ?_, h.rl, h.rm, h.rd, h.rz, h.wfb, h.wm, fun i x y hx hy => (h.e i x y hx hy).oth ⟨_, h.o⟩ hD t, h.inj, h.sep, h.wd, fun k hk => by rw [t.size]; exact h.lt k hk, h.b⟩
  by_cases h0 : R = []
  · exact .inl (by rw [h0])
  · exact h.r.block (Nat.le_of_eq t.size.symm) fun a ha _ => t.other fun e => hD (by rw [← e]; exact h.rd a ha h0)
set_option maxRecDepth 100000 in
set_option maxHeartbeats 4000000 in
theorem rot_any (h : FsP N F S R W D w f s mp nm ra rc M) :
    Calls Tryd.prog 48 #[.pointer (some ⟨f, 0, none⟩)] w fun e w' => e = .returned (.int .i64 (rotV R s)) ∧ FsP N F S R W D w' f (lsS s) mp nm ra rc M ∧ Only (fun k => k = f) w w' := by
  have HF := Lib.hid h
  have FO := Lib.hid h.o
  obtain ⟨n, hn⟩ := named R.length
  have rl := h.rl; have rm := h.rm
  have hnn := hn.out
  by_cases h0 : n = 0
  · have e1 : rotV R s = 0 := by unfold rotV; rw [← hn.out, if_pos h0]
    have e2 : rix R (lsS s) = rix R s := by unfold rix; rw [← hn.out, if_pos h0, if_pos h0]
    have QQ : Hid (FsP N F S R W D w f (lsS s) mp nm ra rc M ∧ Only (fun k => k = f) w w) := ⟨h.lst ⟨fun _ => Below.refl _ _, fun _ => rfl, rfl⟩ (by rw [e2]; exact h.o), Only.refl _ _⟩
    have c3 : w.cell? ⟨f, 3, none⟩ = some (.slice ra n rc) := by rw [hn.out]; exact h.o.get 3 rfl
    rw [e1]
    subst h0
    clear h e1 e2 rl rm hn hnn
    go_enter Tryd.func48, Tryd.ntmps48
    go_wp2_with fail
    go_ret
    exact ⟨rfl, QQ.out.1, QQ.out.2⟩
  obtain ⟨rb, ro, hra, hrb⟩ := h.r.plain (by omega)
  subst hra
  obtain ⟨ix, hix⟩ := named (rix R s)
  have ixl : ix < n := by rw [hix.out, hn.out]; unfold rix; rw [if_neg (by omega)]; exact Nat.mod_lt _ (by omega)
  obtain ⟨r, hr⟩ := named (rotV R s)
  have ce : w.cell? ⟨rb, ro + ix, none⟩ = some (.int .i64 r) := by
    rw [hr.out]; unfold rotV; rw [if_neg (by omega)]
    have := h.r.get ix (by omega)
    rw [this, hix.out]; unfold rix; rw [if_neg (by omega)]
  obtain ⟨nx, hnx⟩ := named (F + S * (s.is.length : Int))
  have FO : Hid (ObjAt w f 84 (fsL mp nx S (some ⟨rb, ro, none⟩) n rc (ix : Int))) := by rw [hnx.out, hix.out, hn.out]; exact h.o
  have RN : Hid (rix R (lsS s) = (ix + 1) % n) := by show _ = _; rw [hix.out, hn.out]; exact rix_next (by omega)
  have NB := Lib.hid hrb
  have n1 : (n : Int) ≤ rc := by omega
  have n2 : (n : Int) ≤ 9223372036854775807 := by unfold maxLen at rm; omega
  have i1 : (ix : Int) < n := by omega
  have n0 : (n : Int) ≠ 0 := by omega
  have KSC : Hid (∀ wS, Below w.heap.size w wS → (fun wS => wS.cell? ⟨f, 3, none⟩ = some (.slice (some ⟨rb, ro, none⟩) n rc) ∧ wS.cell? ⟨f, 4, none⟩ = some (.int .i64 (ix : Int)) ∧ wS.cell? ⟨rb, ro + ix, none⟩ = some (.int .i64 r)) wS) := fun wS hb => ⟨(FO.out.below hb FO.out.lt).get 3 rfl, (FO.out.below hb FO.out.lt).get 4 rfl, (hb.cell (p := ⟨rb, ro + ix, none⟩) NB.out).trans ce⟩
  have c3 := FO.out.get 3 rfl
  have SI : Hid ((Tryd.prog.info? 3).map (·.size) = some 1) := by show _ = _; kernel_rfl
  have LGN : Hid (∀ w', w'.cell? ⟨f, 4, none⟩ = some (.int .i64 (ix : Int)) → (loadVar 3 ⟨f, 4, none⟩).run Tryd.prog w' = .ok (.int .i64 (ix : Int)) w') := fun w' hc => by go_simp
  have lw : IntKind.i64.wrap ((ix : Int) + 1) = (ix : Int) + 1 := wrapP (by omega) (by omega)
  rw [← hr.out]
  have HNX := Lib.hid hnx.out; have HN := Lib.hid hn.out
  have TM : ((ix : Int) + 1).tmod n = (((ix + 1) % n : Nat) : Int) := by rw [Int.tmod_eq_emod_of_nonneg (by omega), Int.natCast_emod]; rfl
  clear h rl rm hr hix hn hnx hrb ce hnn
  go_enter Tryd.func48, Tryd.ntmps48
  go_wp2_with fail
  refine wp_region_held_drew (S := (fun wS => wS.cell? ⟨f, 3, none⟩ = some (.slice (some ⟨rb, ro, none⟩) n rc) ∧ wS.cell? ⟨f, 4, none⟩ = some (.int .i64 (ix : Int)) ∧ wS.cell? ⟨rb, ro + ix, none⟩ = some (.int .i64 r))) (by kernel_rfl) (KSC.out _ (Below.refl w.heap.size w).drew) (fun hHeld => ?_)
  refine tk 0 ?_; simp only [Act.put, sbA, scZ, scS]
  refine tk 1 ?_; simp only [Act.put, sbA, scZ, scS]
  refine tk 2 ?_; simp only [Act.put, sbA, scZ, scS]
  refine tk 3 ?_; simp only [Act.put, sbA, scZ, scS]
  refine tk 4 ?_; simp only [Act.put, sbA, scZ, scS]
  refine tk 5 ?_; simp only [Act.put, sbA, scZ, scS]
  refine tk 6 ?_; simp only [Act.put, sbA, scZ, scS]
  refine tk 7 ?_; simp only [Act.put, sbA, scZ, scS]
  refine tk 8 ?_; simp only [Act.put, sbA, scZ, scS]
  refine tk 9 ?_; simp only [Act.put, sbA, scZ, scS]
  refine tk 10 ?_; simp only [Act.put, sbA, scZ, scS]
  refine wpAnyH_done (by kernel_rfl) ?_ _
  clear hHeld c3
  have FD := Lib.hid (FO.out.below (Below.refl w.heap.size w).drew FO.out.lt)
  go_wp2_with fail
  refine wp_region_held_drew (S := (fun wS => wS.cell? ⟨f, 3, none⟩ = some (.slice (some ⟨rb, ro, none⟩) n rc))) (by kernel_rfl) ((FD.out.below (Below.refl w.drew.heap.size w.drew).drew FD.out.lt).get 3 rfl) (fun hHeld => ?_)
  have FE := Lib.hid (FD.out.below (Below.refl w.drew.heap.size w.drew).drew FD.out.lt)
  refine tk 0 ?_; simp only [Act.put, sbA, scZ, scS]
  refine tk 1 ?_; simp only [Act.put, sbA, scZ, scS]
  refine tk 2 ?_; simp only [Act.put, sbA, scZ, scS]
  refine tk 3 ?_; simp only [Act.put, sbA, scZ, scS]
  refine tk 6 ?_; simp only [Act.put, sbA, scZ, scS]
  refine tk 7 ?_; simp only [Act.put, sbA, scZ, scS]
  refine tk 8 ?_; simp only [Act.put, sbA, scZ, scS]
  refine tk 9 ?_; simp only [Act.put, sbA, scZ, scS]
  refine tk 10 ?_; simp only [Act.put, sbA, scZ, scS]
  refine rd 4 (fun K hK => ?_)
  refine step_load_run rfl 3 _ rfl ⟨f, 4, none⟩ rfl (.int .i64 (ix : Int)) (LGN.out _ (FE.out.get 4 rfl)) ?_
  refine hK.out _ _ (FE.out.get 3 rfl) (fun hHeld => ?_)
  clear hK K
  (try simp only [Act.put, sbA, scZ, scS])
  refine tk 5 ?_; simp only [Act.put, sbA, scZ, scS]
  refine tk 11 ?_; simp only [Act.put, sbA, scZ, scS]
  refine tk 12 ?_; simp only [Act.put, sbA, scZ, scS]
  refine tk 13 ?_; simp only [Act.put, sbA, scZ, scS]
  refine rd 14 (fun K hK => ?_)
  refine step_store_one rfl 3 _ _ rfl f 4 rfl (.int .i64 (((ix : Int) + 1).tmod n)) rfl rfl SI.out 84 _ FE.out (by show 4 < 5; omega) ?_
  intro w5 g5 t5
  have G5 : Hid (ObjAt w5 f 84 (fsL mp nx S (some ⟨rb, ro, none⟩) n rc (((ix : Int) + 1).tmod n))) := g5
  have T5 : Hid (TurnB w w5 f) := ⟨fun hB => ((Below.refl _ _).drew.drew).trans (t5.below hB), fun hk => t5.other hk, t5.size⟩
  clear g5 t5
  refine hK.out _ _ (G5.out.get 3 rfl) (fun hHeld => ?_)
  clear hK K
  (try simp only [Act.put])
  refine wpAnyH_done (by kernel_rfl) ?_ _
  go_wp2_with fail
  go_ret
  refine ⟨rfl, HF.out.lst T5.out ?_, only_turn (Only.refl _ w) T5.out (.inl rfl)⟩
  have := G5.out
  rw [TM, ← RN.out, HNX.out, HN.out] at this
  exact this
end
end Go.Proofs.YthcbiohmghaobaaDoor.Vfs
