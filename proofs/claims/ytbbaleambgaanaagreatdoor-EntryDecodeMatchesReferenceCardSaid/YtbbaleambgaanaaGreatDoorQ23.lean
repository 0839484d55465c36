/- RefChunk SrcRef SrcRefR -/
import Derived.Test.YtbbaleambgaanaaGreatDoorQ5
import Derived.Test.YtbbaleambgaanaaGreatDoorQ20
import Derived.Deep.DeepCutAuto
namespace Go.Proofs.YtbbaleambgaanaaGreatDoor
open Go.RowKit
set_option maxRecDepth 100000 in
set_option maxHeartbeats 4000000 in
theorem rchunk_any (sa : Option Addr) (sc : Nat) (cs : List Int) (F : Int) (r : Nat) (w : World) (hi : InK .i64 w sa cs) (hl : cs.length ≤ 1000) :
    Calls Tryz.prog 135 #[.agg #[.slice sa cs.length sc, .int .i64 F], .int .i64 r] w fun e w' => e = .returned (.int .i64 (chunkZ cs r)) ∧ Below w.heap.size w w' := by
  have HI := Lib.hid hi; have HL := Lib.hid hl
  clear hi hl
  by_cases hz : cs.length = 0
  · have HZ := Lib.hid hz
    rw [hz]
    clear hz
    go_enter Tryz.func135, Tryz.ntmps135
    go_wp2_with (refine wpList_box_obj rfl 36 _ rfl [.slice sa 0 sc, .int .i64 F] rfl ?_; intro w1 h1 b1; have B1 := Lib.hid b1; have c0 := h1.get 0 rfl; have c1 := h1.get 1 rfl; clear h1 b1)
    go_ret
    refine ⟨?_, B1.out⟩
    unfold chunkZ; rw [if_pos HZ.out]; rfl
  · obtain ⟨L, hL⟩ := named cs.length
    obtain ⟨i, hI⟩ := named (r % cs.length)
    obtain ⟨d, hd⟩ := named (cs.getD i 0)
    have hlt : i < cs.length := by rw [hI.out]; exact Nat.mod_lt _ (by omega)
    obtain ⟨b, off, rfl, hb⟩ := HI.out.plain (by omega)
    have hck : Hid (chunkZ cs r = max d 1) := by show _ = _; unfold chunkZ; rw [if_neg hz, hd.out, hI.out]
    have HLT := Lib.hid hlt
    have hmod : (r : Int) % (L : Int) = (i : Int) := by rw [hI.out, hL.out]; omega
    have hlt' : (i : Int) < L := by rw [hL.out]; omega
    have hL0 : ¬ L = 0 := by rw [hL.out]; exact hz
    rw [← hL.out]
    clear hz hlt
    go_enter Tryz.func135, Tryz.ntmps135
    go_wp2_with (refine wpList_box_obj rfl 36 _ rfl [.slice (some ⟨b, off, none⟩) L sc, .int .i64 F] rfl ?_; intro w1 h1 b1; have B1 := Lib.hid b1; have c0 := h1.get 0 rfl; have c1 := h1.get 1 rfl; have cd := (HI.out.below b1).get i HLT.out; rw [← hd.out] at cd; clear h1 b1)
    go_quiet (fail)
    by_cases hd1 : d < 1
    · have HK : Hid (chunkZ cs r = 1) := by show _ = _; rw [hck.out]; omega
      go_wp2
      go_ret
      exact ⟨by rw [HK.out]; rfl, B1.out.trans (drewN_below _ _ _)⟩
    · have HK : Hid (chunkZ cs r = d) := by show _ = _; rw [hck.out]; omega
      go_wp2
      go_ret
      exact ⟨by rw [HK.out]; rfl, B1.out.trans (drewN_below _ _ _)⟩
end Go.Proofs.YtbbaleambgaanaaGreatDoor
namespace Go.Proofs.YtbbaleambgaanaaGreatDoor
open Go.RowKit
def Ref (w : World) (lo hi m : Nat) (zs : List Int) (F : Int) (cs : List Int) (o r : Nat) : Prop :=
  ∃ da dc sa sc, ObjAt w m 86 [.slice da zs.length dc, .slice sa cs.length sc, .int .i64 F, .int .i64 o, .int .i64 r] ∧ BytesIn w da zs ∧ zs.length ≤ dc ∧ InK .i64 w sa cs ∧ cs.length ≤ 1000 ∧ zs.length ≤ 100000000 ∧
    (lo ≤ m ∧ m < hi ∧ hi ≤ w.heap.size) ∧ (∀ x, da = some x → lo ≤ x.block ∧ x.block < hi ∧ x.block ≠ m) ∧ (∀ x, sa = some x → lo ≤ x.block ∧ x.block < hi ∧ x.block ≠ m) ∧ r ≤ o
theorem Ref.out {w w' : World} {lo hi m lo' hi' : Nat} {zs cs : List Int} {F : Int} {o r : Nat} (h : Ref w lo hi m zs F cs o r) (ho : Out lo' hi' w w') (hd : hi ≤ lo' ∨ hi' ≤ lo) : Ref w' lo hi m zs F cs o r := by
  obtain ⟨da, dc, sa, sc, h1, h2, h3, h4, h5, h6, h7, h8, h9, h10⟩ := h
  refine ⟨da, dc, sa, sc, h1.out ho (by omega), h2.out ho (fun x hx => by have := h8 x hx; omega), h3, h4.out ho (fun x hx => by have := h9 x hx; omega), h5, h6, ?_, h8, h9, h10⟩
  have := ho.size
  omega
theorem Ref.size {w : World} {lo hi m : Nat} {zs cs : List Int} {F : Int} {o r : Nat} (h : Ref w lo hi m zs F cs o r) : hi ≤ w.heap.size ∧ lo ≤ m ∧ m < hi := by
  obtain ⟨_, _, _, _, _, _, _, _, _, _, h7, _⟩ := h; exact ⟨h7.2.2, h7.1, h7.2.1⟩
theorem Ref.step {w w3 : World} {lo hi m : Nat} {zs cs : List Int} {F : Int} {o r : Nat} (h : Ref w lo hi m zs F cs o r) (hb : Below w.heap.size w w3) (e k : Nat) (he : e = o + k) (hk : 1 ≤ k) :
    Ref ((w3.setCell ⟨m, 3, none⟩ (.int .i64 e)).setCell ⟨m, 4, none⟩ (.int .i64 (r + 1))) lo hi m zs F cs (o + k) (r + 1) ∧ Out lo hi w ((w3.setCell ⟨m, 3, none⟩ (.int .i64 e)).setCell ⟨m, 4, none⟩ (.int .i64 (r + 1))) ∧
    ∀ b ys, InK .u8 w3 b ys → (∀ x, b = some x → w.heap.size ≤ x.block) → InK .u8 ((w3.setCell ⟨m, 3, none⟩ (.int .i64 e)).setCell ⟨m, 4, none⟩ (.int .i64 (r + 1))) b ys := by
  obtain ⟨da, dc, sa, sc, h1, h2, h3, h4, h5, h6, h7, h8, h9, h10⟩ := h
  subst he
  have hlt := h1.lt
  have hs := hb.size
  refine ⟨⟨da, dc, sa, sc, ((h1.below hb hlt).set 3 _).set 4 _, ((h2.below hb).set _ (fun x hx => (h8 x hx).2.2)).set _ (fun x hx => (h8 x hx).2.2), h3, ((h4.below hb).set _ (fun x hx => (h9 x hx).2.2)).set _ (fun x hx => (h9 x hx).2.2), h5, h6, ?_, h8, h9, by omega⟩, ?_, ?_⟩
  · simp [World.setCell]; omega
  · exact ((Out.of_below hb (Nat.le_refl _)).setCell (by show lo ≤ m; omega) (by show m < hi; omega) _).setCell (by show lo ≤ m; omega) (by show m < hi; omega) _
  · intro b ys hk hx
    exact (hk.set _ (fun x e => by have := hx x e; omega)).set _ (fun x e => by have := hx x e; omega)
set_option maxRecDepth 100000 in
set_option maxHeartbeats 8000000 in
theorem rnew_any (a : Option Addr) (n cap : Nat) (zs : List Int) (ca : Option Addr) (cl cc : Nat) (cs : List Int) (F : Int) (w : World) (hb : BytesIn w a zs) (hl : zs.length = n) (hn : n ≤ 100000000)
    (hi : InK .i64 w ca cs) (hcl : cs.length = cl) (hc : cl ≤ 1000) :
    Calls Tryz.prog 17 #[.slice a n cap, .agg #[.slice ca cl cc, .int .i64 F]] w fun e w' => ∃ m, e = .returned (.pointer (some ⟨m, 0, none⟩)) ∧
      Ref w' w.heap.size w'.heap.size m zs F cs 0 0 ∧ Below w.heap.size w w' := by
  have HB := Lib.hid hb; have HL := Lib.hid hl; have HI := Lib.hid hi; have HCL := Lib.hid hcl; have HC := Lib.hid hc; have HN := Lib.hid hn
  clear hb hl hi hcl hc
  go_enter Tryz.func17, Tryz.ntmps17
  go_wp2_with (refine wpList_box_obj rfl 36 _ rfl [.slice ca cl cc, .int .i64 F] rfl ?_; intro w1 h1 b1; have H1 := Lib.hid h1; have B1 := Lib.hid b1; clear h1 b1)
  have K0 : Hid (∀ w', Below w1.heap.size w1 w' → w'.cell? ⟨w.heap.size, 0, none⟩ = some (.slice ca cl cc) ∧ w'.cell? ⟨w.heap.size, 1, none⟩ = some (.int .i64 F)) := fun w' hb => ⟨(H1.out.below hb H1.out.lt).get 0 rfl, (H1.out.below hb H1.out.lt).get 1 rfl⟩
  have X1 := Lib.hid (HB.out.below B1.out).inK; have Y1 := Lib.hid (HI.out.below B1.out)
  obtain ⟨d0, d1⟩ := K0.out _ (Below.refl _ _)
  go_region_held3 (fun w' => w'.cell? ⟨w.heap.size, 0, none⟩ = some (.slice ca cl cc) ∧ w'.cell? ⟨w.heap.size, 1, none⟩ = some (.int .i64 F)) (first | exact K0.out _ (Below.refl _ _).drew | exact ⟨d0, d1⟩ | go_keep) (first | (refine step_append_fresh rfl (.tmp 5) (.tmp 6) 24 rfl 5 .u8 1 Tryz.underlying24 u8T w1 w1 (by repeat (first | exact Below.refl _ _ | refine Below.drew ?_ | refine Below.alloc ?_ (by simp; try omega) _)) (by repeat (first | exact Below.refl _ _ | refine Below.drew ?_ | refine Below.alloc ?_ (by simp; try omega) _)) _ rfl (by simp; try omega) (by simp; try omega) a n cap zs rfl X1.out HL.out (by have := HN.out; omega) (by have := HN.out; omega) ?_; intro a2 c2 w2 i2 p2 q2 b2 _ z2 x2; try simp at z2; have L2 := Lib.hid z2; clear z2; have I2 := Lib.hid i2; have P2 := Lib.hid p2; have B2 := Lib.hid b2; have X2 := Lib.hid x2; obtain ⟨e0, e1⟩ := K0.out _ b2; clear i2 p2 q2 b2 x2) | (refine step_append_fresh rfl (.tmp 8) (.tmp 10) 34 rfl 3 .i64 8 Tryz.underlying34 i64T w1 w2 (by repeat (first | exact Below.refl _ _ | exact B2.out | refine Below.drew ?_ | refine Below.alloc ?_ (by have := B2.out.size; simp; try omega) _)) (by repeat (first | exact Below.refl _ _ | refine Below.drew ?_ | refine Below.alloc ?_ (by simp; try omega) _)) _ rfl (by have := B2.out.size; simp; try omega) (by have := B2.out.size; have := L2.out; simp; try omega) ca cl cc cs rfl Y1.out HCL.out (by have := HC.out; omega) (by have := HC.out; omega) ?_; intro a3 c3 w3 i3 p3 q3 b3 b23 _ x3; have I3 := Lib.hid i3; have P3 := Lib.hid p3; have B3 := Lib.hid b3; have B23 := Lib.hid b23; have X3 := Lib.hid x3; obtain ⟨g0, g1⟩ := K0.out _ b3; clear i3 p3 q3 b3 b23 x3))
  all_goals
    go_wp2
    go_ret
    have bz := B2.out.size; have bz3 := B23.out.size; have bz1 := B1.out.size; have lt := H1.out.lt
    have B4 : Below w3.heap.size w3 (w3.alloc (.cells #[.slice a2 n c2, .slice a3 cl c3, .int .i64 F, .int .i64 0, .int .i64 0] 86)) := (Below.refl _ _).alloc (Nat.le_refl _) _
    refine ⟨_, rfl, ⟨a2, c2, a3, c3, ?_, ((I2.out.below B23.out).below B4).bytes HB.out.bytes, by rw [HL.out]; exact P2.out, I3.out.below B4, by rw [HCL.out]; exact HC.out, by rw [HL.out]; exact HN.out, ?_, fun x hx => ?_, fun x hx => ?_, Nat.le_refl _⟩, (B1.out.trans (B3.out.mono bz1)).trans (B4.mono (by omega))⟩
    · rw [HL.out, HCL.out]; exact heap_alloc_new w3 _
    · simp; omega
    · have := X2.out x hx; simp; omega
    · have := X3.out x hx; simp; omega
end Go.Proofs.YtbbaleambgaanaaGreatDoor
namespace Go.Proofs.YtbbaleambgaanaaGreatDoor
open Go.RowKit
set_option maxRecDepth 100000 in
set_option maxHeartbeats 8000000 in
theorem rread_stop {lo hi m : Nat} {zs cs : List Int} {F : Int} {o r : Nat} (n : Int) (w : World) (h : Ref w lo hi m zs F cs o r) (hn : 1 ≤ n) (ho : o = endN F zs.length) :
    Calls Tryz.prog 79 #[.pointer (some ⟨m, 0, none⟩), .int .i64 n] w fun e w' => e = .returned (.tuple #[.slice none 0 0, .int .i64 (endE F zs.length)]) ∧ Ref w' lo hi m zs F cs o r ∧ Out lo hi w w' := by
  have H := Lib.hid h
  obtain ⟨da, dc, sa, sc, h1, h2, h3, h4, h5, h6, h7, h8, h9, h10⟩ := h
  obtain ⟨L, hL⟩ := named zs.length
  have c0 := h1.get 0 rfl
  have c2 := h1.get 2 rfl
  have c3 := h1.get 3 rfl
  rw [← hL.out] at c0 ho ⊢
  have hl := h6
  rw [← hL.out] at hl
  clear h1 h2 h3 h4 h5 h6 h7 h8 h9 h10
  by_cases hF : 0 ≤ F ∧ F ≤ L
  · obtain ⟨f, rfl⟩ : ∃ f : Nat, F = f := ⟨F.toNat, by omega⟩
    have e0 : endN f L = f := by unfold endN; rw [if_pos hF]; rfl
    have e1 : endE f L = 11 := by unfold endE; rw [if_pos hF]
    rw [e0] at ho
    rw [e1]
    obtain rfl : o = f := ho
    have hd : decide ((0 : Int) ≤ (o : Int)) = true := by simp
    have hd' : (0 : Int) ≤ (o : Int) := by omega
    clear hF e0 e1
    go_enter Tryz.func79, Tryz.ntmps79
    go_wp2
    go_quiet (fail)
    go_wp2
    go_ret2
    exact ⟨rfl, H.out.out (drewN_out lo lo w _) (.inr (Nat.le_refl _)), drewN_out _ _ _ _⟩
  · have e0 : endN F L = L := by unfold endN; rw [if_neg hF]
    have e1 : endE F L = 4 := by unfold endE; rw [if_neg hF]
    rw [e0] at ho
    rw [e1]
    obtain rfl : o = L := ho
    by_cases h0 : 0 ≤ F
    · have hne : ((o : Int) == F) = false := by simp; omega
      clear hF e0 e1
      go_enter Tryz.func79, Tryz.ntmps79
      go_wp2
      go_quiet (fail)
      go_wp2
      go_quiet (fail)
      go_wp2
      go_ret2
      exact ⟨rfl, H.out.out ((drewN_out lo lo w _).trans (drewN_out _ _ _ _)) (.inr (Nat.le_refl _)), (drewN_out _ _ w _).trans (drewN_out _ _ _ _)⟩
    · have hd : decide ((0 : Int) ≤ F) = false := by simp; omega
      clear hF e0 e1
      go_enter Tryz.func79, Tryz.ntmps79
      go_wp2
      go_quiet (fail)
      go_wp2
      go_quiet (fail)
      go_wp2
      go_ret2
      exact ⟨rfl, H.out.out ((drewN_out lo lo w _).trans (drewN_out _ _ _ _)) (.inr (Nat.le_refl _)), (drewN_out _ _ w _).trans (drewN_out _ _ _ _)⟩
set_option maxRecDepth 100000 in
set_option maxHeartbeats 16000000 in
theorem rread_go {lo hi m : Nat} {zs cs : List Int} {F : Int} {o r : Nat} (n : Int) (w : World) (h : Ref w lo hi m zs F cs o r) (hn : 1 ≤ n) (hn2 : n ≤ 9223372036854775807) (ho : o < endN F zs.length) (k : Nat) (hk : readK (endN F zs.length) cs o r n = k) :
    Calls Tryz.prog 79 #[.pointer (some ⟨m, 0, none⟩), .int .i64 n] w fun e w' => ∃ b c, e = .returned (.tuple #[.slice b k c, .int .i64 0]) ∧
      InK .u8 w' b ((zs.drop o).take k) ∧ (∀ x, b = some x → w.heap.size ≤ x.block) ∧ Ref w' lo hi m zs F cs (o + k) (r + 1) ∧ Out lo hi w w' := by
  have H := Lib.hid h
  obtain ⟨da, dc, sa, sc, h1, h2, h3, h4, h5, h6, h7, h8, h9, h10⟩ := h
  have H1 := Lib.hid h1; have H2 := Lib.hid h2; have H3 := Lib.hid h3; have H4 := Lib.hid h4; have H5 := Lib.hid h5; have H6 := Lib.hid h6; have H7 := Lib.hid h7; have H8 := Lib.hid h8; have H9 := Lib.hid h9; have H10 := Lib.hid h10
  obtain ⟨L, hL⟩ := named zs.length
  have c0 := h1.get 0 rfl
  have c1 := h1.get 1 rfl
  have c2 := h1.get 2 rfl
  have c3 := h1.get 3 rfl
  have c4 := h1.get 4 rfl
  have f3 := h1.frozen 3
  have f4 := h1.frozen 4
  rw [← hL.out] at c0 ho hk
  obtain ⟨N, hN⟩ := named (endN F L)
  obtain ⟨C, hC⟩ := named (chunkZ cs r)
  rw [← hN.out] at ho hk
  have hNL : N ≤ L := by rw [hN.out]; exact endN_le _ _
  have hl : L ≤ 100000000 := by rw [hL.out]; exact h6
  have hC1 : 1 ≤ C := by rw [hC.out]; exact chunkZ_pos _ _
  have HK : Hid ((min (min n C) ((N - o : Nat) : Int)) = k) := by show _ = _; rw [← hk]; unfold readK; rw [← hC.out]; omega
  have KB : Hid (1 ≤ k ∧ o + k ≤ N) := by show _ ∧ _; have := HK.out; omega
  obtain ⟨b, off, rfl, hb⟩ := h2.inK.plain (by rw [← hL.out]; omega)
  have A3 : Hid (RowAt w b off zs) := by
    rcases h2 with h | ⟨b', off', e1, _, e3⟩
    · have h1 := hL.out; rw [h] at h1; simp at h1; omega
    · cases e1; exact e3
  have hoL : ¬ (L : Int) ≤ o := by omega
  have hoN : (o : Int) < N := by omega
  have hdc : L ≤ dc := by rw [hL.out]; exact h3
  have K1 : Hid (∀ w', Below w.heap.size w w' → w'.cell? ⟨m, 1, none⟩ = some (.slice sa cs.length sc) ∧ w'.cell? ⟨m, 2, none⟩ = some (.int .i64 F) ∧ w'.cell? ⟨m, 4, none⟩ = some (.int .i64 r)) := fun w' hb => ⟨(H1.out.below hb H1.out.lt).get 1 rfl, (H1.out.below hb H1.out.lt).get 2 rfl, (H1.out.below hb H1.out.lt).get 4 rfl⟩
  have NC : Hid (∀ w', Below w.heap.size w w' → Calls Tryz.prog 135 #[.agg #[.slice sa cs.length sc, .int .i64 F], .int .i64 r] w' fun e w'' => e = .returned (.int .i64 C) ∧ Below w.heap.size w w'') := by
    intro w' hb
    refine (rchunk_any sa sc cs F r w' (H4.out.below hb) H5.out).mono ?_
    rintro e w'' ⟨rfl, h⟩
    rw [← hC.out]
    exact ⟨rfl, hb.trans (h.mono hb.size)⟩
  clear h1 h2 h3 h4 h5 h6 h7 h8 h9 h10 hk
  by_cases h0 : 0 ≤ F
  · by_cases hFL : F < L
    · obtain ⟨f, rfl⟩ : ∃ f : Nat, F = f := ⟨F.toNat, by omega⟩
      obtain rfl : N = f := by rw [hN.out]; unfold endN; rw [if_pos (by omega)]; rfl
      have hne : ((o : Int) == N) = false := by simp; omega
      go_enter Tryz.func79, Tryz.ntmps79
      go_wp2
      go_quiet (fail)
      go_wp2
      go_quiet (fail)
      go_wp2_with fail
      go_region_held3 (fun w' => w'.cell? ⟨m, 1, none⟩ = some (.slice sa cs.length sc) ∧ w'.cell? ⟨m, 2, none⟩ = some (.int .i64 N) ∧ w'.cell? ⟨m, 4, none⟩ = some (.int .i64 r)) (first | exact ⟨c1, c2, c4⟩ | exact (K1.out _ ((drewN_below _ _ _).drew)) | exact (K1.out _ (drewN_below _ _ _)) | exact K1.out _ B2.out) (first | (go_at_call 135; refine (NC.out _ (by first | exact (drewN_below _ _ _).drew | exact drewN_below _ _ _)).mono ?_; rintro e w2 ⟨rfl, b2⟩; have B2 := Lib.hid b2; clear b2))
      have T2 := Lib.hid (H1.out.below B2.out H1.out.lt)
      clear c0 c1 c2 c3 c4 f3 f4
      have d0 : w2.cell? ⟨m, 0, none⟩ = some (.slice (some ⟨b, off, none⟩) L dc) := by have := T2.out.get 0 rfl; rwa [← hL.out] at this
      have d3 := T2.out.get 3 rfl
      have d4 := T2.out.get 4 rfl
      have K2 : Hid (∀ w', Below w2.heap.size w2 w' → w'.cell? ⟨m, 0, none⟩ = some (.slice (some ⟨b, off, none⟩) L dc) ∧ w'.cell? ⟨m, 3, none⟩ = some (.int .i64 o)) := fun w' hb => ⟨by have := (T2.out.below hb T2.out.lt).get 0 rfl; rwa [← hL.out] at this, (T2.out.below hb T2.out.lt).get 3 rfl⟩
      have Z2 : Hid (InK .u8 w2 (some ⟨b, off + o, none⟩) ((zs.drop o).take k)) := .inr ⟨b, off + o, rfl, Nat.lt_of_lt_of_le hb B2.out.size, (((A3.out.drop o).take k).below B2.out hb).1⟩
      have LEN : Hid (((zs.drop o).take k).length = k) := by show _ = _; have := KB.out; have := hL.out; rw [List.length_take, List.length_drop]; omega
      have k1 : ¬ dc = o := by omega
      have kb := KB.out
      obtain ⟨e, hee⟩ : ∃ e : Nat, e = o + k := ⟨_, rfl⟩
      have heo : e - o = k := by omega
      have k2 : (o : Int) ≤ e := by omega
      have k3 : (e : Int) ≤ dc := by omega
      have k4 : o ≤ e := by omega
      have k5 : e ≤ dc := by omega
      have E2 := Lib.hid hee
      by_cases hCn : C < n
      · by_cases hq : C < (N : Int) - o
        · obtain rfl : C = k := by have := HK.out; omega
          have he : (o : Int) + (k : Int) = (e : Int) := by omega
          clear kb hee
          go_wp2_with fail
          go_region_held3 (fun w' => w'.cell? ⟨m, 0, none⟩ = some (.slice (some ⟨b, off, none⟩) L dc) ∧ w'.cell? ⟨m, 3, none⟩ = some (.int .i64 o)) (first | exact ⟨d0, d3⟩ | exact K2.out _ B3.out | go_keep) (first | (refine step_append_fresh rfl (.tmp 93) (.tmp 103) 24 rfl 5 .u8 1 Tryz.underlying24 u8T w2 w2 (by repeat (first | exact Below.refl _ _ | refine Below.drew ?_ | refine Below.alloc ?_ (by simp; try omega) _)) (by repeat (first | exact Below.refl _ _ | refine Below.drew ?_ | refine Below.alloc ?_ (by simp; try omega) _)) _ rfl (by simp; try omega) (by simp; try omega) (some ⟨b, off + o, none⟩) k (dc - o) ((zs.drop o).take k) rfl Z2.out LEN.out (by have := KB.out; omega) (by have := KB.out; omega) ?_; intro a3 c3 w3 i3 p3 q3 b3 _ z3 x3; have I3 := Lib.hid i3; have P3 := Lib.hid p3; have B3 := Lib.hid b3; have X3 := Lib.hid x3; clear i3 p3 q3 b3 z3 x3))
          have T3 := Lib.hid (T2.out.below B3.out T2.out.lt)
          have g4 := T3.out.get 4 rfl
          have g3 := T3.out.get 3 rfl
          have kr : (r : Int) ≤ 100000000 := by have := H10.out; have := KB.out; omega
          have f3 := T3.out.frozen 3
          have f4 := T3.out.frozen 4
          clear d0 d3 d4
          go_wp2
          go_ret2
          have st := H.out.step (B2.out.trans (B3.out.mono B2.out.size)) _ k E2.out KB.out.1
          exact ⟨_, _, rfl, st.2.2 _ _ I3.out (fun x hx => Nat.le_trans B2.out.size (X3.out x hx).1), fun x hx => Nat.le_trans B2.out.size (X3.out x hx).1, st.1, st.2.1⟩
        · obtain rfl : N = e := by have := HK.out; omega
          clear kb hee
          go_wp2_with fail
          go_region_held3 (fun w' => w'.cell? ⟨m, 0, none⟩ = some (.slice (some ⟨b, off, none⟩) L dc) ∧ w'.cell? ⟨m, 3, none⟩ = some (.int .i64 o)) (first | exact ⟨d0, d3⟩ | exact K2.out _ B3.out | go_keep) (first | (refine step_append_fresh rfl (.tmp 93) (.tmp 103) 24 rfl 5 .u8 1 Tryz.underlying24 u8T w2 w2 (by repeat (first | exact Below.refl _ _ | refine Below.drew ?_ | refine Below.alloc ?_ (by simp; try omega) _)) (by repeat (first | exact Below.refl _ _ | refine Below.drew ?_ | refine Below.alloc ?_ (by simp; try omega) _)) _ rfl (by simp; try omega) (by simp; try omega) (some ⟨b, off + o, none⟩) k (dc - o) ((zs.drop o).take k) rfl Z2.out LEN.out (by have := KB.out; omega) (by have := KB.out; omega) ?_; intro a3 c3 w3 i3 p3 q3 b3 _ z3 x3; have I3 := Lib.hid i3; have P3 := Lib.hid p3; have B3 := Lib.hid b3; have X3 := Lib.hid x3; clear i3 p3 q3 b3 z3 x3))
          have T3 := Lib.hid (T2.out.below B3.out T2.out.lt)
          have g4 := T3.out.get 4 rfl
          have g3 := T3.out.get 3 rfl
          have kr : (r : Int) ≤ 100000000 := by have := H10.out; have := KB.out; omega
          have f3 := T3.out.frozen 3
          have f4 := T3.out.frozen 4
          clear d0 d3 d4
          go_wp2
          go_ret2
          have st := H.out.step (B2.out.trans (B3.out.mono B2.out.size)) _ k E2.out KB.out.1
          exact ⟨_, _, rfl, st.2.2 _ _ I3.out (fun x hx => Nat.le_trans B2.out.size (X3.out x hx).1), fun x hx => Nat.le_trans B2.out.size (X3.out x hx).1, st.1, st.2.1⟩
      · by_cases hq : n < (N : Int) - o
        · obtain rfl : n = k := by have := HK.out; omega
          have he : (o : Int) + (k : Int) = (e : Int) := by omega
          clear kb hee
          go_wp2_with fail
          go_region_held3 (fun w' => w'.cell? ⟨m, 0, none⟩ = some (.slice (some ⟨b, off, none⟩) L dc) ∧ w'.cell? ⟨m, 3, none⟩ = some (.int .i64 o)) (first | exact ⟨d0, d3⟩ | exact K2.out _ B3.out | go_keep) (first | (refine step_append_fresh rfl (.tmp 93) (.tmp 103) 24 rfl 5 .u8 1 Tryz.underlying24 u8T w2 w2 (by repeat (first | exact Below.refl _ _ | refine Below.drew ?_ | refine Below.alloc ?_ (by simp; try omega) _)) (by repeat (first | exact Below.refl _ _ | refine Below.drew ?_ | refine Below.alloc ?_ (by simp; try omega) _)) _ rfl (by simp; try omega) (by simp; try omega) (some ⟨b, off + o, none⟩) k (dc - o) ((zs.drop o).take k) rfl Z2.out LEN.out (by have := KB.out; omega) (by have := KB.out; omega) ?_; intro a3 c3 w3 i3 p3 q3 b3 _ z3 x3; have I3 := Lib.hid i3; have P3 := Lib.hid p3; have B3 := Lib.hid b3; have X3 := Lib.hid x3; clear i3 p3 q3 b3 z3 x3))
          have T3 := Lib.hid (T2.out.below B3.out T2.out.lt)
          have g4 := T3.out.get 4 rfl
          have g3 := T3.out.get 3 rfl
          have kr : (r : Int) ≤ 100000000 := by have := H10.out; have := KB.out; omega
          have f3 := T3.out.frozen 3
          have f4 := T3.out.frozen 4
          clear d0 d3 d4
          go_wp2
          go_ret2
          have st := H.out.step (B2.out.trans (B3.out.mono B2.out.size)) _ k E2.out KB.out.1
          exact ⟨_, _, rfl, st.2.2 _ _ I3.out (fun x hx => Nat.le_trans B2.out.size (X3.out x hx).1), fun x hx => Nat.le_trans B2.out.size (X3.out x hx).1, st.1, st.2.1⟩
        · obtain rfl : N = e := by have := HK.out; omega
          clear kb hee
          go_wp2_with fail
          go_region_held3 (fun w' => w'.cell? ⟨m, 0, none⟩ = some (.slice (some ⟨b, off, none⟩) L dc) ∧ w'.cell? ⟨m, 3, none⟩ = some (.int .i64 o)) (first | exact ⟨d0, d3⟩ | exact K2.out _ B3.out | go_keep) (first | (refine step_append_fresh rfl (.tmp 93) (.tmp 103) 24 rfl 5 .u8 1 Tryz.underlying24 u8T w2 w2 (by repeat (first | exact Below.refl _ _ | refine Below.drew ?_ | refine Below.alloc ?_ (by simp; try omega) _)) (by repeat (first | exact Below.refl _ _ | refine Below.drew ?_ | refine Below.alloc ?_ (by simp; try omega) _)) _ rfl (by simp; try omega) (by simp; try omega) (some ⟨b, off + o, none⟩) k (dc - o) ((zs.drop o).take k) rfl Z2.out LEN.out (by have := KB.out; omega) (by have := KB.out; omega) ?_; intro a3 c3 w3 i3 p3 q3 b3 _ z3 x3; have I3 := Lib.hid i3; have P3 := Lib.hid p3; have B3 := Lib.hid b3; have X3 := Lib.hid x3; clear i3 p3 q3 b3 z3 x3))
          have T3 := Lib.hid (T2.out.below B3.out T2.out.lt)
          have g4 := T3.out.get 4 rfl
          have g3 := T3.out.get 3 rfl
          have kr : (r : Int) ≤ 100000000 := by have := H10.out; have := KB.out; omega
          have f3 := T3.out.frozen 3
          have f4 := T3.out.frozen 4
          clear d0 d3 d4
          go_wp2
          go_ret2
          have st := H.out.step (B2.out.trans (B3.out.mono B2.out.size)) _ k E2.out KB.out.1
          exact ⟨_, _, rfl, st.2.2 _ _ I3.out (fun x hx => Nat.le_trans B2.out.size (X3.out x hx).1), fun x hx => Nat.le_trans B2.out.size (X3.out x hx).1, st.1, st.2.1⟩
    · obtain rfl : N = L := by rw [hN.out]; unfold endN; split <;> omega
      have hne : ((o : Int) == F) = false := by simp; omega
      go_enter Tryz.func79, Tryz.ntmps79
      go_wp2
      go_quiet (fail)
      go_wp2
      go_quiet (fail)
      go_wp2_with fail
      go_region_held3 (fun w' => w'.cell? ⟨m, 1, none⟩ = some (.slice sa cs.length sc) ∧ w'.cell? ⟨m, 2, none⟩ = some (.int .i64 F) ∧ w'.cell? ⟨m, 4, none⟩ = some (.int .i64 r)) (first | exact ⟨c1, c2, c4⟩ | exact (K1.out _ ((drewN_below _ _ _).drew)) | exact (K1.out _ (drewN_below _ _ _)) | exact K1.out _ B2.out) (first | (go_at_call 135; refine (NC.out _ (by first | exact (drewN_below _ _ _).drew | exact drewN_below _ _ _)).mono ?_; rintro e w2 ⟨rfl, b2⟩; have B2 := Lib.hid b2; clear b2))
      have T2 := Lib.hid (H1.out.below B2.out H1.out.lt)
      clear c0 c1 c2 c3 c4 f3 f4
      have d0 : w2.cell? ⟨m, 0, none⟩ = some (.slice (some ⟨b, off, none⟩) N dc) := by have := T2.out.get 0 rfl; rwa [← hL.out] at this
      have d3 := T2.out.get 3 rfl
      have d4 := T2.out.get 4 rfl
      have K2 : Hid (∀ w', Below w2.heap.size w2 w' → w'.cell? ⟨m, 0, none⟩ = some (.slice (some ⟨b, off, none⟩) N dc) ∧ w'.cell? ⟨m, 3, none⟩ = some (.int .i64 o)) := fun w' hb => ⟨by have := (T2.out.below hb T2.out.lt).get 0 rfl; rwa [← hL.out] at this, (T2.out.below hb T2.out.lt).get 3 rfl⟩
      have Z2 : Hid (InK .u8 w2 (some ⟨b, off + o, none⟩) ((zs.drop o).take k)) := .inr ⟨b, off + o, rfl, Nat.lt_of_lt_of_le hb B2.out.size, (((A3.out.drop o).take k).below B2.out hb).1⟩
      have LEN : Hid (((zs.drop o).take k).length = k) := by show _ = _; have := KB.out; have := hL.out; rw [List.length_take, List.length_drop]; omega
      have k1 : ¬ dc = o := by omega
      have kb := KB.out
      obtain ⟨e, hee⟩ : ∃ e : Nat, e = o + k := ⟨_, rfl⟩
      have heo : e - o = k := by omega
      have k2 : (o : Int) ≤ e := by omega
      have k3 : (e : Int) ≤ dc := by omega
      have k4 : o ≤ e := by omega
      have k5 : e ≤ dc := by omega
      have E2 := Lib.hid hee
      by_cases hCn : C < n
      · by_cases hq : C < (N : Int) - o
        · obtain rfl : C = k := by have := HK.out; omega
          have he : (o : Int) + (k : Int) = (e : Int) := by omega
          clear kb hee
          go_wp2_with fail
          go_region_held3 (fun w' => w'.cell? ⟨m, 0, none⟩ = some (.slice (some ⟨b, off, none⟩) N dc) ∧ w'.cell? ⟨m, 3, none⟩ = some (.int .i64 o)) (first | exact ⟨d0, d3⟩ | exact K2.out _ B3.out | go_keep) (first | (refine step_append_fresh rfl (.tmp 93) (.tmp 103) 24 rfl 5 .u8 1 Tryz.underlying24 u8T w2 w2 (by repeat (first | exact Below.refl _ _ | refine Below.drew ?_ | refine Below.alloc ?_ (by simp; try omega) _)) (by repeat (first | exact Below.refl _ _ | refine Below.drew ?_ | refine Below.alloc ?_ (by simp; try omega) _)) _ rfl (by simp; try omega) (by simp; try omega) (some ⟨b, off + o, none⟩) k (dc - o) ((zs.drop o).take k) rfl Z2.out LEN.out (by have := KB.out; omega) (by have := KB.out; omega) ?_; intro a3 c3 w3 i3 p3 q3 b3 _ z3 x3; have I3 := Lib.hid i3; have P3 := Lib.hid p3; have B3 := Lib.hid b3; have X3 := Lib.hid x3; clear i3 p3 q3 b3 z3 x3))
          have T3 := Lib.hid (T2.out.below B3.out T2.out.lt)
          have g4 := T3.out.get 4 rfl
          have g3 := T3.out.get 3 rfl
          have kr : (r : Int) ≤ 100000000 := by have := H10.out; have := KB.out; omega
          have f3 := T3.out.frozen 3
          have f4 := T3.out.frozen 4
          clear d0 d3 d4
          go_wp2
          go_ret2
          have st := H.out.step (B2.out.trans (B3.out.mono B2.out.size)) _ k E2.out KB.out.1
          exact ⟨_, _, rfl, st.2.2 _ _ I3.out (fun x hx => Nat.le_trans B2.out.size (X3.out x hx).1), fun x hx => Nat.le_trans B2.out.size (X3.out x hx).1, st.1, st.2.1⟩
        · obtain rfl : N = e := by have := HK.out; omega
          clear kb hee
          go_wp2_with fail
          go_region_held3 (fun w' => w'.cell? ⟨m, 0, none⟩ = some (.slice (some ⟨b, off, none⟩) N dc) ∧ w'.cell? ⟨m, 3, none⟩ = some (.int .i64 o)) (first | exact ⟨d0, d3⟩ | exact K2.out _ B3.out | go_keep) (first | (refine step_append_fresh rfl (.tmp 93) (.tmp 103) 24 rfl 5 .u8 1 Tryz.underlying24 u8T w2 w2 (by repeat (first | exact Below.refl _ _ | refine Below.drew ?_ | refine Below.alloc ?_ (by simp; try omega) _)) (by repeat (first | exact Below.refl _ _ | refine Below.drew ?_ | refine Below.alloc ?_ (by simp; try omega) _)) _ rfl (by simp; try omega) (by simp; try omega) (some ⟨b, off + o, none⟩) k (dc - o) ((zs.drop o).take k) rfl Z2.out LEN.out (by have := KB.out; omega) (by have := KB.out; omega) ?_; intro a3 c3 w3 i3 p3 q3 b3 _ z3 x3; have I3 := Lib.hid i3; have P3 := Lib.hid p3; have B3 := Lib.hid b3; have X3 := Lib.hid x3; clear i3 p3 q3 b3 z3 x3))
          have T3 := Lib.hid (T2.out.below B3.out T2.out.lt)
          have g4 := T3.out.get 4 rfl
          have g3 := T3.out.get 3 rfl
          have kr : (r : Int) ≤ 100000000 := by have := H10.out; have := KB.out; omega
          have f3 := T3.out.frozen 3
          have f4 := T3.out.frozen 4
          clear d0 d3 d4
          go_wp2
          go_ret2
          have st := H.out.step (B2.out.trans (B3.out.mono B2.out.size)) _ k E2.out KB.out.1
          exact ⟨_, _, rfl, st.2.2 _ _ I3.out (fun x hx => Nat.le_trans B2.out.size (X3.out x hx).1), fun x hx => Nat.le_trans B2.out.size (X3.out x hx).1, st.1, st.2.1⟩
      · by_cases hq : n < (N : Int) - o
        · obtain rfl : n = k := by have := HK.out; omega
          have he : (o : Int) + (k : Int) = (e : Int) := by omega
          clear kb hee
          go_wp2_with fail
          go_region_held3 (fun w' => w'.cell? ⟨m, 0, none⟩ = some (.slice (some ⟨b, off, none⟩) N dc) ∧ w'.cell? ⟨m, 3, none⟩ = some (.int .i64 o)) (first | exact ⟨d0, d3⟩ | exact K2.out _ B3.out | go_keep) (first | (refine step_append_fresh rfl (.tmp 93) (.tmp 103) 24 rfl 5 .u8 1 Tryz.underlying24 u8T w2 w2 (by repeat (first | exact Below.refl _ _ | refine Below.drew ?_ | refine Below.alloc ?_ (by simp; try omega) _)) (by repeat (first | exact Below.refl _ _ | refine Below.drew ?_ | refine Below.alloc ?_ (by simp; try omega) _)) _ rfl (by simp; try omega) (by simp; try omega) (some ⟨b, off + o, none⟩) k (dc - o) ((zs.drop o).take k) rfl Z2.out LEN.out (by have := KB.out; omega) (by have := KB.out; omega) ?_; intro a3 c3 w3 i3 p3 q3 b3 _ z3 x3; have I3 := Lib.hid i3; have P3 := Lib.hid p3; have B3 := Lib.hid b3; have X3 := Lib.hid x3; clear i3 p3 q3 b3 z3 x3))
          have T3 := Lib.hid (T2.out.below B3.out T2.out.lt)
          have g4 := T3.out.get 4 rfl
          have g3 := T3.out.get 3 rfl
          have kr : (r : Int) ≤ 100000000 := by have := H10.out; have := KB.out; omega
          have f3 := T3.out.frozen 3
          have f4 := T3.out.frozen 4
          clear d0 d3 d4
          go_wp2
          go_ret2
          have st := H.out.step (B2.out.trans (B3.out.mono B2.out.size)) _ k E2.out KB.out.1
          exact ⟨_, _, rfl, st.2.2 _ _ I3.out (fun x hx => Nat.le_trans B2.out.size (X3.out x hx).1), fun x hx => Nat.le_trans B2.out.size (X3.out x hx).1, st.1, st.2.1⟩
        · obtain rfl : N = e := by have := HK.out; omega
          clear kb hee
          go_wp2_with fail
          go_region_held3 (fun w' => w'.cell? ⟨m, 0, none⟩ = some (.slice (some ⟨b, off, none⟩) N dc) ∧ w'.cell? ⟨m, 3, none⟩ = some (.int .i64 o)) (first | exact ⟨d0, d3⟩ | exact K2.out _ B3.out | go_keep) (first | (refine step_append_fresh rfl (.tmp 93) (.tmp 103) 24 rfl 5 .u8 1 Tryz.underlying24 u8T w2 w2 (by repeat (first | exact Below.refl _ _ | refine Below.drew ?_ | refine Below.alloc ?_ (by simp; try omega) _)) (by repeat (first | exact Below.refl _ _ | refine Below.drew ?_ | refine Below.alloc ?_ (by simp; try omega) _)) _ rfl (by simp; try omega) (by simp; try omega) (some ⟨b, off + o, none⟩) k (dc - o) ((zs.drop o).take k) rfl Z2.out LEN.out (by have := KB.out; omega) (by have := KB.out; omega) ?_; intro a3 c3 w3 i3 p3 q3 b3 _ z3 x3; have I3 := Lib.hid i3; have P3 := Lib.hid p3; have B3 := Lib.hid b3; have X3 := Lib.hid x3; clear i3 p3 q3 b3 z3 x3))
          have T3 := Lib.hid (T2.out.below B3.out T2.out.lt)
          have g4 := T3.out.get 4 rfl
          have g3 := T3.out.get 3 rfl
          have kr : (r : Int) ≤ 100000000 := by have := H10.out; have := KB.out; omega
          have f3 := T3.out.frozen 3
          have f4 := T3.out.frozen 4
          clear d0 d3 d4
          go_wp2
          go_ret2
          have st := H.out.step (B2.out.trans (B3.out.mono B2.out.size)) _ k E2.out KB.out.1
          exact ⟨_, _, rfl, st.2.2 _ _ I3.out (fun x hx => Nat.le_trans B2.out.size (X3.out x hx).1), fun x hx => Nat.le_trans B2.out.size (X3.out x hx).1, st.1, st.2.1⟩
  · obtain rfl : N = L := by rw [hN.out]; unfold endN; rw [if_neg (by omega)]
    have hd : decide ((0 : Int) ≤ F) = false := by simp; omega
    go_enter Tryz.func79, Tryz.ntmps79
    go_wp2
    go_quiet (fail)
    go_wp2
    go_quiet (fail)
    go_wp2_with fail
    go_region_held3 (fun w' => w'.cell? ⟨m, 1, none⟩ = some (.slice sa cs.length sc) ∧ w'.cell? ⟨m, 2, none⟩ = some (.int .i64 F) ∧ w'.cell? ⟨m, 4, none⟩ = some (.int .i64 r)) (first | exact ⟨c1, c2, c4⟩ | exact (K1.out _ ((drewN_below _ _ _).drew)) | exact (K1.out _ (drewN_below _ _ _)) | exact K1.out _ B2.out) (first | (go_at_call 135; refine (NC.out _ (by first | exact (drewN_below _ _ _).drew | exact drewN_below _ _ _)).mono ?_; rintro e w2 ⟨rfl, b2⟩; have B2 := Lib.hid b2; clear b2))
    have T2 := Lib.hid (H1.out.below B2.out H1.out.lt)
    clear c0 c1 c2 c3 c4 f3 f4
    have d0 : w2.cell? ⟨m, 0, none⟩ = some (.slice (some ⟨b, off, none⟩) N dc) := by have := T2.out.get 0 rfl; rwa [← hL.out] at this
    have d3 := T2.out.get 3 rfl
    have d4 := T2.out.get 4 rfl
    have K2 : Hid (∀ w', Below w2.heap.size w2 w' → w'.cell? ⟨m, 0, none⟩ = some (.slice (some ⟨b, off, none⟩) N dc) ∧ w'.cell? ⟨m, 3, none⟩ = some (.int .i64 o)) := fun w' hb => ⟨by have := (T2.out.below hb T2.out.lt).get 0 rfl; rwa [← hL.out] at this, (T2.out.below hb T2.out.lt).get 3 rfl⟩
    have Z2 : Hid (InK .u8 w2 (some ⟨b, off + o, none⟩) ((zs.drop o).take k)) := .inr ⟨b, off + o, rfl, Nat.lt_of_lt_of_le hb B2.out.size, (((A3.out.drop o).take k).below B2.out hb).1⟩
    have LEN : Hid (((zs.drop o).take k).length = k) := by show _ = _; have := KB.out; have := hL.out; rw [List.length_take, List.length_drop]; omega
    have k1 : ¬ dc = o := by omega
    have kb := KB.out
    obtain ⟨e, hee⟩ : ∃ e : Nat, e = o + k := ⟨_, rfl⟩
    have heo : e - o = k := by omega
    have k2 : (o : Int) ≤ e := by omega
    have k3 : (e : Int) ≤ dc := by omega
    have k4 : o ≤ e := by omega
    have k5 : e ≤ dc := by omega
    have E2 := Lib.hid hee
    by_cases hCn : C < n
    · by_cases hq : C < (N : Int) - o
      · obtain rfl : C = k := by have := HK.out; omega
        have he : (o : Int) + (k : Int) = (e : Int) := by omega
        clear kb hee
        go_wp2_with fail
        go_region_held3 (fun w' => w'.cell? ⟨m, 0, none⟩ = some (.slice (some ⟨b, off, none⟩) N dc) ∧ w'.cell? ⟨m, 3, none⟩ = some (.int .i64 o)) (first | exact ⟨d0, d3⟩ | exact K2.out _ B3.out | go_keep) (first | (refine step_append_fresh rfl (.tmp 93) (.tmp 103) 24 rfl 5 .u8 1 Tryz.underlying24 u8T w2 w2 (by repeat (first | exact Below.refl _ _ | refine Below.drew ?_ | refine Below.alloc ?_ (by simp; try omega) _)) (by repeat (first | exact Below.refl _ _ | refine Below.drew ?_ | refine Below.alloc ?_ (by simp; try omega) _)) _ rfl (by simp; try omega) (by simp; try omega) (some ⟨b, off + o, none⟩) k (dc - o) ((zs.drop o).take k) rfl Z2.out LEN.out (by have := KB.out; omega) (by have := KB.out; omega) ?_; intro a3 c3 w3 i3 p3 q3 b3 _ z3 x3; have I3 := Lib.hid i3; have P3 := Lib.hid p3; have B3 := Lib.hid b3; have X3 := Lib.hid x3; clear i3 p3 q3 b3 z3 x3))
        have T3 := Lib.hid (T2.out.below B3.out T2.out.lt)
        have g4 := T3.out.get 4 rfl
        have g3 := T3.out.get 3 rfl
        have kr : (r : Int) ≤ 100000000 := by have := H10.out; have := KB.out; omega
        have f3 := T3.out.frozen 3
        have f4 := T3.out.frozen 4
        clear d0 d3 d4
        go_wp2
        go_ret2
        have st := H.out.step (B2.out.trans (B3.out.mono B2.out.size)) _ k E2.out KB.out.1
        exact ⟨_, _, rfl, st.2.2 _ _ I3.out (fun x hx => Nat.le_trans B2.out.size (X3.out x hx).1), fun x hx => Nat.le_trans B2.out.size (X3.out x hx).1, st.1, st.2.1⟩
      · obtain rfl : N = e := by have := HK.out; omega
        clear kb hee
        go_wp2_with fail
        go_region_held3 (fun w' => w'.cell? ⟨m, 0, none⟩ = some (.slice (some ⟨b, off, none⟩) N dc) ∧ w'.cell? ⟨m, 3, none⟩ = some (.int .i64 o)) (first | exact ⟨d0, d3⟩ | exact K2.out _ B3.out | go_keep) (first | (refine step_append_fresh rfl (.tmp 93) (.tmp 103) 24 rfl 5 .u8 1 Tryz.underlying24 u8T w2 w2 (by repeat (first | exact Below.refl _ _ | refine Below.drew ?_ | refine Below.alloc ?_ (by simp; try omega) _)) (by repeat (first | exact Below.refl _ _ | refine Below.drew ?_ | refine Below.alloc ?_ (by simp; try omega) _)) _ rfl (by simp; try omega) (by simp; try omega) (some ⟨b, off + o, none⟩) k (dc - o) ((zs.drop o).take k) rfl Z2.out LEN.out (by have := KB.out; omega) (by have := KB.out; omega) ?_; intro a3 c3 w3 i3 p3 q3 b3 _ z3 x3; have I3 := Lib.hid i3; have P3 := Lib.hid p3; have B3 := Lib.hid b3; have X3 := Lib.hid x3; clear i3 p3 q3 b3 z3 x3))
        have T3 := Lib.hid (T2.out.below B3.out T2.out.lt)
        have g4 := T3.out.get 4 rfl
        have g3 := T3.out.get 3 rfl
        have kr : (r : Int) ≤ 100000000 := by have := H10.out; have := KB.out; omega
        have f3 := T3.out.frozen 3
        have f4 := T3.out.frozen 4
        clear d0 d3 d4
        go_wp2
        go_ret2
        have st := H.out.step (B2.out.trans (B3.out.mono B2.out.size)) _ k E2.out KB.out.1
        exact ⟨_, _, rfl, st.2.2 _ _ I3.out (fun x hx => Nat.le_trans B2.out.size (X3.out x hx).1), fun x hx => Nat.le_trans B2.out.size (X3.out x hx).1, st.1, st.2.1⟩
    · by_cases hq : n < (N : Int) - o
      · obtain rfl : n = k := by have := HK.out; omega
        have he : (o : Int) + (k : Int) = (e : Int) := by omega
        clear kb hee
        go_wp2_with fail
        go_region_held3 (fun w' => w'.cell? ⟨m, 0, none⟩ = some (.slice (some ⟨b, off, none⟩) N dc) ∧ w'.cell? ⟨m, 3, none⟩ = some (.int .i64 o)) (first | exact ⟨d0, d3⟩ | exact K2.out _ B3.out | go_keep) (first | (refine step_append_fresh rfl (.tmp 93) (.tmp 103) 24 rfl 5 .u8 1 Tryz.underlying24 u8T w2 w2 (by repeat (first | exact Below.refl _ _ | refine Below.drew ?_ | refine Below.alloc ?_ (by simp; try omega) _)) (by repeat (first | exact Below.refl _ _ | refine Below.drew ?_ | refine Below.alloc ?_ (by simp; try omega) _)) _ rfl (by simp; try omega) (by simp; try omega) (some ⟨b, off + o, none⟩) k (dc - o) ((zs.drop o).take k) rfl Z2.out LEN.out (by have := KB.out; omega) (by have := KB.out; omega) ?_; intro a3 c3 w3 i3 p3 q3 b3 _ z3 x3; have I3 := Lib.hid i3; have P3 := Lib.hid p3; have B3 := Lib.hid b3; have X3 := Lib.hid x3; clear i3 p3 q3 b3 z3 x3))
        have T3 := Lib.hid (T2.out.below B3.out T2.out.lt)
        have g4 := T3.out.get 4 rfl
        have g3 := T3.out.get 3 rfl
        have kr : (r : Int) ≤ 100000000 := by have := H10.out; have := KB.out; omega
        have f3 := T3.out.frozen 3
        have f4 := T3.out.frozen 4
        clear d0 d3 d4
        go_wp2
        go_ret2
        have st := H.out.step (B2.out.trans (B3.out.mono B2.out.size)) _ k E2.out KB.out.1
        exact ⟨_, _, rfl, st.2.2 _ _ I3.out (fun x hx => Nat.le_trans B2.out.size (X3.out x hx).1), fun x hx => Nat.le_trans B2.out.size (X3.out x hx).1, st.1, st.2.1⟩
      · obtain rfl : N = e := by have := HK.out; omega
        clear kb hee
        go_wp2_with fail
        go_region_held3 (fun w' => w'.cell? ⟨m, 0, none⟩ = some (.slice (some ⟨b, off, none⟩) N dc) ∧ w'.cell? ⟨m, 3, none⟩ = some (.int .i64 o)) (first | exact ⟨d0, d3⟩ | exact K2.out _ B3.out | go_keep) (first | (refine step_append_fresh rfl (.tmp 93) (.tmp 103) 24 rfl 5 .u8 1 Tryz.underlying24 u8T w2 w2 (by repeat (first | exact Below.refl _ _ | refine Below.drew ?_ | refine Below.alloc ?_ (by simp; try omega) _)) (by repeat (first | exact Below.refl _ _ | refine Below.drew ?_ | refine Below.alloc ?_ (by simp; try omega) _)) _ rfl (by simp; try omega) (by simp; try omega) (some ⟨b, off + o, none⟩) k (dc - o) ((zs.drop o).take k) rfl Z2.out LEN.out (by have := KB.out; omega) (by have := KB.out; omega) ?_; intro a3 c3 w3 i3 p3 q3 b3 _ z3 x3; have I3 := Lib.hid i3; have P3 := Lib.hid p3; have B3 := Lib.hid b3; have X3 := Lib.hid x3; clear i3 p3 q3 b3 z3 x3))
        have T3 := Lib.hid (T2.out.below B3.out T2.out.lt)
        have g4 := T3.out.get 4 rfl
        have g3 := T3.out.get 3 rfl
        have kr : (r : Int) ≤ 100000000 := by have := H10.out; have := KB.out; omega
        have f3 := T3.out.frozen 3
        have f4 := T3.out.frozen 4
        clear d0 d3 d4
        go_wp2
        go_ret2
        have st := H.out.step (B2.out.trans (B3.out.mono B2.out.size)) _ k E2.out KB.out.1
        exact ⟨_, _, rfl, st.2.2 _ _ I3.out (fun x hx => Nat.le_trans B2.out.size (X3.out x hx).1), fun x hx => Nat.le_trans B2.out.size (X3.out x hx).1, st.1, st.2.1⟩
end Go.Proofs.YtbbaleambgaanaaGreatDoor
