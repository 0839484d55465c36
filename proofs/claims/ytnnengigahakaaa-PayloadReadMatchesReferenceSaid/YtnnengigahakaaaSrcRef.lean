/-
  Layer 4: walks of the reference: New.
-/
import Derived.Test.YtnnengigahakaaaSrcUse
import Derived.Test.YtnnengigahakaaaRefChunk
namespace Go.Proofs.Ytnnengigahakaaa
open Go.RowKit

/-- at m lies the reference's source -/
def Ref (w : World) (lo hi m : Nat) (zs : List Int) (F : Int) (cs : List Int) (o r : Nat) : Prop :=
  ∃ da dc sa sc, ObjAt w m 69 [.slice da zs.length dc, .slice sa cs.length sc, .int .i64 F, .int .i64 o, .int .i64 r] ∧ BytesIn w da zs ∧ zs.length ≤ dc ∧ InK .i64 w sa cs ∧ cs.length ≤ 1000 ∧ zs.length ≤ 100000000 ∧
    (lo ≤ m ∧ m < hi ∧ hi ≤ w.heap.size) ∧ (∀ x, da = some x → lo ≤ x.block ∧ x.block < hi ∧ x.block ≠ m) ∧ (∀ x, sa = some x → lo ≤ x.block ∧ x.block < hi ∧ x.block ≠ m) ∧ r ≤ o

theorem Ref.out {w w' : World} {lo hi m lo' hi' : Nat} {zs cs : List Int} {F : Int} {o r : Nat} (h : Ref w lo hi m zs F cs o r) (ho : Out lo' hi' w w') (hd : hi ≤ lo' ∨ hi' ≤ lo) : Ref w' lo hi m zs F cs o r := by
  obtain ⟨da, dc, sa, sc, h1, h2, h3, h4, h5, h6, h7, h8, h9, h10⟩ := h
  refine ⟨da, dc, sa, sc, h1.out ho (by omega), h2.out ho (fun x hx => by have := h8 x hx; omega), h3, h4.out ho (fun x hx => by have := h9 x hx; omega), h5, h6, ?_, h8, h9, h10⟩
  have := ho.size
  omega
theorem Ref.size {w : World} {lo hi m : Nat} {zs cs : List Int} {F : Int} {o r : Nat} (h : Ref w lo hi m zs F cs o r) : hi ≤ w.heap.size ∧ lo ≤ m ∧ m < hi := by
  obtain ⟨_, _, _, _, _, _, _, _, _, _, h7, _⟩ := h; exact ⟨h7.2.2, h7.1, h7.2.1⟩

theorem Ref.step {w w3 : World} {lo hi m : Nat} {zs cs : List Int} {F : Int} {o r : Nat} (h : Ref w lo hi m zs F cs o r) (hb : Below w.heap.size w w3) (e k : Nat) (he : e = o + k) (hk : 1 ≤ k) :
    Ref ((w3.setCell ⟨m, 3, none⟩ (.int .i64 e)).setCell ⟨m, 4, none⟩ (.int .i64 (r + 1))) lo hi m zs F cs (o + k) (r + 1) ∧ Out lo hi w ((w3.setCell ⟨m, 3, none⟩ (.int .i64 e)).setCell ⟨m, 4, none⟩ (.int .i64 (r + 1))) ∧
    ∀ b ys, InK .u8 w3 b ys → (∀ x, b = some x → w.heap.size ≤ x.block) → InK .u8 ((w3.setCell ⟨m, 3, none⟩ (.int .i64 e)).setCell ⟨m, 4, none⟩ (.int .i64 (r + 1))) b ys := by
  obtain ⟨da, dc, sa, sc, h1, h2, h3, h4, h5, h6, h7, h8, h9, h10⟩ := h
  subst he
  have hlt := h1.lt
  have hs := hb.size
  refine ⟨⟨da, dc, sa, sc, ((h1.below hb hlt).set 3 _).set 4 _, ((h2.below hb).set _ (fun x hx => (h8 x hx).2.2)).set _ (fun x hx => (h8 x hx).2.2), h3, ((h4.below hb).set _ (fun x hx => (h9 x hx).2.2)).set _ (fun x hx => (h9 x hx).2.2), h5, h6, ?_, h8, h9, by omega⟩, ?_, ?_⟩
  · simp [World.setCell]; omega
  · exact ((Out.of_below hb (Nat.le_refl _)).setCell (by show lo ≤ m; omega) (by show m < hi; omega) _).setCell (by show lo ≤ m; omega) (by show m < hi; omega) _
  · intro b ys hk hx
    exact (hk.set _ (fun x e => by have := hx x e; omega)).set _ (fun x e => by have := hx x e; omega)

set_option maxRecDepth 100000 in
set_option maxHeartbeats 8000000 in
theorem rnew_any (a : Option Addr) (n cap : Nat) (zs : List Int) (ca : Option Addr) (cl cc : Nat) (cs : List Int) (F : Int) (w : World) (hb : BytesIn w a zs) (hl : zs.length = n) (hn : n ≤ 100000000)
    (hi : InK .i64 w ca cs) (hcl : cs.length = cl) (hc : cl ≤ 1000) :
    Calls Try.prog 11 #[.slice a n cap, .agg #[.slice ca cl cc, .int .i64 F]] w fun e w' => ∃ m, e = .returned (.pointer (some ⟨m, 0, none⟩)) ∧
      Ref w' w.heap.size w'.heap.size m zs F cs 0 0 ∧ Below w.heap.size w w' := by
  have HB := Lib.hid hb; have HL := Lib.hid hl; have HI := Lib.hid hi; have HCL := Lib.hid hcl; have HC := Lib.hid hc; have HN := Lib.hid hn
  clear hb hl hi hcl hc
  go_enter Try.func11, Try.ntmps11
  go_wp2_with (refine wpList_box_obj rfl 25 _ rfl [.slice ca cl cc, .int .i64 F] rfl ?_; intro w1 h1 b1; have H1 := Lib.hid h1; have B1 := Lib.hid b1; clear h1 b1)
  have K0 : Hid (∀ w', Below w1.heap.size w1 w' → w'.cell? ⟨w.heap.size, 0, none⟩ = some (.slice ca cl cc) ∧ w'.cell? ⟨w.heap.size, 1, none⟩ = some (.int .i64 F)) := fun w' hb => ⟨(H1.out.below hb H1.out.lt).get 0 rfl, (H1.out.below hb H1.out.lt).get 1 rfl⟩
  have X1 := Lib.hid (HB.out.below B1.out).inK; have Y1 := Lib.hid (HI.out.below B1.out)
  obtain ⟨d0, d1⟩ := K0.out _ (Below.refl _ _)
  go_region_held3 (fun w' => w'.cell? ⟨w.heap.size, 0, none⟩ = some (.slice ca cl cc) ∧ w'.cell? ⟨w.heap.size, 1, none⟩ = some (.int .i64 F)) (first | exact K0.out _ (Below.refl _ _).drew | exact ⟨d0, d1⟩ | go_keep) (first | (refine step_append_fresh rfl (.tmp 5) (.tmp 6) 22 rfl 5 .u8 1 Try.underlying22 u8T w1 w1 (by repeat (first | exact Below.refl _ _ | refine Below.drew ?_ | refine Below.alloc ?_ (by simp; try omega) _)) (by repeat (first | exact Below.refl _ _ | refine Below.drew ?_ | refine Below.alloc ?_ (by simp; try omega) _)) _ rfl (by simp; try omega) (by simp; try omega) a n cap zs rfl X1.out HL.out (by have := HN.out; omega) (by have := HN.out; omega) ?_; intro a2 c2 w2 i2 p2 q2 b2 _ z2 x2; try simp at z2; have L2 := Lib.hid z2; clear z2; have I2 := Lib.hid i2; have P2 := Lib.hid p2; have B2 := Lib.hid b2; have X2 := Lib.hid x2; obtain ⟨e0, e1⟩ := K0.out _ b2; clear i2 p2 q2 b2 x2) | (refine step_append_fresh rfl (.tmp 8) (.tmp 10) 23 rfl 3 .i64 8 Try.underlying23 i64T w1 w2 (by repeat (first | exact Below.refl _ _ | exact B2.out | refine Below.drew ?_ | refine Below.alloc ?_ (by have := B2.out.size; simp; try omega) _)) (by repeat (first | exact Below.refl _ _ | refine Below.drew ?_ | refine Below.alloc ?_ (by simp; try omega) _)) _ rfl (by have := B2.out.size; simp; try omega) (by have := B2.out.size; have := L2.out; simp; try omega) ca cl cc cs rfl Y1.out HCL.out (by have := HC.out; omega) (by have := HC.out; omega) ?_; intro a3 c3 w3 i3 p3 q3 b3 b23 _ x3; have I3 := Lib.hid i3; have P3 := Lib.hid p3; have B3 := Lib.hid b3; have B23 := Lib.hid b23; have X3 := Lib.hid x3; obtain ⟨g0, g1⟩ := K0.out _ b3; clear i3 p3 q3 b3 b23 x3))
  all_goals
    go_wp2
    go_ret
    have bz := B2.out.size; have bz3 := B23.out.size; have bz1 := B1.out.size; have lt := H1.out.lt
    have B4 : Below w3.heap.size w3 (w3.alloc (.cells #[.slice a2 n c2, .slice a3 cl c3, .int .i64 F, .int .i64 0, .int .i64 0] 69)) := (Below.refl _ _).alloc (Nat.le_refl _) _
    refine ⟨_, rfl, ⟨a2, c2, a3, c3, ?_, ((I2.out.below B23.out).below B4).bytes HB.out.bytes, by rw [HL.out]; exact P2.out, I3.out.below B4, by rw [HCL.out]; exact HC.out, by rw [HL.out]; exact HN.out, ?_, fun x hx => ?_, fun x hx => ?_, Nat.le_refl _⟩, (B1.out.trans (B3.out.mono bz1)).trans (B4.mono (by omega))⟩
    · rw [HL.out, HCL.out]; exact heap_alloc_new w3 _
    · simp; omega
    · have := X2.out x hx; simp; omega
    · have := X3.out x hx; simp; omega
end Go.Proofs.Ytnnengigahakaaa
