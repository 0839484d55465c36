/-
  Layer 4: what a source is in memory; the walk of New.
-/
import Derived.Test.YtnnengigahakaaaSrcSmall
namespace Go.Proofs.Ytnnengigahakaaa
open Go.RowKit

/-- at s lies a source of the bytes zs that ends with the error E, with the chunk sizes cs, behind r reads that delivered o bytes; all its memory lies in the blocks lo .. hi -/
def Src (w : World) (lo hi s : Nat) (zs : List Int) (E : Int) (cs : List Int) (o r : Nat) : Prop :=
  ∃ c da dc sa sc, ObjAt w s 67 [.slice da zs.length dc, .int .i64 E, .int .i64 o, .int .i64 r, .func (.func 24) #[.pointer (some ⟨c, 0, none⟩)] #[]] ∧
    Chk w c sa sc cs r ∧ BytesIn w da zs ∧ zs.length ≤ dc ∧ dc ≤ maxLen ∧ zs.length ≤ 140737488355328 ∧
    (lo ≤ s ∧ s < hi ∧ lo ≤ c ∧ c < hi ∧ s ≠ c ∧ hi ≤ w.heap.size) ∧
    (∀ x, da = some x → lo ≤ x.block ∧ x.block < hi ∧ x.block ≠ s ∧ x.block ≠ c) ∧ (∀ x, sa = some x → lo ≤ x.block ∧ x.block < hi ∧ x.block ≠ s) ∧ o ≤ zs.length ∧ r ≤ o

theorem Chk.out {w w' : World} {c lo hi : Nat} {sa : Option Addr} {sc : Nat} {cs : List Int} {r : Nat} (h : Chk w c sa sc cs r) (ho : Out lo hi w w') (hc : c < lo ∨ hi ≤ c) (hs : ∀ x, sa = some x → x.block < lo ∨ hi ≤ x.block) : Chk w' c sa sc cs r := by
  obtain ⟨h1, h2, h3, h4⟩ := h
  exact ⟨h1.out ho hc, h2.out ho hs, h3, h4⟩

/-- a source stays where only blocks beside its own turn -/
theorem Src.out {w w' : World} {lo hi s lo' hi' : Nat} {zs cs : List Int} {E : Int} {o r : Nat} (h : Src w lo hi s zs E cs o r) (ho : Out lo' hi' w w') (hd : hi ≤ lo' ∨ hi' ≤ lo) : Src w' lo hi s zs E cs o r := by
  obtain ⟨c, da, dc, sa, sc, h1, h2, h3, h4, h5, h6, h7, h8, h9, h10⟩ := h
  refine ⟨c, da, dc, sa, sc, h1.out ho (by omega), h2.out ho (by omega) (fun x hx => by have := h9 x hx; omega), h3.out ho (fun x hx => by have := h8 x hx; omega), h4, h5, h6, ?_, h8, h9, h10⟩
  have := ho.size
  omega
theorem Src.below {w w' : World} {lo hi s : Nat} {zs cs : List Int} {E : Int} {o r : Nat} (h : Src w lo hi s zs E cs o r) (hb : Below w.heap.size w w') : Src w' lo hi s zs E cs o r := by
  have hh : hi ≤ w.heap.size := by obtain ⟨_, _, _, _, _, _, _, _, _, _, _, h7, _⟩ := h; exact h7.2.2.2.2.2
  exact h.out (lo' := hi) (hi' := hi) (.of_below hb (Nat.le_refl _)) (.inl (Nat.le_refl _))

/-- how many bytes a source delivers, and what it answers then -/
def endN (F : Int) (n : Nat) : Nat := if 0 ≤ F ∧ F ≤ n then F.toNat else n
def endE (F : Int) (n : Nat) : Int := if 0 ≤ F ∧ F ≤ n then 11 else 4

set_option maxHeartbeats 4000000 in
theorem new_any (a : Option Addr) (n cap : Nat) (zs : List Int) (ca : Option Addr) (cl cc : Nat) (cs : List Int) (F : Int) (w : World) (hb : BytesIn w a zs) (hl : zs.length = n) (hnc : n ≤ cap) (hn : n ≤ 140737488355328)
    (hi : InK .i64 w ca cs) (hcl : cs.length = cl) (hc : cl ≤ 17592186044416) :
    Calls Try.prog 10 #[.slice a n cap, .agg #[.slice ca cl cc, .int .i64 F]] w fun e w' => ∃ s, e = .returned (.pointer (some ⟨s, 0, none⟩)) ∧
      Src w' w.heap.size w'.heap.size s (zs.take (endN F n)) (endE F n) cs 0 0 ∧ Below w.heap.size w w' := by
  have HB := Lib.hid hb; have HL := Lib.hid hl; have HI := Lib.hid hi; have HCL := Lib.hid hcl; have HC := Lib.hid hc; have HN := Lib.hid hn; have HNC := Lib.hid hnc
  clear hb hl hi hcl hc
  have hmf : ∀ (fn : Fn) (first cap : Array Value) (w : World), (Instr.makeFunc fn first cap).run Try.prog w = .ok (.func fn first cap) w := fun _ _ _ _ => rfl
  have hz : (Try.prog.info? 63).map (·.zero) = some (some (.agg [Value.slice none 0 0, .int .i64 0].toArray)) := by kernel_rfl
  have hs : (Try.prog.info? 63).map (·.size) = some 2 := by kernel_rfl
  have HZ := Lib.hid hz; have HS := Lib.hid hs
  clear hz hs
  by_cases hF : 0 ≤ F ∧ F ≤ n
  · obtain ⟨f, rfl⟩ : ∃ f : Nat, F = f := ⟨F.toNat, by omega⟩
    have hfn : f ≤ n := by omega
    have hfn' : (f : Int) ≤ n := by omega
    have hfc : f ≤ cap := by omega
    have E1 : Hid (endN f n = f) := by show _ = _; unfold endN; rw [if_pos hF]; rfl
    have E2 : Hid (endE f n = 11) := by show _ = _; unfold endE; rw [if_pos hF]
    have h0f : (0 : Int) ≤ (f : Int) := by omega
    clear hF
    rw [E1.out, E2.out]
    go_enter Try.func10, Try.ntmps10
    go_wp2_with (first | (refine wpList_box_obj rfl 25 _ rfl [.slice ca cl cc, .int .i64 f] rfl ?_; intro w1 h1 b1; have H1 := Lib.hid h1; have B1 := Lib.hid b1; have c0 := h1.get 0 rfl; have c1 := h1.get 1 rfl; clear h1 b1))
    refine (iclone ca cl cc cs w1 (HI.out.below B1.out) HCL.out HC.out).mono ?_; rintro e w2 ⟨v2, rfl, o2, b2⟩
    obtain ⟨sa, sc, rfl, i2, _, _, _, x2⟩ := own_any o2
    have B2 := Lib.hid (B1.out.trans (b2.mono B1.out.size)); have I2 := Lib.hid i2; have X2 := Lib.hid x2; have G1 := Lib.hid B1.out.size; have LT1 := Lib.hid H1.out.lt; have G2 := Lib.hid b2.size
    clear o2 b2 i2 x2 c0 c1
    go_wp2_with (first | (refine wpList_alloc_obj rfl 63 rfl [.slice none 0 0, .int .i64 0] HZ.out ?_; intro w3 h3 b3; have H3 := Lib.hid h3; have B3 := Lib.hid b3; clear h3 b3) | (refine wpList_store_obj rfl 63 _ _ rfl w2.heap.size rfl [.slice sa cl sc, .int .i64 0] [.slice none 0 0, .int .i64 0] rfl 63 H3.out HS.out rfl (by intro v hv; simp at hv; rcases hv with rfl | rfl <;> rfl) ?_; intro w4 h4 t4; have H4 := Lib.hid h4; have T4 := Lib.hid t4; clear h4 t4))
    have B4 := Lib.hid (B3.out.trans (T4.out.below (Nat.le_refl _)))
    have Z4 := Lib.hid (B2.out.trans (B4.out.mono B2.out.size))
    have L4 := Lib.hid H4.out.lt
    refine (bclone a f cap (zs.take f) w4 ((HB.out.below Z4.out).take f).inK (by rw [List.length_take, HL.out]; omega) (by have := HN.out; omega)).mono ?_; rintro e w5 ⟨v5, rfl, o5, b5⟩
    obtain ⟨da, dc, rfl, i5, dc1, dc2, _, x5⟩ := own_any o5
    have B5 := Lib.hid b5; have I5 := Lib.hid i5; have X5 := Lib.hid x5; have D1 := Lib.hid dc1; have D2 := Lib.hid dc2
    clear o5 b5 i5 x5 dc1 dc2
    go_wp2_with (first | (refine wpList_box_obj rfl 67 _ rfl [.slice da f dc, .int .i64 11, .int .i64 0, .int .i64 0, .func (.func 24) #[.pointer (some ⟨w2.heap.size, 0, none⟩)] #[]] rfl ?_; intro w6 h6 b6; have H6 := Lib.hid h6; have B6 := Lib.hid b6; clear h6 b6))
    go_ret
    have g1 := G1.out; have g2 := G2.out; have l1 := LT1.out; have l4 := L4.out; have g5 := B5.out.size; have l6 := H6.out.lt; have g6 := B6.out.size; have g4 := B4.out.size
    have b46 := B5.out.trans (B6.out.mono B5.out.size)
    have b06 := Z4.out.trans (b46.mono Z4.out.size)
    have b26 := B4.out.trans (b46.mono B4.out.size)
    have lz : (zs.take f).length = f := (by rw [List.length_take, HL.out]; omega)
    refine ⟨_, rfl, ⟨w2.heap.size, da, dc, sa, sc, by rw [lz]; exact H6.out, ⟨?_, I2.out.below b26, by rw [HCL.out]; have := HC.out; omega, fun x hx => by have := X2.out x hx; omega⟩, (I5.out.bytes ((HB.out.below Z4.out).take f).bytes).below B6.out, by rw [lz]; exact D1.out, D2.out, by rw [lz]; have := HN.out; omega, ?_, fun x hx => by have := X5.out x hx; omega, fun x hx => by have := X2.out x hx; omega, Nat.zero_le _, Nat.le_refl _⟩, b06⟩
    · have : ixN cs 0 = 0 := by unfold ixN; split <;> simp
      rw [this, HCL.out]
      exact H4.out.below b46 L4.out
    · omega
  · have E1 : Hid (endN F n = n) := by show _ = _; unfold endN; rw [if_neg hF]
    have E2 : Hid (endE F n = 4) := by show _ = _; unfold endE; rw [if_neg hF]
    have h1 : 0 ≤ F → ¬ F ≤ n := fun h h' => hF ⟨h, h'⟩
    clear hF
    have ez : zs.take n = zs := List.take_of_length_le (by rw [HL.out]; exact Nat.le_refl _)
    rw [E1.out, E2.out, ez]
    clear ez
    by_cases h0 : 0 ≤ F
    · have h1 := h1 h0
      go_enter Try.func10, Try.ntmps10
      go_wp2_with (first | (refine wpList_box_obj rfl 25 _ rfl [.slice ca cl cc, .int .i64 F] rfl ?_; intro w1 h1 b1; have H1 := Lib.hid h1; have B1 := Lib.hid b1; have c0 := h1.get 0 rfl; have c1 := h1.get 1 rfl; clear h1 b1))
      refine (iclone ca cl cc cs w1 (HI.out.below B1.out) HCL.out HC.out).mono ?_; rintro e w2 ⟨v2, rfl, o2, b2⟩
      obtain ⟨sa, sc, rfl, i2, _, _, _, x2⟩ := own_any o2
      have B2 := Lib.hid (B1.out.trans (b2.mono B1.out.size)); have I2 := Lib.hid i2; have X2 := Lib.hid x2; have G1 := Lib.hid B1.out.size; have LT1 := Lib.hid H1.out.lt; have G2 := Lib.hid b2.size
      clear o2 b2 i2 x2 c0 c1
      go_wp2_with (first | (refine wpList_alloc_obj rfl 63 rfl [.slice none 0 0, .int .i64 0] HZ.out ?_; intro w3 h3 b3; have H3 := Lib.hid h3; have B3 := Lib.hid b3; clear h3 b3) | (refine wpList_store_obj rfl 63 _ _ rfl w2.heap.size rfl [.slice sa cl sc, .int .i64 0] [.slice none 0 0, .int .i64 0] rfl 63 H3.out HS.out rfl (by intro v hv; simp at hv; rcases hv with rfl | rfl <;> rfl) ?_; intro w4 h4 t4; have H4 := Lib.hid h4; have T4 := Lib.hid t4; clear h4 t4))
      have B4 := Lib.hid (B3.out.trans (T4.out.below (Nat.le_refl _)))
      have Z4 := Lib.hid (B2.out.trans (B4.out.mono B2.out.size))
      have L4 := Lib.hid H4.out.lt
      refine (bclone a n cap zs w4 (HB.out.below Z4.out).inK HL.out HN.out).mono ?_; rintro e w5 ⟨v5, rfl, o5, b5⟩
      obtain ⟨da, dc, rfl, i5, dc1, dc2, _, x5⟩ := own_any o5
      have B5 := Lib.hid b5; have I5 := Lib.hid i5; have X5 := Lib.hid x5; have D1 := Lib.hid dc1; have D2 := Lib.hid dc2
      clear o5 b5 i5 x5 dc1 dc2
      go_wp2_with (first | (refine wpList_box_obj rfl 67 _ rfl [.slice da n dc, .int .i64 4, .int .i64 0, .int .i64 0, .func (.func 24) #[.pointer (some ⟨w2.heap.size, 0, none⟩)] #[]] rfl ?_; intro w6 h6 b6; have H6 := Lib.hid h6; have B6 := Lib.hid b6; clear h6 b6))
      go_ret
      have g1 := G1.out; have g2 := G2.out; have l1 := LT1.out; have l4 := L4.out; have g5 := B5.out.size; have l6 := H6.out.lt; have g6 := B6.out.size; have g4 := B4.out.size
      have b46 := B5.out.trans (B6.out.mono B5.out.size)
      have b06 := Z4.out.trans (b46.mono Z4.out.size)
      have b26 := B4.out.trans (b46.mono B4.out.size)
      have lz : zs.length = n := HL.out
      refine ⟨_, rfl, ⟨w2.heap.size, da, dc, sa, sc, by rw [lz]; exact H6.out, ⟨?_, I2.out.below b26, by rw [HCL.out]; have := HC.out; omega, fun x hx => by have := X2.out x hx; omega⟩, (I5.out.bytes (HB.out.below Z4.out).bytes).below B6.out, by rw [lz]; exact D1.out, D2.out, by rw [lz]; have := HN.out; omega, ?_, fun x hx => by have := X5.out x hx; omega, fun x hx => by have := X2.out x hx; omega, Nat.zero_le _, Nat.le_refl _⟩, b06⟩
      · have : ixN cs 0 = 0 := by unfold ixN; split <;> simp
        rw [this, HCL.out]
        exact H4.out.below b46 L4.out
      · omega
    · clear h1
      go_enter Try.func10, Try.ntmps10
      go_wp2_with (first | (refine wpList_box_obj rfl 25 _ rfl [.slice ca cl cc, .int .i64 F] rfl ?_; intro w1 h1 b1; have H1 := Lib.hid h1; have B1 := Lib.hid b1; have c0 := h1.get 0 rfl; have c1 := h1.get 1 rfl; clear h1 b1))
      refine (iclone ca cl cc cs w1 (HI.out.below B1.out) HCL.out HC.out).mono ?_; rintro e w2 ⟨v2, rfl, o2, b2⟩
      obtain ⟨sa, sc, rfl, i2, _, _, _, x2⟩ := own_any o2
      have B2 := Lib.hid (B1.out.trans (b2.mono B1.out.size)); have I2 := Lib.hid i2; have X2 := Lib.hid x2; have G1 := Lib.hid B1.out.size; have LT1 := Lib.hid H1.out.lt; have G2 := Lib.hid b2.size
      clear o2 b2 i2 x2 c0 c1
      go_wp2_with (first | (refine wpList_alloc_obj rfl 63 rfl [.slice none 0 0, .int .i64 0] HZ.out ?_; intro w3 h3 b3; have H3 := Lib.hid h3; have B3 := Lib.hid b3; clear h3 b3) | (refine wpList_store_obj rfl 63 _ _ rfl w2.heap.size rfl [.slice sa cl sc, .int .i64 0] [.slice none 0 0, .int .i64 0] rfl 63 H3.out HS.out rfl (by intro v hv; simp at hv; rcases hv with rfl | rfl <;> rfl) ?_; intro w4 h4 t4; have H4 := Lib.hid h4; have T4 := Lib.hid t4; clear h4 t4))
      have B4 := Lib.hid (B3.out.trans (T4.out.below (Nat.le_refl _)))
      have Z4 := Lib.hid (B2.out.trans (B4.out.mono B2.out.size))
      have L4 := Lib.hid H4.out.lt
      refine (bclone a n cap zs w4 (HB.out.below Z4.out).inK HL.out HN.out).mono ?_; rintro e w5 ⟨v5, rfl, o5, b5⟩
      obtain ⟨da, dc, rfl, i5, dc1, dc2, _, x5⟩ := own_any o5
      have B5 := Lib.hid b5; have I5 := Lib.hid i5; have X5 := Lib.hid x5; have D1 := Lib.hid dc1; have D2 := Lib.hid dc2
      clear o5 b5 i5 x5 dc1 dc2
      go_wp2_with (first | (refine wpList_box_obj rfl 67 _ rfl [.slice da n dc, .int .i64 4, .int .i64 0, .int .i64 0, .func (.func 24) #[.pointer (some ⟨w2.heap.size, 0, none⟩)] #[]] rfl ?_; intro w6 h6 b6; have H6 := Lib.hid h6; have B6 := Lib.hid b6; clear h6 b6))
      go_ret
      have g1 := G1.out; have g2 := G2.out; have l1 := LT1.out; have l4 := L4.out; have g5 := B5.out.size; have l6 := H6.out.lt; have g6 := B6.out.size; have g4 := B4.out.size
      have b46 := B5.out.trans (B6.out.mono B5.out.size)
      have b06 := Z4.out.trans (b46.mono Z4.out.size)
      have b26 := B4.out.trans (b46.mono B4.out.size)
      have lz : zs.length = n := HL.out
      refine ⟨_, rfl, ⟨w2.heap.size, da, dc, sa, sc, by rw [lz]; exact H6.out, ⟨?_, I2.out.below b26, by rw [HCL.out]; have := HC.out; omega, fun x hx => by have := X2.out x hx; omega⟩, (I5.out.bytes (HB.out.below Z4.out).bytes).below B6.out, by rw [lz]; exact D1.out, D2.out, by rw [lz]; have := HN.out; omega, ?_, fun x hx => by have := X5.out x hx; omega, fun x hx => by have := X2.out x hx; omega, Nat.zero_le _, Nat.le_refl _⟩, b06⟩
      · have : ixN cs 0 = 0 := by unfold ixN; split <;> simp
        rw [this, HCL.out]
        exact H4.out.below b46 L4.out
      · omega
end Go.Proofs.Ytnnengigahakaaa
