/-
  Layer 4: what a source is in memory; the walk of New.
-/
import Derived.Test.YtbbaleambgaanaaGreatDoorPk28
import Derived.Test.YtbbaleambgaanaaGreatDoorPk05
namespace Go.Proofs.YtbbaleambgaanaaGreatDoor
open Go.RowKit

/-- at s lies a source of the bytes zs that ends with the error E, with the chunk sizes cs, behind r reads that delivered o bytes; all its memory lies in the blocks lo .. hi -/
def Src (w : World) (lo hi s : Nat) (zs : List Int) (E : Int) (cs : List Int) (o r : Nat) : Prop :=
  ∃ c da dc sa sc, ObjAt w s 84 [.slice da zs.length dc, .int .i64 E, .int .i64 o, .int .i64 r, .func (.func 33) #[.pointer (some ⟨c, 0, none⟩)] #[]] ∧
    Chk w c sa sc cs r ∧ BytesIn w da zs ∧ zs.length ≤ dc ∧ dc ≤ maxLen ∧ zs.length ≤ 140737488355328 ∧
    (lo ≤ s ∧ s < hi ∧ lo ≤ c ∧ c < hi ∧ s ≠ c ∧ hi ≤ w.heap.size) ∧
    (∀ x, da = some x → lo ≤ x.block ∧ x.block < hi ∧ x.block ≠ s ∧ x.block ≠ c) ∧ (∀ x, sa = some x → lo ≤ x.block ∧ x.block < hi ∧ x.block ≠ s) ∧ o ≤ zs.length ∧ r ≤ o

theorem Chk.out {w w' : World} {c lo hi : Nat} {sa : Option Addr} {sc : Nat} {cs : List Int} {r : Nat} (h : Chk w c sa sc cs r) (ho : Out lo hi w w') (hc : c < lo ∨ hi ≤ c) (hs : ∀ x, sa = some x → x.block < lo ∨ hi ≤ x.block) : Chk w' c sa sc cs r := by
  obtain ⟨h1, h2, h3, h4⟩ := h
  exact ⟨h1.out ho hc, h2.out ho hs, h3, h4⟩

/-- a source stays where only blocks beside its own turn -/
theorem Src.out {w w' : World} {lo hi s lo' hi' : Nat} {zs cs : List Int} {E : Int} {o r : Nat} (h : Src w lo hi s zs E cs o r) (ho : Out lo' hi' w w') (hd : hi ≤ lo' ∨ hi' ≤ lo) : Src w' lo hi s zs E cs o r := by
  obtain ⟨c, da, dc, sa, sc, h1, h2, h3, h4, h5, h6, h7, h8, h9, h10⟩ := h
  refine ⟨c, da, dc, sa, sc, h1.out ho (by omega), h2.out ho (by omega) (fun x hx => by have := h9 x hx; omega), h3.out ho (fun x hx => by have := h8 x hx; omega), h4, h5, h6, ?_, h8, h9, h10⟩
  have := ho.size
  omega
theorem Src.below {w w' : World} {lo hi s : Nat} {zs cs : List Int} {E : Int} {o r : Nat} (h : Src w lo hi s zs E cs o r) (hb : Below w.heap.size w w') : Src w' lo hi s zs E cs o r := by
  have hh : hi ≤ w.heap.size := by obtain ⟨_, _, _, _, _, _, _, _, _, _, _, h7, _⟩ := h; exact h7.2.2.2.2.2
  exact h.out (lo' := hi) (hi' := hi) (.of_below hb (Nat.le_refl _)) (.inl (Nat.le_refl _))

/-- how many bytes a source delivers, and what it answers then -/
def endN (F : Int) (n : Nat) : Nat := if 0 ≤ F ∧ F ≤ n then F.toNat else n
def endE (F : Int) (n : Nat) : Int := if 0 ≤ F ∧ F ≤ n then 11 else 4

set_option maxHeartbeats 4000000 in
theorem new_any (a : Option Addr) (n cap : Nat) (zs : List Int) (ca : Option Addr) (cl cc : Nat) (cs : List Int) (F : Int) (w : World) (hb : BytesIn w a zs) (hl : zs.length = n) (hnc : n ≤ cap) (hn : n ≤ 140737488355328)
    (hi : InK .i64 w ca cs) (hcl : cs.length = cl) (hc : cl ≤ 17592186044416) :
    Calls Tryz.prog 16 #[.slice a n cap, .agg #[.slice ca cl cc, .int .i64 F]] w fun e w' => ∃ s, e = .returned (.pointer (some ⟨s, 0, none⟩)) ∧
      Src w' w.heap.size w'.heap.size s (zs.take (endN F n)) (endE F n) cs 0 0 ∧ Below w.heap.size w w' := by
  have HB := Lib.hid hb; have HL := Lib.hid hl; have HI := Lib.hid hi; have HCL := Lib.hid hcl; have HC := Lib.hid hc; have HN := Lib.hid hn; have HNC := Lib.hid hnc
  clear hb hl hi hcl hc
  have hmf : ∀ (fn : Fn) (first cap : Array Value) (w : World), (Instr.makeFunc fn first cap).run Tryz.prog w = .ok (.func fn first cap) w := fun _ _ _ _ => rfl
  have hz : (Tryz.prog.info? 80).map (·.zero) = some (some (.agg [Value.slice none 0 0, .int .i64 0].toArray)) := by kernel_rfl
  have hs : (Tryz.prog.info? 80).map (·.size) = some 2 := by kernel_rfl
  have HZ := Lib.hid hz; have HS := Lib.hid hs
  clear hz hs
  by_cases hF : 0 ≤ F ∧ F ≤ n
  · obtain ⟨f, rfl⟩ : ∃ f : Nat, F = f := ⟨F.toNat, by omega⟩
    have hfn : f ≤ n := by omega
    have hfn' : (f : Int) ≤ n := by omega
    have hfc : f ≤ cap := by omega
    have E1 : Hid (endN f n = f) := by show _ = _; unfold endN; rw [if_pos hF]; rfl
    have E2 : Hid (endE f n = 11) := by show _ = _; unfold endE; rw [if_pos hF]
    have h0f : (0 : Int) ≤ (f : Int) := by omega
    clear hF
    rw [E1.out, E2.out]
    go_enter Tryz.func16, Tryz.ntmps16
    go_wp2_with (first | (refine wpList_box_obj rfl 36 _ rfl [.slice ca cl cc, .int .i64 f] rfl ?_; intro w1 h1 b1; have H1 := Lib.hid h1; have B1 := Lib.hid b1; have c0 := h1.get 0 rfl; have c1 := h1.get 1 rfl; clear h1 b1))
    refine (iclone ca cl cc cs w1 (HI.out.below B1.out) HCL.out HC.out).mono ?_; rintro e w2 ⟨v2, rfl, o2, b2⟩
    obtain ⟨sa, sc, rfl, i2, _, _, _, x2⟩ := own_any o2
    have B2 := Lib.hid (B1.out.trans (b2.mono B1.out.size)); have I2 := Lib.hid i2; have X2 := Lib.hid x2; have G1 := Lib.hid B1.out.size; have LT1 := Lib.hid H1.out.lt; have G2 := Lib.hid b2.size
    clear o2 b2 i2 x2 c0 c1
    go_wp2_with (first | (refine wpList_alloc_obj rfl 80 rfl [.slice none 0 0, .int .i64 0] HZ.out ?_; intro w3 h3 b3; have H3 := Lib.hid h3; have B3 := Lib.hid b3; clear h3 b3) | (refine wpList_store_obj rfl 80 _ _ rfl w2.heap.size rfl [.slice sa cl sc, .int .i64 0] [.slice none 0 0, .int .i64 0] rfl 80 H3.out HS.out rfl (by intro v hv; simp at hv; rcases hv with rfl | rfl <;> rfl) ?_; intro w4 h4 t4; have H4 := Lib.hid h4; have T4 := Lib.hid t4; clear h4 t4))
    have B4 := Lib.hid (B3.out.trans (T4.out.below (Nat.le_refl _)))
    have Z4 := Lib.hid (B2.out.trans (B4.out.mono B2.out.size))
    have L4 := Lib.hid H4.out.lt
    refine (bclone a f cap (zs.take f) w4 ((HB.out.below Z4.out).take f).inK (by rw [List.length_take, HL.out]; omega) (by have := HN.out; omega)).mono ?_; rintro e w5 ⟨v5, rfl, o5, b5⟩
    obtain ⟨da, dc, rfl, i5, dc1, dc2, _, x5⟩ := own_any o5
    have B5 := Lib.hid b5; have I5 := Lib.hid i5; have X5 := Lib.hid x5; have D1 := Lib.hid dc1; have D2 := Lib.hid dc2
    clear o5 b5 i5 x5 dc1 dc2
    go_wp2_with (first | (refine wpList_box_obj rfl 84 _ rfl [.slice da f dc, .int .i64 11, .int .i64 0, .int .i64 0, .func (.func 33) #[.pointer (some ⟨w2.heap.size, 0, none⟩)] #[]] rfl ?_; intro w6 h6 b6; have H6 := Lib.hid h6; have B6 := Lib.hid b6; clear h6 b6))
    go_ret
    have g1 := G1.out; have g2 := G2.out; have l1 := LT1.out; have l4 := L4.out; have g5 := B5.out.size; have l6 := H6.out.lt; have g6 := B6.out.size; have g4 := B4.out.size
    have b46 := B5.out.trans (B6.out.mono B5.out.size)
    have b06 := Z4.out.trans (b46.mono Z4.out.size)
    have b26 := B4.out.trans (b46.mono B4.out.size)
    have lz : (zs.take f).length = f := (by rw [List.length_take, HL.out]; omega)
    refine ⟨_, rfl, ⟨w2.heap.size, da, dc, sa, sc, by rw [lz]; exact H6.out, ⟨?_, I2.out.below b26, by rw [HCL.out]; have := HC.out; omega, fun x hx => by have := X2.out x hx; omega⟩, (I5.out.bytes ((HB.out.below Z4.out).take f).bytes).below B6.out, by rw [lz]; exact D1.out, D2.out, by rw [lz]; have := HN.out; omega, ?_, fun x hx => by have := X5.out x hx; omega, fun x hx => by have := X2.out x hx; omega, Nat.zero_le _, Nat.le_refl _⟩, b06⟩
    · have : ixN cs 0 = 0 := by unfold ixN; split <;> simp
      rw [this, HCL.out]
      exact H4.out.below b46 L4.out
    · omega
  · have E1 : Hid (endN F n = n) := by show _ = _; unfold endN; rw [if_neg hF]
    have E2 : Hid (endE F n = 4) := by show _ = _; unfold endE; rw [if_neg hF]
    have h1 : 0 ≤ F → ¬ F ≤ n := fun h h' => hF ⟨h, h'⟩
    clear hF
    have ez : zs.take n = zs := List.take_of_length_le (by rw [HL.out]; exact Nat.le_refl _)
    rw [E1.out, E2.out, ez]
    clear ez
    by_cases h0 : 0 ≤ F
    · have h1 := h1 h0
      go_enter Tryz.func16, Tryz.ntmps16
      go_wp2_with (first | (refine wpList_box_obj rfl 36 _ rfl [.slice ca cl cc, .int .i64 F] rfl ?_; intro w1 h1 b1; have H1 := Lib.hid h1; have B1 := Lib.hid b1; have c0 := h1.get 0 rfl; have c1 := h1.get 1 rfl; clear h1 b1))
      refine (iclone ca cl cc cs w1 (HI.out.below B1.out) HCL.out HC.out).mono ?_; rintro e w2 ⟨v2, rfl, o2, b2⟩
      obtain ⟨sa, sc, rfl, i2, _, _, _, x2⟩ := own_any o2
      have B2 := Lib.hid (B1.out.trans (b2.mono B1.out.size)); have I2 := Lib.hid i2; have X2 := Lib.hid x2; have G1 := Lib.hid B1.out.size; have LT1 := Lib.hid H1.out.lt; have G2 := Lib.hid b2.size
      clear o2 b2 i2 x2 c0 c1
      go_wp2_with (first | (refine wpList_alloc_obj rfl 80 rfl [.slice none 0 0, .int .i64 0] HZ.out ?_; intro w3 h3 b3; have H3 := Lib.hid h3; have B3 := Lib.hid b3; clear h3 b3) | (refine wpList_store_obj rfl 80 _ _ rfl w2.heap.size rfl [.slice sa cl sc, .int .i64 0] [.slice none 0 0, .int .i64 0] rfl 80 H3.out HS.out rfl (by intro v hv; simp at hv; rcases hv with rfl | rfl <;> rfl) ?_; intro w4 h4 t4; have H4 := Lib.hid h4; have T4 := Lib.hid t4; clear h4 t4))
      have B4 := Lib.hid (B3.out.trans (T4.out.below (Nat.le_refl _)))
      have Z4 := Lib.hid (B2.out.trans (B4.out.mono B2.out.size))
      have L4 := Lib.hid H4.out.lt
      refine (bclone a n cap zs w4 (HB.out.below Z4.out).inK HL.out HN.out).mono ?_; rintro e w5 ⟨v5, rfl, o5, b5⟩
      obtain ⟨da, dc, rfl, i5, dc1, dc2, _, x5⟩ := own_any o5
      have B5 := Lib.hid b5; have I5 := Lib.hid i5; have X5 := Lib.hid x5; have D1 := Lib.hid dc1; have D2 := Lib.hid dc2
      clear o5 b5 i5 x5 dc1 dc2
      go_wp2_with (first | (refine wpList_box_obj rfl 84 _ rfl [.slice da n dc, .int .i64 4, .int .i64 0, .int .i64 0, .func (.func 33) #[.pointer (some ⟨w2.heap.size, 0, none⟩)] #[]] rfl ?_; intro w6 h6 b6; have H6 := Lib.hid h6; have B6 := Lib.hid b6; clear h6 b6))
      go_ret
      have g1 := G1.out; have g2 := G2.out; have l1 := LT1.out; have l4 := L4.out; have g5 := B5.out.size; have l6 := H6.out.lt; have g6 := B6.out.size; have g4 := B4.out.size
      have b46 := B5.out.trans (B6.out.mono B5.out.size)
      have b06 := Z4.out.trans (b46.mono Z4.out.size)
      have b26 := B4.out.trans (b46.mono B4.out.size)
      have lz : zs.length = n := HL.out
      refine ⟨_, rfl, ⟨w2.heap.size, da, dc, sa, sc, by rw [lz]; exact H6.out, ⟨?_, I2.out.below b26, by rw [HCL.out]; have := HC.out; omega, fun x hx => by have := X2.out x hx; omega⟩, (I5.out.bytes (HB.out.below Z4.out).bytes).below B6.out, by rw [lz]; exact D1.out, D2.out, by rw [lz]; have := HN.out; omega, ?_, fun x hx => by have := X5.out x hx; omega, fun x hx => by have := X2.out x hx; omega, Nat.zero_le _, Nat.le_refl _⟩, b06⟩
      · have : ixN cs 0 = 0 := by unfold ixN; split <;> simp
        rw [this, HCL.out]
        exact H4.out.below b46 L4.out
      · omega
    · clear h1
      go_enter Tryz.func16, Tryz.ntmps16
      go_wp2_with (first | (refine wpList_box_obj rfl 36 _ rfl [.slice ca cl cc, .int .i64 F] rfl ?_; intro w1 h1 b1; have H1 := Lib.hid h1; have B1 := Lib.hid b1; have c0 := h1.get 0 rfl; have c1 := h1.get 1 rfl; clear h1 b1))
      refine (iclone ca cl cc cs w1 (HI.out.below B1.out) HCL.out HC.out).mono ?_; rintro e w2 ⟨v2, rfl, o2, b2⟩
      obtain ⟨sa, sc, rfl, i2, _, _, _, x2⟩ := own_any o2
      have B2 := Lib.hid (B1.out.trans (b2.mono B1.out.size)); have I2 := Lib.hid i2; have X2 := Lib.hid x2; have G1 := Lib.hid B1.out.size; have LT1 := Lib.hid H1.out.lt; have G2 := Lib.hid b2.size
      clear o2 b2 i2 x2 c0 c1
      go_wp2_with (first | (refine wpList_alloc_obj rfl 80 rfl [.slice none 0 0, .int .i64 0] HZ.out ?_; intro w3 h3 b3; have H3 := Lib.hid h3; have B3 := Lib.hid b3; clear h3 b3) | (refine wpList_store_obj rfl 80 _ _ rfl w2.heap.size rfl [.slice sa cl sc, .int .i64 0] [.slice none 0 0, .int .i64 0] rfl 80 H3.out HS.out rfl (by intro v hv; simp at hv; rcases hv with rfl | rfl <;> rfl) ?_; intro w4 h4 t4; have H4 := Lib.hid h4; have T4 := Lib.hid t4; clear h4 t4))
      have B4 := Lib.hid (B3.out.trans (T4.out.below (Nat.le_refl _)))
      have Z4 := Lib.hid (B2.out.trans (B4.out.mono B2.out.size))
      have L4 := Lib.hid H4.out.lt
      refine (bclone a n cap zs w4 (HB.out.below Z4.out).inK HL.out HN.out).mono ?_; rintro e w5 ⟨v5, rfl, o5, b5⟩
      obtain ⟨da, dc, rfl, i5, dc1, dc2, _, x5⟩ := own_any o5
      have B5 := Lib.hid b5; have I5 := Lib.hid i5; have X5 := Lib.hid x5; have D1 := Lib.hid dc1; have D2 := Lib.hid dc2
      clear o5 b5 i5 x5 dc1 dc2
      go_wp2_with (first | (refine wpList_box_obj rfl 84 _ rfl [.slice da n dc, .int .i64 4, .int .i64 0, .int .i64 0, .func (.func 33) #[.pointer (some ⟨w2.heap.size, 0, none⟩)] #[]] rfl ?_; intro w6 h6 b6; have H6 := Lib.hid h6; have B6 := Lib.hid b6; clear h6 b6))
      go_ret
      have g1 := G1.out; have g2 := G2.out; have l1 := LT1.out; have l4 := L4.out; have g5 := B5.out.size; have l6 := H6.out.lt; have g6 := B6.out.size; have g4 := B4.out.size
      have b46 := B5.out.trans (B6.out.mono B5.out.size)
      have b06 := Z4.out.trans (b46.mono Z4.out.size)
      have b26 := B4.out.trans (b46.mono B4.out.size)
      have lz : zs.length = n := HL.out
      refine ⟨_, rfl, ⟨w2.heap.size, da, dc, sa, sc, by rw [lz]; exact H6.out, ⟨?_, I2.out.below b26, by rw [HCL.out]; have := HC.out; omega, fun x hx => by have := X2.out x hx; omega⟩, (I5.out.bytes (HB.out.below Z4.out).bytes).below B6.out, by rw [lz]; exact D1.out, D2.out, by rw [lz]; have := HN.out; omega, ?_, fun x hx => by have := X5.out x hx; omega, fun x hx => by have := X2.out x hx; omega, Nat.zero_le _, Nat.le_refl _⟩, b06⟩
      · have : ixN cs 0 = 0 := by unfold ixN; split <;> simp
        rw [this, HCL.out]
        exact H4.out.below b46 L4.out
      · omega
end Go.Proofs.YtbbaleambgaanaaGreatDoor
/-
  Walks of layer 4: Read.
-/
namespace Go.Proofs.YtbbaleambgaanaaGreatDoor
open Go.RowKit

theorem read_nil (n : Int) (w : World) : Calls Tryz.prog 70 #[.pointer none, .int .i64 n] w fun e w' => e = .returned (.tuple #[.slice none 0 0, .int .i64 1]) ∧ w = w' := by
  go_enter Tryz.func70, Tryz.ntmps70
  go_wp2
  go_ret2
  exact ⟨rfl, rfl⟩
/-- what a read of n bytes delivers, its error, the offset and the number of reads behind it -/
def readK (L : Nat) (cs : List Int) (o r : Nat) (n : Int) : Nat := (min (min n (chunkZ cs r)) ((L - o : Nat) : Int)).toNat
def readB (zs cs : List Int) (o r : Nat) (n : Int) : List Int := if n < 1 ∨ o = zs.length then [] else (zs.drop o).take (readK zs.length cs o r n)
def readE (zs : List Int) (E : Int) (o : Nat) (n : Int) : Int := if n < 1 then 2 else if o = zs.length then E else 0
def readO (zs cs : List Int) (o r : Nat) (n : Int) : Nat := if n < 1 ∨ o = zs.length then o else o + readK zs.length cs o r n
def readR (zs : List Int) (o r : Nat) (n : Int) : Nat := if n < 1 ∨ o = zs.length then r else r + 1

set_option maxRecDepth 100000 in
set_option maxHeartbeats 4000000 in
theorem read_any {lo hi s : Nat} {zs cs : List Int} {E : Int} {o r : Nat} (n : Int) (w : World) (h : Src w lo hi s zs E cs o r) :
    Calls Tryz.prog 70 #[.pointer (some ⟨s, 0, none⟩), .int .i64 n] w fun e w' => ∃ v, e = .returned (.tuple #[v, .int .i64 (readE zs E o n)]) ∧
      w'.ownsRow w.heap.size 5 1 v (readB zs cs o r n).length ((readB zs cs o r n).map (.int .u8)) ∧ Src w' lo hi s zs E cs (readO zs cs o r n) (readR zs o r n) ∧ Out lo hi w w' := by
  have H := Lib.hid h
  obtain ⟨c, da, dc, sa, sc, h1, h2, h3, h4, h5, h6, h7, h8, h9, h10⟩ := h
  have H1 := Lib.hid h1; have H2 := Lib.hid h2; have H3 := Lib.hid h3; have H4 := Lib.hid h4; have H5 := Lib.hid h5; have H6 := Lib.hid h6; have H7 := Lib.hid h7; have H8 := Lib.hid h8; have H9 := Lib.hid h9; have H10 := Lib.hid h10
  clear h2 h3 h4 h5 h6 h7 h8 h9 h10
  by_cases hn : n < 1
  · have e1 : readB zs cs o r n = [] := if_pos (.inl hn)
    have e2 : readE zs E o n = 2 := if_pos hn
    have e3 : readO zs cs o r n = o := if_pos (.inl hn)
    have e4 : readR zs o r n = r := if_pos (.inl hn)
    rw [e1, e2, e3, e4]
    clear e1 e2 e3 e4 h1
    go_enter Tryz.func70, Tryz.ntmps70
    go_wp2
    go_ret2
    exact ⟨_, rfl, own_none _ _ _ _, H.out, .refl _ _ _⟩
  · have hn' : (1 : Int) ≤ n := by omega
    have hn0 : ¬ n < 1 := hn
    have c0 := h1.get 0 rfl
    have c1 := h1.get 1 rfl
    have c2 := h1.get 2 rfl
    have c3 := h1.get 3 rfl
    have c4 := h1.get 4 rfl
    have f2 := h1.frozen 2
    have f3 := h1.frozen 3
    obtain ⟨L, hL⟩ := named zs.length
    rw [← hL.out] at c0
    by_cases ho : o = zs.length
    · have e1 : readB zs cs o r n = [] := if_pos (.inr ho)
      have e2 : readE zs E o n = E := by unfold readE; rw [if_neg hn, if_pos ho]
      have e3 : readO zs cs o r n = o := if_pos (.inr ho)
      have e4 : readR zs o r n = r := if_pos (.inr ho)
      rw [e1, e2, e3, e4]
      obtain rfl : o = L := ho.trans hL.out.symm
      clear e1 e2 e3 e4 h1 ho hn
      go_enter Tryz.func70, Tryz.ntmps70
      go_wp2
      go_quiet (fail)
      go_wp2
      go_quiet (fail)
      go_wp2
      go_ret2
      exact ⟨_, rfl, own_none _ _ _ _, H.out.out ((drewN_out lo lo w _).trans (drewN_out _ _ _ _)) (.inr (Nat.le_refl _)), (drewN_out _ _ w _).trans (drewN_out _ _ _ _)⟩
    · have e1 : readB zs cs o r n = (zs.drop o).take (readK zs.length cs o r n) := if_neg (by omega)
      have e2 : readE zs E o n = 0 := by unfold readE; rw [if_neg hn, if_neg ho]
      have e3 : readO zs cs o r n = o + readK zs.length cs o r n := if_neg (by omega)
      have e4 : readR zs o r n = r + 1 := if_neg (by omega)
      rw [e1, e2, e3, e4]
      have HE := Lib.hid h1
      clear e1 e2 e3 e4 h1
      have hoL : o < L := by rw [hL.out]; have := (H10.out).1; omega
      have hne : ((o : Int) == L) = false := by simp; omega
      have hdc : L ≤ dc := by rw [hL.out]; exact H4.out
      have hL47 : L ≤ 140737488355328 := by rw [hL.out]; exact H6.out
      have k1 : ¬ dc = o := by omega
      have k2 : o ≤ L := by omega
      have k2' : (o : Int) ≤ L := by omega
      obtain ⟨b, off, rfl, hb⟩ := H3.out.inK.plain (by rw [← hL.out]; omega)
      have A3 : Hid (RowAt w b off zs) := by
        rcases H3.out with h | ⟨b', off', h1, _, h3⟩
        · have h1 := hL.out; rw [h] at h1; simp at h1; omega
        · cases h1; exact h3
      obtain ⟨C, hC⟩ := named (chunkZ cs r)
      have hC1 : 1 ≤ C := by rw [hC.out]; exact chunkZ_pos _ _
      obtain ⟨k, hk⟩ := named (readK zs.length cs o r n)
      have hk' : min (min n C) ((L - o : Nat) : Int) = k := by rw [hk.out]; unfold readK; rw [← hL.out, ← hC.out]; omega
      have hkM : k ≤ L - o := by omega
      have hk1 : 1 ≤ k := by omega
      rw [← hk.out]
      have HK := Lib.hid hk'
      have HKM := Lib.hid hkM
      have HK1 := Lib.hid hk1
      clear hk' hC1 hn
      have k4 : (o : Int) + k ≤ 9223372036854775807 := by omega
      have k5 : (r : Int) + 1 ≤ 9223372036854775807 := by have := H10.out.2; omega
      have k6 : k ≤ dc - o := by omega
      have k6' : (k : Int) ≤ ((dc - o : Nat) : Int) := by omega
      go_enter Tryz.func70, Tryz.ntmps70
      go_wp2
      go_quiet (fail)
      go_wp2
      go_quiet (fail)
      go_wp2_with fail
      refine (next_any c sa sc cs r _ (show Chk (w.drewN _) c sa sc cs r from H2.out)).mono ?_; rintro e w2 ⟨rfl, hn2, ho2⟩
      rw [← hC.out]
      have N2 := Lib.hid hn2
      have O2 := Lib.hid ((drewN_out c (c + 1) w _).trans ho2)
      clear hn2 ho2 c0 c1 c2 c3 c4 f2 f3
      have S2 := Lib.hid (HE.out.out O2.out (by have := H7.out; omega))
      have c0 := S2.out.get 0 rfl
      have c2 := S2.out.get 2 rfl
      have c3 := S2.out.get 3 rfl
      have f2 := S2.out.frozen 2
      have f3 := S2.out.frozen 3
      rw [← hL.out] at c0
      clear k6' hkM hk1
      go_wp2_with (refine wpList_min3 rfl _ _ _ _ rfl .i64 .i64 .i64 n C ((L - o : Nat) : Int) k rfl rfl rfl HK.out ?_)
      have hH8 := H8.out _ rfl
      have hH7 := H7.out
      have hbc : b ≠ c := hH8.2.2.2
      have Z0 : Hid (InK .u8 w (some ⟨b, off + o, none⟩) ((zs.drop o).take k)) := .inr ⟨b, off + o, rfl, hb, ((A3.out.drop o).take k).1⟩
      obtain ⟨W, hW⟩ := named ((w2.setCell ⟨s, 2, none⟩ (.int .i64 (o + k))).setCell ⟨s, 3, none⟩ (.int .i64 (r + 1)))
      rw [← hW.out]
      have Z2 : Hid (InK .u8 W (some ⟨b, off + o, none⟩) ((zs.drop o).take k)) := by
        show InK _ _ _ _
        rw [hW.out]
        exact ((Z0.out.out O2.out (fun x hx => by cases hx; show b < c ∨ c + 1 ≤ b; omega)).set _ (fun x hx => by cases hx; exact hH8.2.2.1)).set _ (fun x hx => by cases hx; exact hH8.2.2.1)
      have T2 : Hid (ObjAt W s 84 [.slice (some ⟨b, off, none⟩) zs.length dc, .int .i64 E, .int .i64 ((o + k : Nat) : Int), .int .i64 ((r + 1 : Nat) : Int), .func (.func 33) #[.pointer (some ⟨c, 0, none⟩)] #[]]) := by
        show ObjAt _ _ _ _
        rw [hW.out]
        exact (S2.out.set 2 _).set 3 _
      have U2 : Hid (Chk W c sa sc cs (r + 1)) := by
        show Chk _ _ _ _ _ _
        rw [hW.out]
        obtain ⟨q1, q2, q3, q4⟩ := N2.out
        exact ⟨(q1.set_other 2 _ (by omega)).set_other 3 _ (by omega), (q2.set _ (fun x hx => (H9.out x hx).2.2)).set _ (fun x hx => (H9.out x hx).2.2), q3, q4⟩
      have V2 : Hid (BytesIn W (some ⟨b, off, none⟩) zs) := by
        show BytesIn _ _ _
        rw [hW.out]
        exact ((H3.out.out O2.out (fun x hx => by cases hx; show b < c ∨ c + 1 ≤ b; omega)).set _ (fun x hx => by cases hx; exact hH8.2.2.1)).set _ (fun x hx => by cases hx; exact hH8.2.2.1)
      have OW : Hid (Out lo hi w W) := by
        show Out _ _ _ _
        rw [hW.out]
        exact ((O2.out.wide (by omega) (by omega)).setCell (by show lo ≤ s; omega) (by show s < hi; omega) _).setCell (by show lo ≤ s; omega) (by show s < hi; omega) _
      have hlen : ((zs.drop o).take k).length = k := by have := hL.out; have := HKM.out; rw [List.length_take, List.length_drop]; omega
      have LEN := Lib.hid hlen
      clear hlen hH8 hH7 hbc
      refine (bclone (some ⟨b, off + o, none⟩) k (dc - o) _ W Z2.out LEN.out (by have := HKM.out; omega)).mono ?_; rintro e w5 ⟨v5, rfl, o5, b5⟩
      have O5 := Lib.hid o5; have B5 := Lib.hid b5
      clear o5 b5 c0 c2 c3 f2 f3
      go_wp2
      go_ret2
      have hsz := OW.out.size
      have o5 := own_base O5.out hsz
      refine ⟨_, rfl, ?_, ⟨c, some ⟨b, off, none⟩, dc, sa, sc, T2.out.below B5.out T2.out.lt, ?_, V2.out.below B5.out, H4.out, H5.out, H6.out, ?_, H8.out, H9.out, ?_, ?_⟩, OW.out.trans (.of_below B5.out (Nat.le_refl _))⟩
      · rw [LEN.out]; exact o5
      · obtain ⟨q1, q2, q3, q4⟩ := U2.out
        exact ⟨q1.below B5.out q1.lt, q2.below B5.out, q3, q4⟩
      · have := H7.out; have := B5.out.size; omega
      · have := HKM.out; have := hL.out; omega
      · have := H10.out.2; have := HK1.out; omega
end Go.Proofs.YtbbaleambgaanaaGreatDoor
/-
  Layer 4: Read in the words that the laws use; what the call owns beside a source.
-/
namespace Go.Proofs.YtbbaleambgaanaaGreatDoor
open Go.RowKit

theorem Src.size {w : World} {lo hi s : Nat} {zs cs : List Int} {E : Int} {o r : Nat} (h : Src w lo hi s zs E cs o r) : hi ≤ w.heap.size ∧ lo ≤ s ∧ s < hi := by
  obtain ⟨_, _, _, _, _, _, _, _, _, _, _, h7, _⟩ := h; exact ⟨h7.2.2.2.2.2, h7.1, h7.2.1⟩

theorem readK_bd {L : Nat} {cs : List Int} {o r : Nat} {n : Int} (hn : 1 ≤ n) (ho : o < L) : 1 ≤ readK L cs o r n ∧ o + readK L cs o r n ≤ L ∧ (readK L cs o r n : Int) ≤ n := by
  have := chunkZ_pos cs r
  unfold readK
  omega

/-- a read at the end -/
theorem read_stop {lo hi s : Nat} {zs cs : List Int} {E : Int} {o r : Nat} (n : Int) (w : World) (h : Src w lo hi s zs E cs o r) (hn : 1 ≤ n) (ho : o = zs.length) :
    Calls Tryz.prog 70 #[.pointer (some ⟨s, 0, none⟩), .int .i64 n] w fun e w' => ∃ a c, e = .returned (.tuple #[.slice a 0 c, .int .i64 E]) ∧
      w'.ownsRow w.heap.size 5 1 (.slice a 0 c) 0 (([] : List Int).map (.int .u8)) ∧ Src w' lo hi s zs E cs o r ∧ Out lo hi w w' := by
  refine (read_any n w h).mono ?_
  rintro e w' ⟨v, rfl, h1, h2, h3⟩
  have e1 : readB zs cs o r n = [] := if_pos (.inr ho)
  have e2 : readE zs E o n = E := by unfold readE; rw [if_neg (by omega), if_pos ho]
  have e3 : readO zs cs o r n = o := if_pos (.inr ho)
  have e4 : readR zs o r n = r := if_pos (.inr ho)
  rw [e1] at h1; rw [e3, e4] at h2; rw [e2]
  obtain ⟨b, c, rfl, _⟩ := own_any (zs := []) h1
  exact ⟨b, c, rfl, h1, h2, h3⟩

/-- a read before the end -/
theorem read_go {lo hi s : Nat} {zs cs : List Int} {E : Int} {o r : Nat} (n : Int) (w : World) (h : Src w lo hi s zs E cs o r) (hn : 1 ≤ n) (ho : o < zs.length) (k : Nat) (hk : readK zs.length cs o r n = k) :
    Calls Tryz.prog 70 #[.pointer (some ⟨s, 0, none⟩), .int .i64 n] w fun e w' => ∃ g c, e = .returned (.tuple #[.slice (some ⟨g, 0, none⟩) k c, .int .i64 0]) ∧
      w'.ownsRow w.heap.size 5 1 (.slice (some ⟨g, 0, none⟩) k c) k (((zs.drop o).take k).map (.int .u8)) ∧ Src w' lo hi s zs E cs (o + k) (r + 1) ∧ Out lo hi w w' := by
  refine (read_any n w h).mono ?_
  rintro e w' ⟨v, rfl, h1, h2, h3⟩
  have hb := readK_bd (cs := cs) (r := r) hn ho
  rw [hk] at hb
  have e1 : readB zs cs o r n = (zs.drop o).take k := by unfold readB; rw [if_neg (by omega), hk]
  have e2 : readE zs E o n = 0 := by unfold readE; rw [if_neg (by omega), if_neg (by omega)]
  have e3 : readO zs cs o r n = o + k := by unfold readO; rw [if_neg (by omega), hk]
  have e4 : readR zs o r n = r + 1 := if_neg (by omega)
  have hl : ((zs.drop o).take k).length = k := by rw [List.length_take, List.length_drop]; omega
  rw [e1, hl] at h1; rw [e3, e4] at h2; rw [e2]
  obtain ⟨g, c, rfl, _⟩ := own_shape h1 (by omega)
  exact ⟨g, c, rfl, h1, h2, h3⟩

theorem readB_len (zs cs : List Int) (o r : Nat) (n : Int) : (readB zs cs o r n).length ≤ zs.length := by
  unfold readB
  split
  · exact Nat.zero_le _
  · rw [List.length_take, List.length_drop]; omega
theorem readB_bytes {zs : List Int} (h : Bytes zs) (cs : List Int) (o r : Nat) (n : Int) : Bytes (readB zs cs o r n) := by
  unfold readB
  split
  · exact fun z hz => by simp at hz
  · exact (h.drop o).take _
theorem endE_ne (F : Int) (n : Nat) : endE F n = 11 ∨ endE F n = 4 := by unfold endE; split <;> simp
theorem endN_le (F : Int) (n : Nat) : endN F n ≤ n := by unfold endN; split <;> omega
theorem take_take_drop (zs : List Int) (o k : Nat) : zs.take o ++ (zs.drop o).take k = zs.take (o + k) := by rw [List.take_add]
theorem Src.bytes {w : World} {lo hi s : Nat} {zs cs : List Int} {E : Int} {o r : Nat} (h : Src w lo hi s zs E cs o r) : Bytes zs ∧ o ≤ zs.length ∧ r ≤ o := by
  obtain ⟨_, _, _, _, _, _, _, h3, _, _, _, _, _, _, h10⟩ := h; exact ⟨h3.bytes, h10⟩
end Go.Proofs.YtbbaleambgaanaaGreatDoor
/-
  What a call may turn besides new memory, as a set of blocks; what stays under it. Nothing of the program.
-/
namespace Go.Proofs.YtbbaleambgaanaaGreatDoor
open Go.RowKit

/-- of what was there only the blocks of S may have turned -/
structure Only (S : Nat → Prop) (w w' : World) : Prop where
  os : w'.os = w.os
  tape : w'.tape = w.tape
  output : w'.output = w.output
  size : w.heap.size ≤ w'.heap.size
  block : ∀ k, k < w.heap.size → ¬ S k → w'.heap[k]? = w.heap[k]?
theorem Only.refl (S : Nat → Prop) (w : World) : Only S w w := ⟨rfl, rfl, rfl, Nat.le_refl _, fun _ _ _ => rfl⟩
theorem Only.trans {S : Nat → Prop} {a b c : World} (h : Only S a b) (k : Only S b c) : Only S a c :=
  ⟨k.os.trans h.os, k.tape.trans h.tape, k.output.trans h.output, Nat.le_trans h.size k.size, fun i hi hj => (k.block i (Nat.lt_of_lt_of_le hi h.size) hj).trans (h.block i hi hj)⟩
theorem Only.mono {S T : Nat → Prop} {w w' : World} (h : Only S w w') (hST : ∀ k, k < w.heap.size → S k → T k) : Only T w w' := ⟨h.os, h.tape, h.output, h.size, fun k hk hj => h.block k hk fun hs => hj (hST k hk hs)⟩
theorem Only.of_below {S : Nat → Prop} {B : Nat} {w w' : World} (h : Below B w w') (hB : w.heap.size ≤ B) : Only S w w' := ⟨h.os, h.tape, h.output, h.size, fun k hk _ => h.block k (Nat.lt_of_lt_of_le hk hB)⟩
theorem Only.below {S : Nat → Prop} {B : Nat} {w w' : World} (h : Only S w w') (hS : ∀ k, S k → B ≤ k) (hw : B ≤ w.heap.size) : Below B w w' := ⟨h.os, h.tape, h.output, h.size, fun k hk => h.block k (Nat.lt_of_lt_of_le hk hw) fun hs => by have := hS k hs; omega⟩
theorem Only.setCell {S : Nat → Prop} {a w : World} (h : Only S a w) {p : Addr} (hp : S p.block ∨ a.heap.size ≤ p.block) (v : Value) : Only S a (w.setCell p v) :=
  ⟨h.os, h.tape, h.output, by simpa [World.setCell] using h.size, fun k hk hj => (Below.heap_setCell w p v k (by rintro rfl; rcases hp with hp | hp; exact hj hp; omega)).trans (h.block k hk hj)⟩
theorem Only.drewN (S : Nat → Prop) (w : World) (n : Nat) : Only S w (w.drewN n) := ⟨rfl, rfl, rfl, Nat.le_refl _, fun _ _ _ => rfl⟩
theorem ObjAt.only {S : Nat → Prop} {w w' : World} {g : Nat} {T : TypeId} {vs : List Value} (h : ObjAt w g T vs) (ho : Only S w w') (hg : ¬ S g) : ObjAt w' g T vs := (ho.block g h.lt hg).trans h
theorem InK.only {S : Nat → Prop} {k : IntKind} {w w' : World} {a : Option Addr} {zs : List Int} (h : InK k w a zs) (ho : Only S w w') (e : ∀ x, a = some x → ¬ S x.block) : InK k w' a zs := h.block ho.size fun x hx hl => ho.block _ hl (e x hx)
theorem BytesIn.only {S : Nat → Prop} {w w' : World} {a : Option Addr} {zs : List Int} (h : BytesIn w a zs) (ho : Only S w w') (e : ∀ x, a = some x → ¬ S x.block) : BytesIn w' a zs := h.block ho.size fun x hx hl => ho.block _ hl (e x hx)
theorem own_only {S : Nat → Prop} {w w' : World} {base n : Nat} {e : TypeId} {v : Value} {xs : List Value} (h : w.ownsRow base e 1 v n xs) (ho : Only S w w') (hb : ∀ k, base ≤ k → k < w.heap.size → ¬ S k) : w'.ownsRow base e 1 v n xs := by
  obtain ⟨h1, h2⟩ := h
  refine ⟨h1, h2.imp id ?_⟩
  rintro ⟨g, cap, cur, hv, hbg, hg, r⟩
  have hlt : g < w.heap.size := by
    rcases Nat.lt_or_ge g w.heap.size with hl | hl
    · exact hl
    · rw [Array.getElem?_eq_none hl] at hg; cases hg
  exact ⟨g, cap, cur, hv, hbg, (ho.block g hlt (hb g hbg hlt)).trans hg, r⟩
/-- the blocks of S, and those that were laid between two worlds -/
def Grow (S : Nat → Prop) (w w' : World) : Nat → Prop := fun k => S k ∨ (w.heap.size ≤ k ∧ k < w'.heap.size)

/-- what a slice of the call's own reaches may turn: it, and new memory -/
theorem own_only_append {w w' : World} {base : Nat} (hb : Below base w w') : Only (fun k => base ≤ k) w w' := ⟨hb.os, hb.tape, hb.output, hb.size, fun k _ hj => hb.block k (by omega)⟩
end Go.Proofs.YtbbaleambgaanaaGreatDoor
/-
  Layer 6: what the program's reader is in memory; the common part; its maker, its offset.
-/
namespace Go.Proofs.YtbbaleambgaanaaGreatDoor
open Go.RowKit

/-- a source stays where only blocks beside its own turn, told by a set -/
theorem Src.only {w w' : World} {lo hi s : Nat} {T : Nat → Prop} {zs cs : List Int} {E : Int} {o r : Nat} (h : Src w lo hi s zs E cs o r) (ho : Only T w w') (hd : ∀ k, lo ≤ k → k < hi → ¬ T k) : Src w' lo hi s zs E cs o r := by
  obtain ⟨c, da, dc, sa, sc, h1, h2, h3, h4, h5, h6, h7, h8, h9, h10⟩ := h
  refine ⟨c, da, dc, sa, sc, h1.only ho (hd _ h7.1 h7.2.1), ?_, h3.only ho (fun x hx => hd _ (h8 x hx).1 (h8 x hx).2.1), h4, h5, h6, ?_, h8, h9, h10⟩
  · obtain ⟨q1, q2, q3, q4⟩ := h2
    exact ⟨q1.only ho (hd _ h7.2.2.1 h7.2.2.2.1), q2.only ho (fun x hx => hd _ (h9 x hx).1 (h9 x hx).2.1), q3, q4⟩
  · have := ho.size
    omega

/-- at q lies the program's reader of a source that delivers Z and ends with E; it has read o bytes, its error is err; all its memory lies in the blocks lo .. hi -/
def Rdr (w : World) (lo hi q : Nat) (Z : List Int) (E : Int) (o : Nat) (err : Int) : Prop :=
  ∃ s h1 cs r, ObjAt w q 77 [.int .i64 o, .int .i64 err, .pointer (some ⟨s, 0, none⟩)] ∧ Src w lo h1 s Z E cs o r ∧ lo ≤ h1 ∧ h1 ≤ q ∧ q < hi ∧ hi ≤ w.heap.size ∧ o ≤ Z.length
theorem Rdr.out {w w' : World} {lo hi q lo' hi' : Nat} {Z : List Int} {E : Int} {o : Nat} {err : Int} (h : Rdr w lo hi q Z E o err) (ho : Out lo' hi' w w') (hd : hi ≤ lo' ∨ hi' ≤ lo) : Rdr w' lo hi q Z E o err := by
  obtain ⟨s, h1, cs, r, k1, k2, k3, k4, k5, k6, k7⟩ := h
  exact ⟨s, h1, cs, r, k1.out ho (by omega), k2.out ho (by omega), k3, k4, k5, Nat.le_trans k6 ho.size, k7⟩
theorem Rdr.size {w : World} {lo hi q : Nat} {Z : List Int} {E : Int} {o : Nat} {err : Int} (h : Rdr w lo hi q Z E o err) : hi ≤ w.heap.size ∧ lo ≤ q ∧ q < hi ∧ o ≤ Z.length := by
  obtain ⟨_, _, _, _, _, _, k3, k4, k5, k6, k7⟩ := h; exact ⟨k6, by omega, k5, k7⟩
theorem Rdr.below {w w' : World} {lo hi q : Nat} {Z : List Int} {E : Int} {o : Nat} {err : Int} (h : Rdr w lo hi q Z E o err) (hb : Below w.heap.size w w') : Rdr w' lo hi q Z E o err :=
  h.out (lo' := hi) (hi' := hi) (.of_below hb (Nat.le_refl _)) (.inl (Nat.le_refl _))
theorem Rdr.only {w w' : World} {lo hi q : Nat} {T : Nat → Prop} {Z : List Int} {E : Int} {o : Nat} {err : Int} (h : Rdr w lo hi q Z E o err) (ho : Only T w w') (hd : ∀ k, lo ≤ k → k < hi → ¬ T k) : Rdr w' lo hi q Z E o err := by
  obtain ⟨s, h1, cs, r, k1, k2, k3, k4, k5, k6, k7⟩ := h
  exact ⟨s, h1, cs, r, k1.only ho (hd _ (by omega) k5), k2.only ho (fun k hk hk' => hd k hk (by omega)), k3, k4, k5, Nat.le_trans k6 ho.size, k7⟩

/-- the common part: how far, and the error -/
theorem adv_any {q : Nat} {T : TypeId} {o n : Nat} {err : Int} {p : Value} (e : Int) (w : World) (h : ObjAt w q T [.int .i64 o, .int .i64 err, p]) (ho : o + n ≤ 200000000000000) :
    Calls Tryz.prog 71 #[.pointer (some ⟨q, 0, none⟩), .int .i64 n, .int .i64 e] w fun x w' => x = .returned (.int .i64 e) ∧
      ObjAt w' q T [.int .i64 ((o + n : Nat) : Int), .int .i64 e, p] ∧ Out q (q + 1) w w' ∧ w'.heap.size = w.heap.size := by
  have H := Lib.hid h
  have c0 := h.get 0 rfl
  have f0 := h.frozen 0
  have c1 := h.get 1 rfl
  have f1 := h.frozen 1
  have ho' : (o : Int) + n ≤ 200000000000000 := by omega
  clear h ho
  go_enter Tryz.func71, Tryz.ntmps71
  go_wp2_with fail
  go_ret
  have ev : (o : Int) + n = ((o + n : Nat) : Int) := by omega
  rw [ev]
  exact ⟨rfl, (H.out.set 0 _).set 1 _, ((Out.refl q (q + 1) w).setCell (p := ⟨q, 0, none⟩) (Nat.le_refl _) (Nat.lt_succ_self _) _).setCell (p := ⟨q, 1, none⟩) (Nat.le_refl _) (Nat.lt_succ_self _) _, by simp [World.setCell]⟩

theorem rdr_new {lo hi s : Nat} {Z : List Int} {E : Int} {cs : List Int} (w : World) (h : Src w lo hi s Z E cs 0 0) :
    Calls Tryz.prog 15 #[.pointer (some ⟨s, 0, none⟩)] w fun e w' => ∃ q, e = .returned (.pointer (some ⟨q, 0, none⟩)) ∧ Rdr w' lo w'.heap.size q Z E 0 0 ∧ Below w.heap.size w w' := by
  have H := Lib.hid h
  clear h
  go_enter Tryz.func15, Tryz.ntmps15
  go_wp2_with (first | (refine wpList_box_obj rfl 77 _ rfl [.int .i64 0, .int .i64 0, .pointer (some ⟨s, 0, none⟩)] rfl ?_; intro w1 h1 b1; have H1 := Lib.hid h1; have B1 := Lib.hid b1; clear h1 b1))
  go_ret
  have hz := H.out.size
  have l1 := H1.out.lt
  exact ⟨w.heap.size, rfl, ⟨s, hi, cs, 0, H1.out, H.out.below B1.out, by omega, hz.1, l1, Nat.le_refl _, Nat.zero_le _⟩, B1.out⟩
theorem rdr_new_nil (w : World) : Calls Tryz.prog 15 #[.pointer none] w fun e w' => e = .returned (.pointer none) ∧ w = w' := by
  go_enter Tryz.func15, Tryz.ntmps15
  go_wp2
  go_ret
  exact ⟨rfl, rfl⟩
theorem rdr_off {lo hi q : Nat} {Z : List Int} {E : Int} {o : Nat} {err : Int} (w : World) (h : Rdr w lo hi q Z E o err) :
    Calls Tryz.prog 20 #[.pointer (some ⟨q, 0, none⟩)] w fun e w' => e = .returned (.int .i64 o) ∧ w = w' := by
  obtain ⟨_, _, _, _, k1, _⟩ := h
  have c0 := k1.get 0 rfl
  clear k1
  go_enter Tryz.func20, Tryz.ntmps20
  go_wp2
  go_ret
  exact ⟨rfl, rfl⟩
theorem rdr_off_nil (w : World) : Calls Tryz.prog 20 #[.pointer none] w fun e w' => e = .returned (.int .i64 0) ∧ w = w' := by
  go_enter Tryz.func20, Tryz.ntmps20
  go_wp2
  go_ret
  exact ⟨rfl, rfl⟩
theorem rdr_next_nil (w : World) : Calls Tryz.prog 34 #[.pointer none] w fun e w' => e = .returned (.tuple #[.slice none 0 0, .int .i64 1]) ∧ w = w' := by
  go_enter Tryz.func34, Tryz.ntmps34
  go_wp2
  go_ret2
  exact ⟨rfl, rfl⟩
end Go.Proofs.YtbbaleambgaanaaGreatDoor
