/-
  Walks of layer 4: Read.
-/
import Derived.Test.YtnnengigahakaaaSrcNew
namespace Go.Proofs.Ytnnengigahakaaa
open Go.RowKit

theorem read_nil (n : Int) (w : World) : Calls Try.prog 36 #[.pointer none, .int .i64 n] w fun e w' => e = .returned (.tuple #[.slice none 0 0, .int .i64 1]) ∧ w = w' := by
  go_enter Try.func36, Try.ntmps36
  go_wp2
  go_ret2
  exact ⟨rfl, rfl⟩
/-- what a read of n bytes delivers, its error, the offset and the number of reads behind it -/
def readK (L : Nat) (cs : List Int) (o r : Nat) (n : Int) : Nat := (min (min n (chunkZ cs r)) ((L - o : Nat) : Int)).toNat
def readB (zs cs : List Int) (o r : Nat) (n : Int) : List Int := if n < 1 ∨ o = zs.length then [] else (zs.drop o).take (readK zs.length cs o r n)
def readE (zs : List Int) (E : Int) (o : Nat) (n : Int) : Int := if n < 1 then 2 else if o = zs.length then E else 0
def readO (zs cs : List Int) (o r : Nat) (n : Int) : Nat := if n < 1 ∨ o = zs.length then o else o + readK zs.length cs o r n
def readR (zs : List Int) (o r : Nat) (n : Int) : Nat := if n < 1 ∨ o = zs.length then r else r + 1

set_option maxRecDepth 100000 in
set_option maxHeartbeats 4000000 in
theorem read_any {lo hi s : Nat} {zs cs : List Int} {E : Int} {o r : Nat} (n : Int) (w : World) (h : Src w lo hi s zs E cs o r) :
    Calls Try.prog 36 #[.pointer (some ⟨s, 0, none⟩), .int .i64 n] w fun e w' => ∃ v, e = .returned (.tuple #[v, .int .i64 (readE zs E o n)]) ∧
      w'.ownsRow w.heap.size 5 1 v (readB zs cs o r n).length ((readB zs cs o r n).map (.int .u8)) ∧ Src w' lo hi s zs E cs (readO zs cs o r n) (readR zs o r n) ∧ Out lo hi w w' := by
  have H := Lib.hid h
  obtain ⟨c, da, dc, sa, sc, h1, h2, h3, h4, h5, h6, h7, h8, h9, h10⟩ := h
  have H1 := Lib.hid h1; have H2 := Lib.hid h2; have H3 := Lib.hid h3; have H4 := Lib.hid h4; have H5 := Lib.hid h5; have H6 := Lib.hid h6; have H7 := Lib.hid h7; have H8 := Lib.hid h8; have H9 := Lib.hid h9; have H10 := Lib.hid h10
  clear h2 h3 h4 h5 h6 h7 h8 h9 h10
  by_cases hn : n < 1
  · have e1 : readB zs cs o r n = [] := if_pos (.inl hn)
    have e2 : readE zs E o n = 2 := if_pos hn
    have e3 : readO zs cs o r n = o := if_pos (.inl hn)
    have e4 : readR zs o r n = r := if_pos (.inl hn)
    rw [e1, e2, e3, e4]
    clear e1 e2 e3 e4 h1
    go_enter Try.func36, Try.ntmps36
    go_wp2
    go_ret2
    exact ⟨_, rfl, own_none _ _ _ _, H.out, .refl _ _ _⟩
  · have hn' : (1 : Int) ≤ n := by omega
    have hn0 : ¬ n < 1 := hn
    have c0 := h1.get 0 rfl
    have c1 := h1.get 1 rfl
    have c2 := h1.get 2 rfl
    have c3 := h1.get 3 rfl
    have c4 := h1.get 4 rfl
    have f2 := h1.frozen 2
    have f3 := h1.frozen 3
    obtain ⟨L, hL⟩ := named zs.length
    rw [← hL.out] at c0
    by_cases ho : o = zs.length
    · have e1 : readB zs cs o r n = [] := if_pos (.inr ho)
      have e2 : readE zs E o n = E := by unfold readE; rw [if_neg hn, if_pos ho]
      have e3 : readO zs cs o r n = o := if_pos (.inr ho)
      have e4 : readR zs o r n = r := if_pos (.inr ho)
      rw [e1, e2, e3, e4]
      obtain rfl : o = L := ho.trans hL.out.symm
      clear e1 e2 e3 e4 h1 ho hn
      go_enter Try.func36, Try.ntmps36
      go_wp2
      go_quiet (fail)
      go_wp2
      go_quiet (fail)
      go_wp2
      go_ret2
      exact ⟨_, rfl, own_none _ _ _ _, H.out.out ((drewN_out lo lo w _).trans (drewN_out _ _ _ _)) (.inr (Nat.le_refl _)), (drewN_out _ _ w _).trans (drewN_out _ _ _ _)⟩
    · have e1 : readB zs cs o r n = (zs.drop o).take (readK zs.length cs o r n) := if_neg (by omega)
      have e2 : readE zs E o n = 0 := by unfold readE; rw [if_neg hn, if_neg ho]
      have e3 : readO zs cs o r n = o + readK zs.length cs o r n := if_neg (by omega)
      have e4 : readR zs o r n = r + 1 := if_neg (by omega)
      rw [e1, e2, e3, e4]
      have HE := Lib.hid h1
      clear e1 e2 e3 e4 h1
      have hoL : o < L := by rw [hL.out]; have := (H10.out).1; omega
      have hne : ((o : Int) == L) = false := by simp; omega
      have hdc : L ≤ dc := by rw [hL.out]; exact H4.out
      have hL47 : L ≤ 140737488355328 := by rw [hL.out]; exact H6.out
      have k1 : ¬ dc = o := by omega
      have k2 : o ≤ L := by omega
      have k2' : (o : Int) ≤ L := by omega
      obtain ⟨b, off, rfl, hb⟩ := H3.out.inK.plain (by rw [← hL.out]; omega)
      have A3 : Hid (RowAt w b off zs) := by
        rcases H3.out with h | ⟨b', off', h1, _, h3⟩
        · have h1 := hL.out; rw [h] at h1; simp at h1; omega
        · cases h1; exact h3
      obtain ⟨C, hC⟩ := named (chunkZ cs r)
      have hC1 : 1 ≤ C := by rw [hC.out]; exact chunkZ_pos _ _
      obtain ⟨k, hk⟩ := named (readK zs.length cs o r n)
      have hk' : min (min n C) ((L - o : Nat) : Int) = k := by rw [hk.out]; unfold readK; rw [← hL.out, ← hC.out]; omega
      have hkM : k ≤ L - o := by omega
      have hk1 : 1 ≤ k := by omega
      rw [← hk.out]
      have HK := Lib.hid hk'
      have HKM := Lib.hid hkM
      have HK1 := Lib.hid hk1
      clear hk' hC1 hn
      have k4 : (o : Int) + k ≤ 9223372036854775807 := by omega
      have k5 : (r : Int) + 1 ≤ 9223372036854775807 := by have := H10.out.2; omega
      have k6 : k ≤ dc - o := by omega
      have k6' : (k : Int) ≤ ((dc - o : Nat) : Int) := by omega
      go_enter Try.func36, Try.ntmps36
      go_wp2
      go_quiet (fail)
      go_wp2
      go_quiet (fail)
      go_wp2_with fail
      refine (next_any c sa sc cs r _ (show Chk (w.drewN _) c sa sc cs r from H2.out)).mono ?_; rintro e w2 ⟨rfl, hn2, ho2⟩
      rw [← hC.out]
      have N2 := Lib.hid hn2
      have O2 := Lib.hid ((drewN_out c (c + 1) w _).trans ho2)
      clear hn2 ho2 c0 c1 c2 c3 c4 f2 f3
      have S2 := Lib.hid (HE.out.out O2.out (by have := H7.out; omega))
      have c0 := S2.out.get 0 rfl
      have c2 := S2.out.get 2 rfl
      have c3 := S2.out.get 3 rfl
      have f2 := S2.out.frozen 2
      have f3 := S2.out.frozen 3
      rw [← hL.out] at c0
      clear k6' hkM hk1
      go_wp2_with (refine wpList_min3 rfl _ _ _ _ rfl .i64 .i64 .i64 n C ((L - o : Nat) : Int) k rfl rfl rfl HK.out ?_)
      have hH8 := H8.out _ rfl
      have hH7 := H7.out
      have hbc : b ≠ c := hH8.2.2.2
      have Z0 : Hid (InK .u8 w (some ⟨b, off + o, none⟩) ((zs.drop o).take k)) := .inr ⟨b, off + o, rfl, hb, ((A3.out.drop o).take k).1⟩
      obtain ⟨W, hW⟩ := named ((w2.setCell ⟨s, 2, none⟩ (.int .i64 (o + k))).setCell ⟨s, 3, none⟩ (.int .i64 (r + 1)))
      rw [← hW.out]
      have Z2 : Hid (InK .u8 W (some ⟨b, off + o, none⟩) ((zs.drop o).take k)) := by
        show InK _ _ _ _
        rw [hW.out]
        exact ((Z0.out.out O2.out (fun x hx => by cases hx; show b < c ∨ c + 1 ≤ b; omega)).set _ (fun x hx => by cases hx; exact hH8.2.2.1)).set _ (fun x hx => by cases hx; exact hH8.2.2.1)
      have T2 : Hid (ObjAt W s 67 [.slice (some ⟨b, off, none⟩) zs.length dc, .int .i64 E, .int .i64 ((o + k : Nat) : Int), .int .i64 ((r + 1 : Nat) : Int), .func (.func 24) #[.pointer (some ⟨c, 0, none⟩)] #[]]) := by
        show ObjAt _ _ _ _
        rw [hW.out]
        exact (S2.out.set 2 _).set 3 _
      have U2 : Hid (Chk W c sa sc cs (r + 1)) := by
        show Chk _ _ _ _ _ _
        rw [hW.out]
        obtain ⟨q1, q2, q3, q4⟩ := N2.out
        exact ⟨(q1.set_other 2 _ (by omega)).set_other 3 _ (by omega), (q2.set _ (fun x hx => (H9.out x hx).2.2)).set _ (fun x hx => (H9.out x hx).2.2), q3, q4⟩
      have V2 : Hid (BytesIn W (some ⟨b, off, none⟩) zs) := by
        show BytesIn _ _ _
        rw [hW.out]
        exact ((H3.out.out O2.out (fun x hx => by cases hx; show b < c ∨ c + 1 ≤ b; omega)).set _ (fun x hx => by cases hx; exact hH8.2.2.1)).set _ (fun x hx => by cases hx; exact hH8.2.2.1)
      have OW : Hid (Out lo hi w W) := by
        show Out _ _ _ _
        rw [hW.out]
        exact ((O2.out.wide (by omega) (by omega)).setCell (by show lo ≤ s; omega) (by show s < hi; omega) _).setCell (by show lo ≤ s; omega) (by show s < hi; omega) _
      have hlen : ((zs.drop o).take k).length = k := by have := hL.out; have := HKM.out; rw [List.length_take, List.length_drop]; omega
      have LEN := Lib.hid hlen
      clear hlen hH8 hH7 hbc
      refine (bclone (some ⟨b, off + o, none⟩) k (dc - o) _ W Z2.out LEN.out (by have := HKM.out; omega)).mono ?_; rintro e w5 ⟨v5, rfl, o5, b5⟩
      have O5 := Lib.hid o5; have B5 := Lib.hid b5
      clear o5 b5 c0 c2 c3 f2 f3
      go_wp2
      go_ret2
      have hsz := OW.out.size
      have o5 := own_base O5.out hsz
      refine ⟨_, rfl, ?_, ⟨c, some ⟨b, off, none⟩, dc, sa, sc, T2.out.below B5.out T2.out.lt, ?_, V2.out.below B5.out, H4.out, H5.out, H6.out, ?_, H8.out, H9.out, ?_, ?_⟩, OW.out.trans (.of_below B5.out (Nat.le_refl _))⟩
      · rw [LEN.out]; exact o5
      · obtain ⟨q1, q2, q3, q4⟩ := U2.out
        exact ⟨q1.below B5.out q1.lt, q2.below B5.out, q3, q4⟩
      · have := H7.out; have := B5.out.size; omega
      · have := HKM.out; have := hL.out; omega
      · have := H10.out.2; have := HK1.out; omega
end Go.Proofs.Ytnnengigahakaaa
