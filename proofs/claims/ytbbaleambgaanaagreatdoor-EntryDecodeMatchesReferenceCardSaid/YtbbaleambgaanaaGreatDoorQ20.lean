/- SrcRead SrcUse Only BlkRob BlkRdr -/
import Derived.Test.YtbbaleambgaanaaGreatDoorQ19
import Derived.Test.YtbbaleambgaanaaGreatDoorQ4
import Derived.Test.YtbbaleambgaanaaGreatDoorQ5
namespace Go.Proofs.YtbbaleambgaanaaGreatDoor
open Go.RowKit
def readK (L : Nat) (cs : List Int) (o r : Nat) (n : Int) : Nat := (min (min n (chunkZ cs r)) ((L - o : Nat) : Int)).toNat
def readB (zs cs : List Int) (o r : Nat) (n : Int) : List Int := if n < 1 ∨ o = zs.length then [] else (zs.drop o).take (readK zs.length cs o r n)
def readE (zs : List Int) (E : Int) (o : Nat) (n : Int) : Int := if n < 1 then 2 else if o = zs.length then E else 0
def readO (zs cs : List Int) (o r : Nat) (n : Int) : Nat := if n < 1 ∨ o = zs.length then o else o + readK zs.length cs o r n
def readR (zs : List Int) (o r : Nat) (n : Int) : Nat := if n < 1 ∨ o = zs.length then r else r + 1
set_option maxRecDepth 100000 in
set_option maxHeartbeats 4000000 in
theorem read_any {lo hi s : Nat} {zs cs : List Int} {E : Int} {o r : Nat} (n : Int) (w : World) (h : Src w lo hi s zs E cs o r) :
    Calls Tryz.prog 70 #[.pointer (some ⟨s, 0, none⟩), .int .i64 n] w fun e w' => ∃ v, e = .returned (.tuple #[v, .int .i64 (readE zs E o n)]) ∧
      w'.ownsRow w.heap.size 5 1 v (readB zs cs o r n).length ((readB zs cs o r n).map (.int .u8)) ∧ Src w' lo hi s zs E cs (readO zs cs o r n) (readR zs o r n) ∧ Out lo hi w w' := by
  have H := Lib.hid h
  obtain ⟨c, da, dc, sa, sc, h1, h2, h3, h4, h5, h6, h7, h8, h9, h10⟩ := h
  have H1 := Lib.hid h1; have H2 := Lib.hid h2; have H3 := Lib.hid h3; have H4 := Lib.hid h4; have H5 := Lib.hid h5; have H6 := Lib.hid h6; have H7 := Lib.hid h7; have H8 := Lib.hid h8; have H9 := Lib.hid h9; have H10 := Lib.hid h10
  clear h2 h3 h4 h5 h6 h7 h8 h9 h10
  by_cases hn : n < 1
  · have e1 : readB zs cs o r n = [] := if_pos (.inl hn)
    have e2 : readE zs E o n = 2 := if_pos hn
    have e3 : readO zs cs o r n = o := if_pos (.inl hn)
    have e4 : readR zs o r n = r := if_pos (.inl hn)
    rw [e1, e2, e3, e4]
    clear e1 e2 e3 e4 h1
    go_enter Tryz.func70, Tryz.ntmps70
    go_wp2
    go_ret2
    exact ⟨_, rfl, own_none _ _ _ _, H.out, .refl _ _ _⟩
  · have hn' : (1 : Int) ≤ n := by omega
    have hn0 : ¬ n < 1 := hn
    have c0 := h1.get 0 rfl
    have c1 := h1.get 1 rfl
    have c2 := h1.get 2 rfl
    have c3 := h1.get 3 rfl
    have c4 := h1.get 4 rfl
    have f2 := h1.frozen 2
    have f3 := h1.frozen 3
    obtain ⟨L, hL⟩ := named zs.length
    rw [← hL.out] at c0
    by_cases ho : o = zs.length
    · have e1 : readB zs cs o r n = [] := if_pos (.inr ho)
      have e2 : readE zs E o n = E := by unfold readE; rw [if_neg hn, if_pos ho]
      have e3 : readO zs cs o r n = o := if_pos (.inr ho)
      have e4 : readR zs o r n = r := if_pos (.inr ho)
      rw [e1, e2, e3, e4]
      obtain rfl : o = L := ho.trans hL.out.symm
      clear e1 e2 e3 e4 h1 ho hn
      go_enter Tryz.func70, Tryz.ntmps70
      go_wp2
      go_quiet (fail)
      go_wp2
      go_quiet (fail)
      go_wp2
      go_ret2
      exact ⟨_, rfl, own_none _ _ _ _, H.out.out ((drewN_out lo lo w _).trans (drewN_out _ _ _ _)) (.inr (Nat.le_refl _)), (drewN_out _ _ w _).trans (drewN_out _ _ _ _)⟩
    · have e1 : readB zs cs o r n = (zs.drop o).take (readK zs.length cs o r n) := if_neg (by omega)
      have e2 : readE zs E o n = 0 := by unfold readE; rw [if_neg hn, if_neg ho]
      have e3 : readO zs cs o r n = o + readK zs.length cs o r n := if_neg (by omega)
      have e4 : readR zs o r n = r + 1 := if_neg (by omega)
      rw [e1, e2, e3, e4]
      have HE := Lib.hid h1
      clear e1 e2 e3 e4 h1
      have hoL : o < L := by rw [hL.out]; have := (H10.out).1; omega
      have hne : ((o : Int) == L) = false := by simp; omega
      have hdc : L ≤ dc := by rw [hL.out]; exact H4.out
      have hL47 : L ≤ 140737488355328 := by rw [hL.out]; exact H6.out
      have k1 : ¬ dc = o := by omega
      have k2 : o ≤ L := by omega
      have k2' : (o : Int) ≤ L := by omega
      obtain ⟨b, off, rfl, hb⟩ := H3.out.inK.plain (by rw [← hL.out]; omega)
      have A3 : Hid (RowAt w b off zs) := by
        rcases H3.out with h | ⟨b', off', h1, _, h3⟩
        · have h1 := hL.out; rw [h] at h1; simp at h1; omega
        · cases h1; exact h3
      obtain ⟨C, hC⟩ := named (chunkZ cs r)
      have hC1 : 1 ≤ C := by rw [hC.out]; exact chunkZ_pos _ _
      obtain ⟨k, hk⟩ := named (readK zs.length cs o r n)
      have hk' : min (min n C) ((L - o : Nat) : Int) = k := by rw [hk.out]; unfold readK; rw [← hL.out, ← hC.out]; omega
      have hkM : k ≤ L - o := by omega
      have hk1 : 1 ≤ k := by omega
      rw [← hk.out]
      have HK := Lib.hid hk'
      have HKM := Lib.hid hkM
      have HK1 := Lib.hid hk1
      clear hk' hC1 hn
      have k4 : (o : Int) + k ≤ 9223372036854775807 := by omega
      have k5 : (r : Int) + 1 ≤ 9223372036854775807 := by have := H10.out.2; omega
      have k6 : k ≤ dc - o := by omega
      have k6' : (k : Int) ≤ ((dc - o : Nat) : Int) := by omega
      go_enter Tryz.func70, Tryz.ntmps70
      go_wp2
      go_quiet (fail)
      go_wp2
      go_quiet (fail)
      go_wp2_with fail
      refine (next_any c sa sc cs r _ (show Chk (w.drewN _) c sa sc cs r from H2.out)).mono ?_; rintro e w2 ⟨rfl, hn2, ho2⟩
      rw [← hC.out]
      have N2 := Lib.hid hn2
      have O2 := Lib.hid ((drewN_out c (c + 1) w _).trans ho2)
      clear hn2 ho2 c0 c1 c2 c3 c4 f2 f3
      have S2 := Lib.hid (HE.out.out O2.out (by have := H7.out; omega))
      have c0 := S2.out.get 0 rfl
      have c2 := S2.out.get 2 rfl
      have c3 := S2.out.get 3 rfl
      have f2 := S2.out.frozen 2
      have f3 := S2.out.frozen 3
      rw [← hL.out] at c0
      clear k6' hkM hk1
      go_wp2_with (refine wpList_min3 rfl _ _ _ _ rfl .i64 .i64 .i64 n C ((L - o : Nat) : Int) k rfl rfl rfl HK.out ?_)
      have hH8 := H8.out _ rfl
      have hH7 := H7.out
      have hbc : b ≠ c := hH8.2.2.2
      have Z0 : Hid (InK .u8 w (some ⟨b, off + o, none⟩) ((zs.drop o).take k)) := .inr ⟨b, off + o, rfl, hb, ((A3.out.drop o).take k).1⟩
      obtain ⟨W, hW⟩ := named ((w2.setCell ⟨s, 2, none⟩ (.int .i64 (o + k))).setCell ⟨s, 3, none⟩ (.int .i64 (r + 1)))
      rw [← hW.out]
      have Z2 : Hid (InK .u8 W (some ⟨b, off + o, none⟩) ((zs.drop o).take k)) := by
        show InK _ _ _ _
        rw [hW.out]
        exact ((Z0.out.out O2.out (fun x hx => by cases hx; show b < c ∨ c + 1 ≤ b; omega)).set _ (fun x hx => by cases hx; exact hH8.2.2.1)).set _ (fun x hx => by cases hx; exact hH8.2.2.1)
      have T2 : Hid (ObjAt W s 84 [.slice (some ⟨b, off, none⟩) zs.length dc, .int .i64 E, .int .i64 ((o + k : Nat) : Int), .int .i64 ((r + 1 : Nat) : Int), .func (.func 33) #[.pointer (some ⟨c, 0, none⟩)] #[]]) := by
        show ObjAt _ _ _ _
        rw [hW.out]
        exact (S2.out.set 2 _).set 3 _
      have U2 : Hid (Chk W c sa sc cs (r + 1)) := by
        show Chk _ _ _ _ _ _
        rw [hW.out]
        obtain ⟨q1, q2, q3, q4⟩ := N2.out
        exact ⟨(q1.set_other 2 _ (by omega)).set_other 3 _ (by omega), (q2.set _ (fun x hx => (H9.out x hx).2.2)).set _ (fun x hx => (H9.out x hx).2.2), q3, q4⟩
      have V2 : Hid (BytesIn W (some ⟨b, off, none⟩) zs) := by
        show BytesIn _ _ _
        rw [hW.out]
        exact ((H3.out.out O2.out (fun x hx => by cases hx; show b < c ∨ c + 1 ≤ b; omega)).set _ (fun x hx => by cases hx; exact hH8.2.2.1)).set _ (fun x hx => by cases hx; exact hH8.2.2.1)
      have OW : Hid (Out lo hi w W) := by
        show Out _ _ _ _
        rw [hW.out]
        exact ((O2.out.wide (by omega) (by omega)).setCell (by show lo ≤ s; omega) (by show s < hi; omega) _).setCell (by show lo ≤ s; omega) (by show s < hi; omega) _
      have hlen : ((zs.drop o).take k).length = k := by have := hL.out; have := HKM.out; rw [List.length_take, List.length_drop]; omega
      have LEN := Lib.hid hlen
      clear hlen hH8 hH7 hbc
      refine (bclone (some ⟨b, off + o, none⟩) k (dc - o) _ W Z2.out LEN.out (by have := HKM.out; omega)).mono ?_; rintro e w5 ⟨v5, rfl, o5, b5⟩
      have O5 := Lib.hid o5; have B5 := Lib.hid b5
      clear o5 b5 c0 c2 c3 f2 f3
      go_wp2
      go_ret2
      have hsz := OW.out.size
      have o5 := own_base O5.out hsz
      refine ⟨_, rfl, ?_, ⟨c, some ⟨b, off, none⟩, dc, sa, sc, T2.out.below B5.out T2.out.lt, ?_, V2.out.below B5.out, H4.out, H5.out, H6.out, ?_, H8.out, H9.out, ?_, ?_⟩, OW.out.trans (.of_below B5.out (Nat.le_refl _))⟩
      · rw [LEN.out]; exact o5
      · obtain ⟨q1, q2, q3, q4⟩ := U2.out
        exact ⟨q1.below B5.out q1.lt, q2.below B5.out, q3, q4⟩
      · have := H7.out; have := B5.out.size; omega
      · have := HKM.out; have := hL.out; omega
      · have := H10.out.2; have := HK1.out; omega
end Go.Proofs.YtbbaleambgaanaaGreatDoor
namespace Go.Proofs.YtbbaleambgaanaaGreatDoor
open Go.RowKit
theorem Src.size {w : World} {lo hi s : Nat} {zs cs : List Int} {E : Int} {o r : Nat} (h : Src w lo hi s zs E cs o r) : hi ≤ w.heap.size ∧ lo ≤ s ∧ s < hi := by
  obtain ⟨_, _, _, _, _, _, _, _, _, _, _, h7, _⟩ := h; exact ⟨h7.2.2.2.2.2, h7.1, h7.2.1⟩
theorem readK_bd {L : Nat} {cs : List Int} {o r : Nat} {n : Int} (hn : 1 ≤ n) (ho : o < L) : 1 ≤ readK L cs o r n ∧ o + readK L cs o r n ≤ L ∧ (readK L cs o r n : Int) ≤ n := by
  have := chunkZ_pos cs r
  unfold readK
  omega
theorem read_stop {lo hi s : Nat} {zs cs : List Int} {E : Int} {o r : Nat} (n : Int) (w : World) (h : Src w lo hi s zs E cs o r) (hn : 1 ≤ n) (ho : o = zs.length) :
    Calls Tryz.prog 70 #[.pointer (some ⟨s, 0, none⟩), .int .i64 n] w fun e w' => ∃ a c, e = .returned (.tuple #[.slice a 0 c, .int .i64 E]) ∧
      w'.ownsRow w.heap.size 5 1 (.slice a 0 c) 0 (([] : List Int).map (.int .u8)) ∧ Src w' lo hi s zs E cs o r ∧ Out lo hi w w' := by
  refine (read_any n w h).mono ?_
  rintro e w' ⟨v, rfl, h1, h2, h3⟩
  have e1 : readB zs cs o r n = [] := if_pos (.inr ho)
  have e2 : readE zs E o n = E := by unfold readE; rw [if_neg (by omega), if_pos ho]
  have e3 : readO zs cs o r n = o := if_pos (.inr ho)
  have e4 : readR zs o r n = r := if_pos (.inr ho)
  rw [e1] at h1; rw [e3, e4] at h2; rw [e2]
  obtain ⟨b, c, rfl, _⟩ := own_any (zs := []) h1
  exact ⟨b, c, rfl, h1, h2, h3⟩
theorem read_go {lo hi s : Nat} {zs cs : List Int} {E : Int} {o r : Nat} (n : Int) (w : World) (h : Src w lo hi s zs E cs o r) (hn : 1 ≤ n) (ho : o < zs.length) (k : Nat) (hk : readK zs.length cs o r n = k) :
    Calls Tryz.prog 70 #[.pointer (some ⟨s, 0, none⟩), .int .i64 n] w fun e w' => ∃ g c, e = .returned (.tuple #[.slice (some ⟨g, 0, none⟩) k c, .int .i64 0]) ∧
      w'.ownsRow w.heap.size 5 1 (.slice (some ⟨g, 0, none⟩) k c) k (((zs.drop o).take k).map (.int .u8)) ∧ Src w' lo hi s zs E cs (o + k) (r + 1) ∧ Out lo hi w w' := by
  refine (read_any n w h).mono ?_
  rintro e w' ⟨v, rfl, h1, h2, h3⟩
  have hb := readK_bd (cs := cs) (r := r) hn ho
  rw [hk] at hb
  have e1 : readB zs cs o r n = (zs.drop o).take k := by unfold readB; rw [if_neg (by omega), hk]
  have e2 : readE zs E o n = 0 := by unfold readE; rw [if_neg (by omega), if_neg (by omega)]
  have e3 : readO zs cs o r n = o + k := by unfold readO; rw [if_neg (by omega), hk]
  have e4 : readR zs o r n = r + 1 := if_neg (by omega)
  have hl : ((zs.drop o).take k).length = k := by rw [List.length_take, List.length_drop]; omega
  rw [e1, hl] at h1; rw [e3, e4] at h2; rw [e2]
  obtain ⟨g, c, rfl, _⟩ := own_shape h1 (by omega)
  exact ⟨g, c, rfl, h1, h2, h3⟩
theorem endE_ne (F : Int) (n : Nat) : endE F n = 11 ∨ endE F n = 4 := by unfold endE; split <;> simp
theorem endN_le (F : Int) (n : Nat) : endN F n ≤ n := by unfold endN; split <;> omega
theorem Src.bytes {w : World} {lo hi s : Nat} {zs cs : List Int} {E : Int} {o r : Nat} (h : Src w lo hi s zs E cs o r) : Bytes zs ∧ o ≤ zs.length ∧ r ≤ o := by
  obtain ⟨_, _, _, _, _, _, _, h3, _, _, _, _, _, _, h10⟩ := h; exact ⟨h3.bytes, h10⟩
end Go.Proofs.YtbbaleambgaanaaGreatDoor
namespace Go.Proofs.YtbbaleambgaanaaGreatDoor
open Go.RowKit
structure Only (S : Nat → Prop) (w w' : World) : Prop where
  os : w'.os = w.os
  tape : w'.tape = w.tape
  output : w'.output = w.output
  size : w.heap.size ≤ w'.heap.size
  block : ∀ k, k < w.heap.size → ¬ S k → w'.heap[k]? = w.heap[k]?
theorem Only.refl (S : Nat → Prop) (w : World) : Only S w w := ⟨rfl, rfl, rfl, Nat.le_refl _, fun _ _ _ => rfl⟩
theorem ObjAt.only {S : Nat → Prop} {w w' : World} {g : Nat} {T : TypeId} {vs : List Value} (h : ObjAt w g T vs) (ho : Only S w w') (hg : ¬ S g) : ObjAt w' g T vs := (ho.block g h.lt hg).trans h
theorem InK.only {S : Nat → Prop} {k : IntKind} {w w' : World} {a : Option Addr} {zs : List Int} (h : InK k w a zs) (ho : Only S w w') (e : ∀ x, a = some x → ¬ S x.block) : InK k w' a zs := h.block ho.size fun x hx hl => ho.block _ hl (e x hx)
theorem BytesIn.only {S : Nat → Prop} {w w' : World} {a : Option Addr} {zs : List Int} (h : BytesIn w a zs) (ho : Only S w w') (e : ∀ x, a = some x → ¬ S x.block) : BytesIn w' a zs := h.block ho.size fun x hx hl => ho.block _ hl (e x hx)
end Go.Proofs.YtbbaleambgaanaaGreatDoor
namespace Go.Proofs.YtbbaleambgaanaaGreatDoor
open Go.RowKit
theorem Src.only {w w' : World} {lo hi s : Nat} {T : Nat → Prop} {zs cs : List Int} {E : Int} {o r : Nat} (h : Src w lo hi s zs E cs o r) (ho : Only T w w') (hd : ∀ k, lo ≤ k → k < hi → ¬ T k) : Src w' lo hi s zs E cs o r := by
  obtain ⟨c, da, dc, sa, sc, h1, h2, h3, h4, h5, h6, h7, h8, h9, h10⟩ := h
  refine ⟨c, da, dc, sa, sc, h1.only ho (hd _ h7.1 h7.2.1), ?_, h3.only ho (fun x hx => hd _ (h8 x hx).1 (h8 x hx).2.1), h4, h5, h6, ?_, h8, h9, h10⟩
  · obtain ⟨q1, q2, q3, q4⟩ := h2
    exact ⟨q1.only ho (hd _ h7.2.2.1 h7.2.2.2.1), q2.only ho (fun x hx => hd _ (h9 x hx).1 (h9 x hx).2.1), q3, q4⟩
  · have := ho.size
    omega
def Rdr (w : World) (lo hi q : Nat) (Z : List Int) (E : Int) (o : Nat) (err : Int) : Prop :=
  ∃ s h1 cs r, ObjAt w q 77 [.int .i64 o, .int .i64 err, .pointer (some ⟨s, 0, none⟩)] ∧ Src w lo h1 s Z E cs o r ∧ lo ≤ h1 ∧ h1 ≤ q ∧ q < hi ∧ hi ≤ w.heap.size ∧ o ≤ Z.length
theorem Rdr.out {w w' : World} {lo hi q lo' hi' : Nat} {Z : List Int} {E : Int} {o : Nat} {err : Int} (h : Rdr w lo hi q Z E o err) (ho : Out lo' hi' w w') (hd : hi ≤ lo' ∨ hi' ≤ lo) : Rdr w' lo hi q Z E o err := by
  obtain ⟨s, h1, cs, r, k1, k2, k3, k4, k5, k6, k7⟩ := h
  exact ⟨s, h1, cs, r, k1.out ho (by omega), k2.out ho (by omega), k3, k4, k5, Nat.le_trans k6 ho.size, k7⟩
theorem Rdr.size {w : World} {lo hi q : Nat} {Z : List Int} {E : Int} {o : Nat} {err : Int} (h : Rdr w lo hi q Z E o err) : hi ≤ w.heap.size ∧ lo ≤ q ∧ q < hi ∧ o ≤ Z.length := by
  obtain ⟨_, _, _, _, _, _, k3, k4, k5, k6, k7⟩ := h; exact ⟨k6, by omega, k5, k7⟩
theorem Rdr.below {w w' : World} {lo hi q : Nat} {Z : List Int} {E : Int} {o : Nat} {err : Int} (h : Rdr w lo hi q Z E o err) (hb : Below w.heap.size w w') : Rdr w' lo hi q Z E o err :=
  h.out (lo' := hi) (hi' := hi) (.of_below hb (Nat.le_refl _)) (.inl (Nat.le_refl _))
theorem Rdr.only {w w' : World} {lo hi q : Nat} {T : Nat → Prop} {Z : List Int} {E : Int} {o : Nat} {err : Int} (h : Rdr w lo hi q Z E o err) (ho : Only T w w') (hd : ∀ k, lo ≤ k → k < hi → ¬ T k) : Rdr w' lo hi q Z E o err := by
  obtain ⟨s, h1, cs, r, k1, k2, k3, k4, k5, k6, k7⟩ := h
  exact ⟨s, h1, cs, r, k1.only ho (hd _ (by omega) k5), k2.only ho (fun k hk hk' => hd k hk (by omega)), k3, k4, k5, Nat.le_trans k6 ho.size, k7⟩
theorem adv_any {q : Nat} {T : TypeId} {o n : Nat} {err : Int} {p : Value} (e : Int) (w : World) (h : ObjAt w q T [.int .i64 o, .int .i64 err, p]) (ho : o + n ≤ 200000000000000) :
    Calls Tryz.prog 71 #[.pointer (some ⟨q, 0, none⟩), .int .i64 n, .int .i64 e] w fun x w' => x = .returned (.int .i64 e) ∧
      ObjAt w' q T [.int .i64 ((o + n : Nat) : Int), .int .i64 e, p] ∧ Out q (q + 1) w w' ∧ w'.heap.size = w.heap.size := by
  have H := Lib.hid h
  have c0 := h.get 0 rfl
  have f0 := h.frozen 0
  have c1 := h.get 1 rfl
  have f1 := h.frozen 1
  have ho' : (o : Int) + n ≤ 200000000000000 := by omega
  clear h ho
  go_enter Tryz.func71, Tryz.ntmps71
  go_wp2_with fail
  go_ret
  have ev : (o : Int) + n = ((o + n : Nat) : Int) := by omega
  rw [ev]
  exact ⟨rfl, (H.out.set 0 _).set 1 _, ((Out.refl q (q + 1) w).setCell (p := ⟨q, 0, none⟩) (Nat.le_refl _) (Nat.lt_succ_self _) _).setCell (p := ⟨q, 1, none⟩) (Nat.le_refl _) (Nat.lt_succ_self _) _, by simp [World.setCell]⟩
theorem rdr_new {lo hi s : Nat} {Z : List Int} {E : Int} {cs : List Int} (w : World) (h : Src w lo hi s Z E cs 0 0) :
    Calls Tryz.prog 15 #[.pointer (some ⟨s, 0, none⟩)] w fun e w' => ∃ q, e = .returned (.pointer (some ⟨q, 0, none⟩)) ∧ Rdr w' lo w'.heap.size q Z E 0 0 ∧ Below w.heap.size w w' := by
  have H := Lib.hid h
  clear h
  go_enter Tryz.func15, Tryz.ntmps15
  go_wp2_with (first | (refine wpList_box_obj rfl 77 _ rfl [.int .i64 0, .int .i64 0, .pointer (some ⟨s, 0, none⟩)] rfl ?_; intro w1 h1 b1; have H1 := Lib.hid h1; have B1 := Lib.hid b1; clear h1 b1))
  go_ret
  have hz := H.out.size
  have l1 := H1.out.lt
  exact ⟨w.heap.size, rfl, ⟨s, hi, cs, 0, H1.out, H.out.below B1.out, by omega, hz.1, l1, Nat.le_refl _, Nat.zero_le _⟩, B1.out⟩
theorem rdr_off {lo hi q : Nat} {Z : List Int} {E : Int} {o : Nat} {err : Int} (w : World) (h : Rdr w lo hi q Z E o err) :
    Calls Tryz.prog 20 #[.pointer (some ⟨q, 0, none⟩)] w fun e w' => e = .returned (.int .i64 o) ∧ w = w' := by
  obtain ⟨_, _, _, _, k1, _⟩ := h
  have c0 := k1.get 0 rfl
  clear k1
  go_enter Tryz.func20, Tryz.ntmps20
  go_wp2
  go_ret
  exact ⟨rfl, rfl⟩
theorem rdr_off_nil (w : World) : Calls Tryz.prog 20 #[.pointer none] w fun e w' => e = .returned (.int .i64 0) ∧ w = w' := by
  go_enter Tryz.func20, Tryz.ntmps20
  go_wp2
  go_ret
  exact ⟨rfl, rfl⟩
theorem rdr_next_nil (w : World) : Calls Tryz.prog 34 #[.pointer none] w fun e w' => e = .returned (.tuple #[.slice none 0 0, .int .i64 1]) ∧ w = w' := by
  go_enter Tryz.func34, Tryz.ntmps34
  go_wp2
  go_ret2
  exact ⟨rfl, rfl⟩
end Go.Proofs.YtbbaleambgaanaaGreatDoor
namespace Go.Proofs.YtbbaleambgaanaaGreatDoor
open Go.RowKit
set_option maxRecDepth 100000 in
set_option maxHeartbeats 8000000 in
theorem rdr_next_cap {lo hi q : Nat} {Z : List Int} {E : Int} {o : Nat} {err : Int} (w : World) (h : Rdr w lo hi q Z E o err) (hE : E = 11 ∨ E = 4) :
    Calls Tryz.prog 34 #[.pointer (some ⟨q, 0, none⟩)] w fun e w' => ∃ b c, e = .returned (.tuple #[.slice b (nxB Z o err).length c, .int .i64 (nxE Z E o err)]) ∧
      ((nxB Z o err).length ≤ c ∧ c ≤ maxLen) ∧ InK .u8 w' b (nxB Z o err) ∧ (∀ x, b = some x → w.heap.size ≤ x.block) ∧ Rdr w' lo hi q Z E (nxO Z o err) (nxE Z E o err) ∧ Out lo hi w w' := by
  have H := Lib.hid h
  obtain ⟨s, h1, cs, r, k1, k2, k3, k4, k5, k6, k9⟩ := h
  have c0 := k1.get 0 rfl
  have c1 := k1.get 1 rfl
  have c2 := k1.get 2 rfl
  by_cases he : err = 0
  · subst he
    have K1 := Lib.hid k1; have K2 := Lib.hid k2; have K3 := Lib.hid (show lo ≤ h1 ∧ h1 ≤ q ∧ q < hi ∧ hi ≤ w.heap.size from ⟨k3, k4, k5, k6⟩)
    obtain ⟨L, hL⟩ := named Z.length
    have hL8 : Hid (L ≤ 140737488355328) := by
      show _ ≤ _
      obtain ⟨_, _, _, _, _, _, _, _, _, _, q6, _⟩ := k2
      rw [hL.out]; exact q6
    have KO : Hid (o ≤ L) := by show _ ≤ _; rw [hL.out]; exact k9
    have E4 : Hid (E = 11 ∨ E = 4) := hE
    obtain ⟨i0, HI⟩ := info_u8 (P := Tryz.prog) (e := 5) (by kernel_rfl)
    clear k1 k2 k3 k4 k5 k6 k9 hE
    go_enter Tryz.func34, Tryz.ntmps34
    go_wp2_with (refine wpList_make_own _ rfl _ _ 24 rfl w.heap.size 5 i0 (.int .u8 0) 1 Tryz.underlying24 HI.out.1 HI.out.2.1 HI.out.2.2.1 .i64 .i64 512 512 rfl rfl rfl (by rw [HI.out.2.2.2]; decide) (by decide) (Nat.le_refl _) ?_; intro w1 h1' h2'; have OW1 := Lib.hid h1'; have B1 := Lib.hid ((Below.refl w.heap.size w).grown h2' (Nat.le_refl _) (fun _ h => by cases h)); clear h1' h2')
    have K2' := Lib.hid (K2.out.below B1.out)
    have K1' := Lib.hid (K1.out.below B1.out K1.out.lt)
    go_loopw [4, 5, 6] (fun v _ _ wr => ∃ j r' : Nat, j ≤ 512 ∧ o + j ≤ L ∧ wr.ownsRow w.heap.size 5 1 v j (((Z.drop o).take j).map (.int .u8)) ∧ ObjAt wr q 77 [.int .i64 ((o + j : Nat) : Int), .int .i64 0, .pointer (some ⟨s, 0, none⟩)] ∧ Src wr lo h1 s Z E cs (o + j) r' ∧ Out lo hi w wr) (fun v _ _ _ => match v with | .slice _ l _ => 512 - l | _ => 0)
    case atStart => exact ⟨0, r, Nat.zero_le _, KO.out, OW1.out, K1'.out, K2'.out, .of_below B1.out (Nat.le_refl _)⟩
    case round =>
      obtain ⟨j, r', hj, hoj, hown, hob, href, hout⟩ := hrel
      have OB := Lib.hid hob; have RF := Lib.hid href; have OU := Lib.hid hout; have OW := Lib.hid hown
      have HOJ := Lib.hid hoj
      have JL : Hid (((Z.drop o).take j).length = j) := by show _ = _; rw [List.length_take, List.length_drop, ← hL.out]; omega
      obtain ⟨va, vc, rfl, _⟩ := own_any hown
      have c2 := hob.get 2 rfl
      clear hob href hout hown hoj
      by_cases hlt : j < 512
      · have hlt' : (j : Int) < 512 := by omega
        by_cases hs : o + j = L
        · have hL512 : ¬ o + 512 ≤ Z.length := by rw [← hL.out]; omega
          obtain ⟨g1, g2, g3⟩ := nx_stop (E := E) hL512
          have G1 := Lib.hid g1; have G2 := Lib.hid g2; have G3 := Lib.hid g3
          clear g1 g2 g3 hL512
          go_wp2_with fail
          refine (read_stop (512 - (j : Int)) wr RF.out (by omega) (by rw [← hL.out]; exact hs)).mono ?_; rintro e w2 ⟨pa, pc, rfl, _, f3, u3⟩
          have RF2 := Lib.hid f3; have U2 := Lib.hid (u3.wide (lo' := lo) (hi' := h1) (Nat.le_refl _) (Nat.le_refl _))
          have OB2 := Lib.hid (OB.out.out u3 (.inr (by have := K3.out; omega)))
          clear f3 u3 c2
          have hh : o + j = Z.length := by rw [← hL.out]; exact hs
          have fin : ∀ (w5 : World) (E' : Int), ObjAt w5 q 77 [.int .i64 ((o + j + 0 : Nat) : Int), .int .i64 E', .pointer (some ⟨s, 0, none⟩)] → Out q (q + 1) w2 w5 → Rdr w5 lo hi q Z E Z.length E' ∧ Out lo hi w w5 := by
            intro w5 E' ob h5
            have k3 := K3.out
            have rf := RF2.out.out h5 (.inl (by omega))
            rw [Nat.add_zero, hh] at ob; rw [hh] at rf
            refine ⟨⟨s, h1, cs, r', ob, rf, by omega, by omega, by omega, ?_, Nat.le_refl _⟩, ?_⟩
            · have := OU.out.size; have := U2.out.size; have h6 : w2.heap.size ≤ w5.heap.size := h5.size; omega
            · exact (OU.out.trans (U2.out.wide (by omega) (by omega))).trans (h5.wide (by omega) (by omega))
          have FIN := Lib.hid fin
          clear fin
          have AL : Hid (o + j + 0 ≤ 200000000000000) := by show _ ≤ _; have := hL8.out; omega
          rcases E4.out with e11 | e4
          · have en : (E == 4) = false := by rw [e11]; rfl
            have e5 : Hid ((if E = 4 ∧ o < Z.length then (5 : Int) else E) = E) := by show _ = _; rw [if_neg (by omega)]
            have en0 : (E != 0) = true := by rw [e11]; rfl
            clear e11
            go_wp2_with fail
            refine (adv_any (n := 0) E w2 OB2.out AL.out).mono ?_; rintro e w3 ⟨rfl, ob3, u3, _⟩
            have OB3 := Lib.hid ob3; have U3 := Lib.hid u3
            clear ob3 u3
            go_wp2_with fail
            go_ret2
            rw [G1.out, G2.out, G3.out, e5.out]
            exact ⟨none, 0, rfl, ⟨Nat.zero_le _, Nat.zero_le _⟩, .inl rfl, (fun x hx => by cases hx), FIN.out _ _ OB3.out U3.out⟩
          · have en : (E == 4) = true := by rw [e4]; rfl
            have en0 : (E != 0) = true := by rw [e4]; rfl
            by_cases hj0 : j = 0
            · subst hj0
              have e5 : Hid ((if E = 4 ∧ o < Z.length then (5 : Int) else E) = E) := by show _ = _; rw [if_neg (by omega)]
              clear e4
              go_wp2_with fail
              refine (adv_any (n := 0) E w2 OB2.out AL.out).mono ?_; rintro e w3 ⟨rfl, ob3, u3, _⟩
              have OB3 := Lib.hid ob3; have U3 := Lib.hid u3
              clear ob3 u3
              go_wp2_with fail
              go_ret2
              rw [G1.out, G2.out, G3.out, e5.out]
              exact ⟨none, 0, rfl, ⟨Nat.zero_le _, Nat.zero_le _⟩, .inl rfl, (fun x hx => by cases hx), FIN.out _ _ OB3.out U3.out⟩
            · have hj0' : (0 : Int) < j := by omega
              have e5 : Hid ((if E = 4 ∧ o < Z.length then (5 : Int) else E) = 5) := by show _ = _; rw [if_pos (by omega)]
              clear e4
              go_wp2_with fail
              refine (adv_any (n := 0) 5 w2 OB2.out AL.out).mono ?_; rintro e w3 ⟨rfl, ob3, u3, _⟩
              have OB3 := Lib.hid ob3; have U3 := Lib.hid u3
              clear ob3 u3
              go_wp2_with fail
              go_ret2
              rw [G1.out, G2.out, G3.out, e5.out]
              exact ⟨none, 0, rfl, ⟨Nat.zero_le _, Nat.zero_le _⟩, .inl rfl, (fun x hx => by cases hx), FIN.out _ _ OB3.out U3.out⟩
        · have hgo : o + j < L := by have := HOJ.out; omega
          have hj5 : Hid (o + j < Z.length) := by show _ < _; rw [← hL.out]; exact hgo
          obtain ⟨k, hk⟩ := named (readK Z.length cs (o + j) r' (512 - (j : Int)))
          have hb := readK_bd (cs := cs) (r := r') (n := 512 - (j : Int)) (by omega) hj5.out
          rw [← hk.out, ← hL.out] at hb
          obtain ⟨kb1, kb2, kb3⟩ := hb
          have HKB := Lib.hid (show 1 ≤ k ∧ o + j + k ≤ L ∧ j + k ≤ 512 by omega)
          clear kb1 kb2 kb3
          go_wp2_with fail
          refine (read_go (512 - (j : Int)) wr RF.out (by omega) hj5.out k hk.out.symm).mono ?_; rintro e w2 ⟨g2, cc2, rfl, o2, f3, u3⟩
          have RF3 : Hid (Src w2 lo h1 s Z E cs (o + (j + k)) (r' + 1)) := (congrArg (fun p => Src w2 lo h1 s Z E cs p (r' + 1)) (Nat.add_assoc o j k)).mp f3
          have U2 := Lib.hid u3
          have LG := Lib.hid (own_lt o2)
          have I2 : Hid (InK .u8 w2 (some ⟨g2, 0, none⟩) ((Z.drop (o + j)).take k)) := InK.of_own o2
          have OB2 := Lib.hid (OB.out.out u3 (.inr (by have := K3.out; omega)))
          have OW2 := Lib.hid (own_out OW.out u3 (by have := K3.out; omega))
          have KL : Hid (((Z.drop (o + j)).take k).length = k) := by show _ = _; rw [List.length_take, List.length_drop, ← hL.out]; have := HKB.out; omega
          have AL : Hid (o + j + k ≤ 200000000000000) := by show _ ≤ _; have := hL8.out; have := HKB.out; omega
          clear o2 f3 u3 c2
          have hk5 : j + k ≤ 512 := HKB.out.2.2
          go_wp2_with fail
          refine (adv_any (n := k) 0 w2 OB2.out AL.out).mono ?_; rintro e w4 ⟨rfl, ob4, u4, z4⟩
          have OB4 : Hid (ObjAt w4 q 77 [.int .i64 ((o + (j + k) : Nat) : Int), .int .i64 0, .pointer (some ⟨s, 0, none⟩)]) := (congrArg (fun p : Nat => ObjAt w4 q 77 [.int .i64 (p : Int), .int .i64 0, .pointer (some ⟨s, 0, none⟩)]) (Nat.add_assoc o j k)).mp ob4
          have U4 := Lib.hid u4
          have RF4 := Lib.hid (RF3.out.out u4 (.inl (by have := K3.out; omega)))
          have OW4 := Lib.hid (own_out OW2.out u4 (by have := K3.out; omega))
          have I4 := Lib.hid (I2.out.out u4 (fun x hx => by cases hx; have := K3.out; have := LG.out; have := OU.out.size; show g2 < q ∨ q + 1 ≤ g2; omega))
          have HZ4 : Hid (w.heap.size ≤ w4.heap.size) := Nat.le_trans OU.out.size (Nat.le_trans U2.out.size u4.size)
          clear ob4 u4
          go_wp2_with (first | (at_builtin; refine wpList_append_k rfl _ _ 24 rfl w.heap.size 5 .u8 1 Tryz.underlying24 u8T _ j ((Z.drop o).take j) rfl OW4.out (some ⟨g2, 0, none⟩) k cc2 ((Z.drop (o + j)).take k) rfl I4.out KL.out (by unfold maxLen; omega) (by omega) HZ4.out ?_; intro v3 w3 h3 b3; have ez : (Z.drop o).take j ++ (Z.drop (o + j)).take k = (Z.drop o).take (j + k) := (by rw [List.take_add, List.drop_drop]); rw [ez] at h3; have O3 := Lib.hid h3; have B3 := Lib.hid b3; have OB3 := Lib.hid (OB4.out.below b3 (by have := K3.out; omega)); clear h3 b3 ez))
          go_roundw
          case rel =>
            have k3 := K3.out; have kb := HKB.out
            have ou2 := OU.out.trans (U2.out.wide (lo' := lo) (hi' := hi) (by omega) (by omega))
            have ou4 := ou2.trans (U4.out.wide (lo' := lo) (hi' := hi) (by omega) (by omega))
            have ou3 : Out lo hi w w3 := ⟨B3.out.os.trans ou4.os, B3.out.tape.trans ou4.tape, B3.out.output.trans ou4.output, Nat.le_trans ou4.size B3.out.size, fun x hx hj => (B3.out.block x hx).trans (ou4.block x hx hj)⟩
            have rf := RF4.out.out (out_of_below (h := 0) B3.out) (.inl (by omega))
            exact ⟨j + k, r' + 1, kb.2.2, Nat.le_trans (Nat.le_of_eq (Nat.add_assoc o j k).symm) kb.2.1, O3.out, OB3.out, rf, ou3⟩
          case measure =>
            obtain ⟨b', c', rfl, _⟩ := own_any O3.out
            have := HKB.out
            simp; omega
      · obtain rfl : j = 512 := by omega
        have hL512 : o + 512 ≤ Z.length := by rw [← hL.out]; exact HOJ.out
        obtain ⟨g1, g2, g3⟩ := nx_go (E := E) hL512
        have G1 := Lib.hid g1; have G2 := Lib.hid g2; have G3 := Lib.hid g3
        clear g1 g2 g3
        go_wp2_with fail
        go_ret2
        rw [G1.out, G2.out, G3.out]
        obtain ⟨b', c', hv, i1, hcap, hmx, _, x1⟩ := own_any OW.out
        simp only [Value.slice.injEq, true_and] at hv
        obtain ⟨rfl, rfl⟩ := hv
        refine ⟨va, vc, by rw [JL.out]; rfl, ⟨by rw [JL.out]; exact hcap, hmx⟩, i1, fun x hx => (x1 x hx).1, ⟨s, h1, cs, r', OB.out, RF.out, K3.out.1, K3.out.2.1, K3.out.2.2.1, Nat.le_trans K3.out.2.2.2 OU.out.size, hL512⟩, OU.out⟩
  · obtain ⟨g1, g2, g3⟩ := nx_err (Z := Z) (E := E) (o := o) he
    rw [g1, g2, g3]
    have hne : (err != 0) = true := by simp [he]
    clear g1 g2 g3 k1 k2 k3 k4 k5 k6 k9
    go_enter Tryz.func34, Tryz.ntmps34
    go_wp2
    go_quiet (fail)
    go_wp2
    go_ret2
    exact ⟨none, 0, rfl, ⟨Nat.zero_le _, Nat.zero_le _⟩, .inl rfl, (fun x hx => by cases hx), H.out.below (drewN_below _ _ _), .of_below (drewN_below _ _ _) (Nat.le_refl _)⟩
theorem rdr_next {lo hi q : Nat} {Z : List Int} {E : Int} {o : Nat} {err : Int} (w : World) (h : Rdr w lo hi q Z E o err) (hE : E = 11 ∨ E = 4) :
    Calls Tryz.prog 34 #[.pointer (some ⟨q, 0, none⟩)] w fun e w' => ∃ b c, e = .returned (.tuple #[.slice b (nxB Z o err).length c, .int .i64 (nxE Z E o err)]) ∧
      (nxB Z o err).length ≤ c ∧ InK .u8 w' b (nxB Z o err) ∧ (∀ x, b = some x → w.heap.size ≤ x.block) ∧ Rdr w' lo hi q Z E (nxO Z o err) (nxE Z E o err) ∧ Out lo hi w w' := by
  refine (rdr_next_cap w h hE).mono ?_
  rintro e w' ⟨b, c, h1, h2, h3⟩
  exact ⟨b, c, h1, h2.1, h3⟩
end Go.Proofs.YtbbaleambgaanaaGreatDoor
