/-
  Layer 5: the walk of Write.
-/
import Derived.Test.YtnnengigahakaaaSnkFns
namespace Go.Proofs.Ytnnengigahakaaa
open Go.RowKit

/-- what one write that accepts bytes leaves -/
theorem Snk.step {w w4 : World} {S : Nat → Prop} {m : Nat} {ys cs : List Int} {F : Int} {r : Nat} {da : Option Addr} {dc : Nat} {sa : Option Addr} {sc : Nat}
    (h1 : ObjAt w m 77 [.slice sa cs.length sc, .int .i64 F, .slice da ys.length dc, .int .i64 r]) (h3 : Bytes ys) (h4 : InK .i64 w sa cs) (h5 : cs.length ≤ 1000) (h7 : S m) (h8 : ∀ k, S k → k < w.heap.size)
    (h9 : ∀ x, da = some x → S x.block ∧ x.block ≠ m) (h10 : ∀ x, sa = some x → S x.block ∧ x.block ≠ m ∧ ∀ y, da = some y → x.block ≠ y.block) (h11 : r ≤ ys.length)
    {k : Nat} (xs : List Int) (hx : xs.length = k) (hk : 1 ≤ k) (hxb : Bytes xs) (hy : ys.length + k ≤ 100000000) (hF : 0 ≤ F → ((ys.length + k : Nat) : Int) ≤ F) (a' : Option Addr) (c' : Nat)
    (ho : w4.ownsRow 0 5 1 (.slice a' (ys.length + k) c') (ys.length + k) ((ys ++ xs).map (.int .u8))) (hO : Only (fun q => ∃ x, da = some x ∧ x.block = q) w w4)
    (hw : ∀ x, a' = some x → (∃ y, da = some y ∧ y.block = x.block) ∨ (w.heap.size ≤ x.block ∧ x.block < w4.heap.size)) (w5 : World)
    (e5 : w5 = (w4.setCell ⟨m, 2, none⟩ (.slice a' (ys.length + k) c')).setCell ⟨m, 3, none⟩ (.int .i64 (r + 1))) :
    Snk w5 (Grow S w w5) m (ys ++ xs) F cs (r + 1) ∧ Only S w w5 := by
  have hlt := h1.lt
  have hsz : w5.heap.size = w4.heap.size := by rw [e5]; simp [World.setCell]
  have hly : (ys ++ xs).length = ys.length + k := by rw [List.length_append, hx]
  have hOs : Only S w w4 := hO.mono fun q _ ⟨x, h1, h2⟩ => h2 ▸ (h9 x h1).1
  have hne : ∀ x, a' = some x → x.block ≠ m := fun x hx => by
    rcases hw x hx with ⟨y, h1, h2⟩ | h
    · rw [← h2]; exact (h9 y h1).2
    · omega
  have o1 : ObjAt w4 m 77 [.slice sa cs.length sc, .int .i64 F, .slice da ys.length dc, .int .i64 r] := h1.only hO (by rintro ⟨x, h1, h2⟩; exact (h9 x h1).2 h2)
  have i4 : InK .i64 w4 sa cs := h4.only hO (by rintro x hx ⟨y, h1, h2⟩; exact (h10 x hx).2.2 y h1 h2.symm)
  refine ⟨⟨a', c', sa, sc, ?_, ?_, h3.append hxb, ?_, h5, by rw [hly]; exact hy, .inl h7, fun q hq => ?_, fun x hx => ⟨?_, hne x hx⟩, fun x hx => ⟨.inl (h10 x hx).1, (h10 x hx).2.1, fun y hy => ?_⟩, by rw [hly]; omega, by rw [hly]; exact hF⟩, ?_⟩
  · rw [e5, hly]; exact (o1.set 2 _).set 3 _
  · rw [e5, hly]
    have c1 : Only (fun q => q = m) w4 ((w4.setCell ⟨m, 2, none⟩ (.slice a' (ys.length + k) c')).setCell ⟨m, 3, none⟩ (.int .i64 (r + 1))) := ((Only.refl (fun q => q = m) w4).setCell (p := ⟨m, 2, none⟩) (.inl rfl) _).setCell (p := ⟨m, 3, none⟩) (.inl rfl) _
    exact own_only' ho c1 hne
  · rw [e5]; exact (i4.set _ (fun x hx => (h10 x hx).2.1)).set _ (fun x hx => (h10 x hx).2.1)
  · rcases hq with hq | hq
    · have := h8 q hq; have := hO.size; omega
    · exact hq.2
  · rcases hw x hx with ⟨y, h1, h2⟩ | h
    · rw [← h2]; exact .inl (h9 y h1).1
    · exact .inr ⟨h.1, by omega⟩
  · rcases hw y hy with ⟨z, h1, h2⟩ | h
    · rw [← h2]; exact (h10 x hx).2.2 z h1
    · have := h8 _ (h10 x hx).1; omega
  · rw [e5]; exact (hOs.setCell (.inl h7) _).setCell (.inl h7) _

set_option maxRecDepth 100000 in
set_option maxHeartbeats 8000000 in
theorem snk_write {S : Nat → Prop} {m : Nat} {ys cs : List Int} {F : Int} {r : Nat} (a : Option Addr) (n cap : Nat) (bs : List Int) (w : World) (h : Snk w S m ys F cs r) (hb : BytesIn w a bs) (hl : bs.length = n) (hnc : n ≤ cap) (hn : ys.length + n ≤ 100000000) (hF : F ≤ 9223372036854775807) :
    Calls Try.prog 38 #[.pointer (some ⟨m, 0, none⟩), .slice a n cap] w fun e w' => e = .returned (.tuple #[.int .i64 (wrK cs F ys.length r n), .int .i64 (wrE F ys.length n)]) ∧
      Snk w' (Grow S w w') m (ys ++ bs.take (wrK cs F ys.length r n)) F cs (wrR F ys.length r n) ∧ Only S w w' := by
  have H := Lib.hid h
  by_cases h0 : n = 0
  · subst h0
    have e1 : wrK cs F ys.length r 0 = 0 := if_pos (.inl rfl)
    have e2 : wrE F ys.length 0 = 0 := if_pos rfl
    have e3 : wrR F ys.length r 0 = r := if_pos (.inl rfl)
    rw [e1, e2, e3, List.take_zero, List.append_nil]
    clear h hb hl e1 e2 e3
    go_enter Try.func38, Try.ntmps38
    go_wp2
    go_ret2
    exact ⟨rfl, H.out.stay (Below.refl _ _)⟩
  · have hn0 : ((n : Int) == 0) = false := by simp; omega
    have HB := Lib.hid hb; have HL := Lib.hid hl
    have hfl := h.bytes.2.2.2.2
    have HFL : Hid (0 ≤ F → (ys.length : Int) ≤ F) := hfl
    clear h hb hl hfl
    by_cases hf : full F ys.length
    · have e1 : wrK cs F ys.length r n = 0 := if_pos (.inr hf)
      have e2 : wrE F ys.length n = 11 := by unfold wrE; rw [if_neg h0, if_pos hf]
      have e3 : wrR F ys.length r n = r := if_pos (.inr hf)
      have e4 : roomZ F ys.length = 0 := by unfold roomZ; unfold full at hf; rw [if_neg (by omega)]; omega
      rw [e1, e2, e3, List.take_zero, List.append_nil]
      have E4 := Lib.hid e4
      clear e1 e2 e3 e4 hf
      go_enter Try.func38, Try.ntmps38
      go_wp2_with fail
      refine (sroom_any w H.out hF).mono ?_; rintro e w2 ⟨rfl, b2⟩
      rw [E4.out]
      have B2 := Lib.hid b2; clear b2
      go_wp2_with fail
      go_ret2
      exact ⟨rfl, H.out.stay B2.out⟩
    · have hnf : ¬ (n = 0 ∨ full F ys.length) := fun h => h.elim h0 hf
      have hkp := wrK_pos (cs := cs) (r := r) h0 hf HFL.out
      have e2 : wrE F ys.length n = 0 := by unfold wrE; rw [if_neg h0, if_neg hf]
      have e3 : wrR F ys.length r n = r + 1 := if_neg hnf
      obtain ⟨k, hk⟩ := named (wrK cs F ys.length r n)
      have hkn := wrK_le cs F ys.length r n
      have hkf : Hid (0 ≤ F → ((ys.length + k : Nat) : Int) ≤ F) := by show _ → _; intro h; rw [hk.out]; exact wrK_fit h (HFL.out h)
      rw [← hk.out] at hkp hkn
      rw [← hk.out, e2, e3]
      obtain ⟨C, hC⟩ := named (chunkZ cs r)
      obtain ⟨R, hR⟩ := named (roomZ F ys.length)
      have HK : Hid (min (min (n : Int) C) R = k) := by
        show _ = _
        rw [hk.out, hC.out, hR.out]; unfold wrK roomZ; rw [if_neg hnf]
        have := HFL.out
        have := chunkZ_pos cs r
        split <;> split <;> omega
      have hR0 : (R == 0) = false := by
        have : R ≠ 0 := by
          rw [hR.out]; unfold roomZ; unfold full at hf
          split <;> omega
        simpa using this
      clear e2 e3 hnf hf
      go_enter Try.func38, Try.ntmps38
      go_wp2_with fail
      refine (sroom_any w H.out hF).mono ?_; rintro e w1 ⟨rfl, b1⟩
      rw [← hR.out]
      have H1 := Lib.hid (H.out.below b1); have B1 := Lib.hid b1; clear b1
      go_wp2_with fail
      refine (schunk_any w1 H1.out).mono ?_; rintro e w2 ⟨rfl, b2⟩
      rw [← hC.out]
      have H2 := Lib.hid (H1.out.below b2); have B2 := Lib.hid (B1.out.trans (b2.mono B1.out.size)); clear b2
      go_wp2_with fail
      refine (sroom_any w2 H2.out hF).mono ?_; rintro e w3 ⟨rfl, b3⟩
      rw [← hR.out]
      have B3 := Lib.hid (B2.out.trans (b3.mono B2.out.size))
      obtain ⟨da, dc, sa, sc, h1, h2, h3, h4, h5, h6, h7, h8, h9, h10, h11, h12⟩ := H2.out.below b3
      clear b3
      obtain ⟨L, hL⟩ := named ys.length
      have X3 := Lib.hid (HB.out.below B3.out)
      have T3 := Lib.hid h1
      have O3 := Lib.hid h2
      have N3 := Lib.hid h9
      have c2 := h1.get 2 rfl
      rw [← hL.out] at c2 hn
      have XL : Hid ((bs.take k).length = k) := by show _ = _; rw [List.length_take, HL.out]; omega
      have kc : (k : Int) ≤ cap := by omega
      have kc' : k ≤ cap := by omega
      have r1 : (r : Int) ≤ 100000000 := by omega
      have H3 := Lib.hid h3; have H4 := Lib.hid h4; have H5 := Lib.hid h5; have H7 := Lib.hid h7; have H8 := Lib.hid h8; have H10 := Lib.hid h10; have H11 := Lib.hid h11
      have HKN := Lib.hid hkn; have HKP := Lib.hid hkp
      clear h1 h2 h3 h4 h5 h6 h7 h8 h9 h10 h11 h12 hkp hkn
      go_wp2_with (refine wpList_min3 rfl _ _ _ _ rfl .i64 .i64 .i64 n C R k rfl rfl rfl HK.out ?_)
      have ON : Hid (w3.ownsRow 0 5 1 (.slice da L dc) L (ys.map (.int .u8))) := by show World.ownsRow _ _ _ _ _ _ _; rw [hL.out]; exact O3.out
      have KN : Hid (L + k ≤ 100000000) := by show _ ≤ _; have := HKN.out; omega
      go_region_law (first | (refine step_append_at rfl (.tmp 29) (.tmp 32) 22 rfl 5 .u8 1 Try.underlying22 u8T w3 (by repeat (first | exact Below.refl _ _ | exact drewN_below _ _ _ | refine Below.drew ?_ | refine Below.trans ?_ (drewN_below _ _ _))) da L dc ys rfl ON.out a k cap (bs.take k) rfl (X3.out.take k).inK XL.out (by have := KN.out; unfold maxLen; omega) (by have := KN.out; omega) ?_; intro a4 c4 w4 h4 o4 x4; have O4 := Lib.hid h4; have Q4 := Lib.hid o4; have X4 := Lib.hid x4; have T4 := Lib.hid (T3.out.only o4 (by rintro ⟨x, h1, h2⟩; exact (N3.out x h1).2 h2)); have g2 := T4.out.get 2 rfl; have g3 := T4.out.get 3 rfl; have f2 := T4.out.frozen 2; have f3 := T4.out.frozen 3; clear h4 o4 x4))
      all_goals
        go_wp2
        go_ret2
        have st := Snk.step T3.out H3.out H4.out H5.out H7.out H8.out N3.out H10.out H11.out (bs.take k) XL.out HKP.out (HB.out.bytes.take k) (by rw [← hL.out]; exact KN.out) (by rw [hL.out] at *; exact hkf.out) a4 c4 (by rw [← hL.out]; exact O4.out) Q4.out X4.out _ rfl
        rw [← hL.out] at st
        have z := B3.out.size
        exact ⟨rfl, st.1.grow (fun q hq => hq.imp id fun hq => ⟨by omega, hq.2⟩) (fun q hq => hq.elim (fun hq => st.1.lt q (.inl hq)) (fun hq => hq.2)), (Only.of_below B3.out (Nat.le_refl _)).trans st.2⟩
end Go.Proofs.Ytnnengigahakaaa
