/-
  Layer 5: walks of the reference.
-/
import Derived.Test.YtjipmiiohijfoaaSnkMath
import Derived.Test.YtjipmiiohijfoaaOnly
import Derived.Test.YtjipmiiohijfoaaRefChunk
namespace Go.Proofs.Ytjipmiiohijfoaa
open Go.RowKit

/-- at m lies the reference's sink: it holds the bytes ys, behind r writes; all its memory lies in the blocks of S -/
def Rsk (w : World) (S : Nat → Prop) (m : Nat) (ys : List Int) (F : Int) (cs : List Int) (r : Nat) : Prop :=
  ∃ da dc sa sc, ObjAt w m 63 [.slice da ys.length dc, .slice sa cs.length sc, .int .i64 F, .int .i64 r] ∧ BytesIn w da ys ∧ ys.length ≤ dc ∧ InK .i64 w sa cs ∧ cs.length ≤ 1000 ∧ ys.length ≤ 100000000 ∧
    S m ∧ (∀ k, S k → k < w.heap.size) ∧ (∀ x, da = some x → S x.block ∧ x.block ≠ m) ∧ (∀ x, sa = some x → S x.block ∧ x.block ≠ m) ∧ r ≤ ys.length ∧ (0 ≤ F → (ys.length : Int) ≤ F)

theorem Rsk.only {w w' : World} {S T : Nat → Prop} {m : Nat} {ys cs : List Int} {F : Int} {r : Nat} (h : Rsk w S m ys F cs r) (ho : Only T w w') (hd : ∀ k, S k → ¬ T k) : Rsk w' S m ys F cs r := by
  obtain ⟨da, dc, sa, sc, h1, h2, h3, h4, h5, h6, h7, h8, h9, h10, h11⟩ := h
  exact ⟨da, dc, sa, sc, h1.only ho (hd _ h7), h2.only ho (fun x hx => hd _ (h9 x hx).1), h3, h4.only ho (fun x hx => hd _ (h10 x hx).1), h5, h6, h7, fun k hk => Nat.lt_of_lt_of_le (h8 k hk) ho.size, h9, h10, h11⟩

set_option maxRecDepth 100000 in
set_option maxHeartbeats 8000000 in
theorem rsk_new (ca : Option Addr) (cl cc : Nat) (cs : List Int) (F : Int) (w : World) (hi : InK .i64 w ca cs) (hcl : cs.length = cl) (hc : cl ≤ 1000) :
    Calls Try.prog 17 #[.agg #[.slice ca cl cc, .int .i64 F]] w fun e w' => ∃ m, e = .returned (.pointer (some ⟨m, 0, none⟩)) ∧
      Rsk w' (fun k => w.heap.size ≤ k ∧ k < w'.heap.size) m [] F cs 0 ∧ Below w.heap.size w w' := by
  have HI := Lib.hid hi; have HCL := Lib.hid hcl; have HC := Lib.hid hc
  clear hi hcl hc
  go_enter Try.func17, Try.ntmps17
  go_wp2_with (refine wpList_box_obj rfl 25 _ rfl [.slice ca cl cc, .int .i64 F] rfl ?_; intro w1 h1 b1; have H1 := Lib.hid h1; have B1 := Lib.hid b1; clear h1 b1)
  have K0 : Hid (∀ w', Below w1.heap.size w1 w' → w'.cell? ⟨w.heap.size, 0, none⟩ = some (.slice ca cl cc) ∧ w'.cell? ⟨w.heap.size, 1, none⟩ = some (.int .i64 F)) := fun w' hb => ⟨(H1.out.below hb H1.out.lt).get 0 rfl, (H1.out.below hb H1.out.lt).get 1 rfl⟩
  have Y1 := Lib.hid (HI.out.below B1.out)
  obtain ⟨d0, d1⟩ := K0.out _ (Below.refl _ _)
  go_region_held3 (fun w' => w'.cell? ⟨w.heap.size, 0, none⟩ = some (.slice ca cl cc) ∧ w'.cell? ⟨w.heap.size, 1, none⟩ = some (.int .i64 F)) (first | exact K0.out _ (Below.refl _ _).drew | exact ⟨d0, d1⟩ | exact K0.out _ B3.out | go_keep) (first | (refine step_append_fresh rfl (.tmp 3) (.tmp 5) 23 rfl 3 .i64 8 Try.underlying23 i64T w1 w1 (by repeat (first | exact Below.refl _ _ | refine Below.drew ?_ | refine Below.alloc ?_ (by simp; try omega) _)) (by repeat (first | exact Below.refl _ _ | refine Below.drew ?_ | refine Below.alloc ?_ (by simp; try omega) _)) _ rfl (by simp; try omega) (by simp; try omega) ca cl cc cs rfl Y1.out HCL.out (by have := HC.out; omega) (by have := HC.out; omega) ?_; intro a3 c3 w3 i3 p3 q3 b3 _ _ x3; have I3 := Lib.hid i3; have B3 := Lib.hid b3; have X3 := Lib.hid x3; obtain ⟨g0, g1⟩ := K0.out _ b3; clear i3 p3 q3 b3 x3) | fail)
  all_goals
    go_wp2
    go_ret
    have bz1 := B1.out.size; have bz3 := B3.out.size; have lt := H1.out.lt
    have B4 : Below w3.heap.size w3 (w3.alloc (.cells #[.slice none 0 0, .slice a3 cl c3, .int .i64 F, .int .i64 0] 63)) := (Below.refl _ _).alloc (Nat.le_refl _) _
    refine ⟨_, rfl, ⟨none, 0, a3, c3, ?_, .inl rfl, Nat.le_refl _, I3.out.below B4, by rw [HCL.out]; exact HC.out, by simp, ?_, fun k hk => hk.2, fun x hx => (by cases hx), fun x hx => ?_, Nat.zero_le _, fun h => by simpa using h⟩, (B1.out.trans (B3.out.mono bz1)).trans (B4.mono (by omega))⟩
    · rw [HCL.out]; exact heap_alloc_new w3 _
    · simp; omega
    · have := X3.out x hx; simp; omega
theorem Rsk.grow {w : World} {S T : Nat → Prop} {m : Nat} {ys cs : List Int} {F : Int} {r : Nat} (h : Rsk w S m ys F cs r) (hST : ∀ k, S k → T k) (hT : ∀ k, T k → k < w.heap.size) : Rsk w T m ys F cs r := by
  obtain ⟨da, dc, sa, sc, h1, h2, h3, h4, h5, h6, h7, h8, h9, h10, h11⟩ := h
  exact ⟨da, dc, sa, sc, h1, h2, h3, h4, h5, h6, hST _ h7, hT, fun x hx => ⟨hST _ (h9 x hx).1, (h9 x hx).2⟩, fun x hx => ⟨hST _ (h10 x hx).1, (h10 x hx).2⟩, h11⟩
theorem Rsk.lt {w : World} {S : Nat → Prop} {m : Nat} {ys cs : List Int} {F : Int} {r : Nat} (h : Rsk w S m ys F cs r) : ∀ k, S k → k < w.heap.size := by
  obtain ⟨_, _, _, _, _, _, _, _, _, _, _, h8, _⟩ := h; exact h8
theorem Rsk.stay {w : World} {S : Nat → Prop} {m : Nat} {ys cs : List Int} {F : Int} {r : Nat} (h : Rsk w S m ys F cs r) (n : Nat) : Rsk (w.drewN n) (Grow S w (w.drewN n)) m ys F cs r ∧ Only S w (w.drewN n) := by
  refine ⟨?_, Only.drewN _ _ _⟩
  have h' : Rsk (w.drewN n) S m ys F cs r := h
  exact h'.grow (fun _ hk => .inl hk) (fun k hk => hk.elim (h.lt k) (fun h => h.2))
theorem Rsk.stay0 {w : World} {S : Nat → Prop} {m : Nat} {ys cs : List Int} {F : Int} {r : Nat} (h : Rsk w S m ys F cs r) : Rsk w (Grow S w w) m ys F cs r ∧ Only S w w :=
  ⟨h.grow (fun _ hk => .inl hk) (fun k hk => hk.elim (h.lt k) (fun h => h.2)), .refl _ _⟩

theorem Rsk.step {w w4 : World} {S : Nat → Prop} {m : Nat} {ys cs : List Int} {F : Int} {r : Nat} (h : Rsk w S m ys F cs r) (hb : Below w.heap.size w w4) {base k : Nat} (hbase : w.heap.size ≤ base) (xs : List Int) (hx : xs.length = k) (hk : 1 ≤ k) (b : Option Addr) (c : Nat)
    (ho : w4.ownsRow base 5 1 (.slice b (ys.length + k) c) (ys.length + k) ((ys ++ xs).map (.int .u8))) (hxb : Bytes xs) (hy : ys.length + k ≤ 100000000) (hF : 0 ≤ F → ((ys.length + k : Nat) : Int) ≤ F) (w5 : World)
    (e5 : w5 = (w4.setCell ⟨m, 0, none⟩ (.slice b (ys.length + k) c)).setCell ⟨m, 3, none⟩ (.int .i64 (r + 1))) :
    Rsk w5 (Grow S w w5) m (ys ++ xs) F cs (r + 1) ∧ Only S w w5 := by
  obtain ⟨da, dc, sa, sc, h1, h2, h3, h4, h5, h6, h7, h8, h9, h10, h11, h12⟩ := h
  have hlt := h1.lt
  have hs := hb.size
  have hsz : w5.heap.size = w4.heap.size := by rw [e5]; simp [World.setCell]
  obtain ⟨b', c', hv, k1, k2, k3, k4, k5⟩ := own_any ho
  simp only [Value.slice.injEq, true_and] at hv
  obtain ⟨rfl, rfl⟩ := hv
  have hne : ∀ x, b = some x → x.block ≠ m := fun x hx => by have := (k5 x hx).1; omega
  have hly : (ys ++ xs).length = ys.length + k := by rw [List.length_append, hx]
  refine ⟨⟨b, c, sa, sc, ?_, ?_, by rw [hly]; exact k2, ?_, h5, by rw [hly]; exact hy, .inl h7, fun q hq => ?_, fun x hx => ⟨.inr ?_, hne x hx⟩, fun x hx => ⟨.inl (h10 x hx).1, (h10 x hx).2⟩, by rw [hly]; omega, by rw [hly]; exact hF⟩, ?_⟩
  · rw [e5, hly]; exact ((h1.below hb hlt).set 0 _).set 3 _
  · rw [e5]; exact ((k1.set _ hne).set _ hne).bytes (h2.bytes.append hxb)
  · rw [e5]; exact ((h4.below hb).set _ (fun x hx => (h10 x hx).2)).set _ (fun x hx => (h10 x hx).2)
  · rcases hq with hq | hq
    · have := h8 q hq; omega
    · exact hq.2
  · have := k5 x hx; omega
  · rw [e5]; exact ((Only.of_below hb (Nat.le_refl _)).setCell (.inl h7) _).setCell (.inl h7) _

set_option maxRecDepth 100000 in
set_option maxHeartbeats 16000000 in
theorem rsk_write {S : Nat → Prop} {m : Nat} {ys cs : List Int} {F : Int} {r : Nat} (a : Option Addr) (n cap : Nat) (bs : List Int) (w : World) (h : Rsk w S m ys F cs r) (hb : BytesIn w a bs) (hl : bs.length = n) (hnc : n ≤ cap) (hn : ys.length + n ≤ 100000000) (hF : F ≤ 9223372036854775807) :
    Calls Try.prog 39 #[.pointer (some ⟨m, 0, none⟩), .slice a n cap] w fun e w' => e = .returned (.tuple #[.int .i64 (wrK cs F ys.length r n), .int .i64 (wrE F ys.length n)]) ∧
      Rsk w' (Grow S w w') m (ys ++ bs.take (wrK cs F ys.length r n)) F cs (wrR F ys.length r n) ∧ Only S w w' := by
  by_cases h0 : n = 0
  · subst h0
    have e1 : wrK cs F ys.length r 0 = 0 := if_pos (.inl rfl)
    have e2 : wrE F ys.length 0 = 0 := if_pos rfl
    have e3 : wrR F ys.length r 0 = r := if_pos (.inl rfl)
    rw [e1, e2, e3, List.take_zero, List.append_nil]
    have H := Lib.hid h.stay0
    clear h hb hl e1 e2 e3
    go_enter Try.func39, Try.ntmps39
    go_wp2
    go_ret2
    exact ⟨rfl, H.out⟩
  · have hn0 : ((n : Int) == 0) = false := by simp; omega
    have H := Lib.hid h
    obtain ⟨da, dc, sa, sc, h1, h2, h3, h4, h5, h6, h7, h8, h9, h10, h11, h12⟩ := h
    obtain ⟨L, hL⟩ := named ys.length
    have c0 := h1.get 0 rfl
    have c1 := h1.get 1 rfl
    have c2 := h1.get 2 rfl
    have c3 := h1.get 3 rfl
    rw [← hL.out] at c0 hn ⊢
    have hL2 : L ≤ 100000000 := by rw [hL.out]; exact h6
    have H1 := Lib.hid h1; have H2 := Lib.hid h2; have H4 := Lib.hid h4; have H5 := Lib.hid h5; have H11 := Lib.hid h11; have HB := Lib.hid hb; have HL := Lib.hid hl
    have HLF : Hid (0 ≤ F → (L : Int) ≤ F) := by show _ → _; rw [hL.out]; exact h12
    clear h1 h2 h3 h4 h5 h6 h7 h8 h9 h10 h11 h12 hb hl
    by_cases hf : full F L
    · have e1 : wrK cs F L r n = 0 := if_pos (.inr hf)
      have e2 : wrE F L n = 11 := by unfold wrE; rw [if_neg h0, if_pos hf]
      have e3 : wrR F L r n = r := if_pos (.inr hf)
      rw [e1, e2, e3, List.take_zero, List.append_nil]
      obtain ⟨hf0, rfl⟩ := hf
      clear e1 e2 e3 hf0
      go_enter Try.func39, Try.ntmps39
      go_wp2
      go_quiet (fail)
      go_wp2
      go_ret2
      exact ⟨rfl, H.out.stay _⟩
    · have hnf : ¬ (n = 0 ∨ full F L) := fun h => h.elim h0 hf
      have hkp := wrK_pos (cs := cs) (r := r) h0 hf HLF.out
      have e2 : wrE F L n = 0 := by unfold wrE; rw [if_neg h0, if_neg hf]
      have e3 : wrR F L r n = r + 1 := if_neg hnf
      obtain ⟨k, hk⟩ := named (wrK cs F L r n)
      have hkn := wrK_le cs F L r n
      have hkf : Hid (0 ≤ F → ((L + k : Nat) : Int) ≤ F) := by show _ → _; intro h; rw [hk.out]; exact wrK_fit h (HLF.out h)
      rw [← hk.out] at hkp hkn
      rw [← hk.out, e2, e3]
      obtain ⟨C, hC⟩ := named (chunkZ cs r)
      have hC1 : 1 ≤ C := by rw [hC.out]; exact chunkZ_pos _ _
      have HK : Hid ((min (min (n : Int) C) (if 0 ≤ F then F - L else n)) = k) := by
        show _ = _
        rw [hk.out]; unfold wrK; rw [if_neg hnf, ← hC.out]
        have := HLF.out
        split <;> omega
      have NC : Hid (∀ w', Below w.heap.size w w' → Calls Try.prog 37 #[.agg #[.slice sa cs.length sc, .int .i64 F], .int .i64 r] w' fun e w'' => e = .returned (.int .i64 C) ∧ Below w.heap.size w w'') := by
        intro w' hb
        refine (rchunk_any sa sc cs F r w' (H4.out.below hb) H5.out).mono ?_
        rintro e w'' ⟨rfl, h⟩
        rw [← hC.out]
        exact ⟨rfl, hb.trans (h.mono hb.size)⟩
      have K1 : Hid (∀ w', Below w.heap.size w w' → w'.cell? ⟨m, 1, none⟩ = some (.slice sa cs.length sc) ∧ w'.cell? ⟨m, 2, none⟩ = some (.int .i64 F) ∧ w'.cell? ⟨m, 3, none⟩ = some (.int .i64 r)) := fun w' hb => ⟨(H1.out.below hb H1.out.lt).get 1 rfl, (H1.out.below hb H1.out.lt).get 2 rfl, (H1.out.below hb H1.out.lt).get 3 rfl⟩
      clear e2 e3 hnf
      by_cases hF0 : 0 ≤ F
      · obtain ⟨d, hd⟩ : ∃ d : Nat, F - L = d := ⟨(F - L).toNat, by have := HLF.out hF0; omega⟩
        have hne : ((L : Int) == F) = false := by simp; intro h; exact hf ⟨hF0, h.symm⟩
        have HF0 := Lib.hid hF0
        clear hf
        go_enter Try.func39, Try.ntmps39
        go_wp2
        go_quiet (fail)
        go_wp2_with fail
        go_region_held3 (fun w' => w'.cell? ⟨m, 1, none⟩ = some (.slice sa cs.length sc) ∧ w'.cell? ⟨m, 2, none⟩ = some (.int .i64 F) ∧ w'.cell? ⟨m, 3, none⟩ = some (.int .i64 r)) (first | exact ⟨c1, c2, c3⟩ | exact (K1.out _ ((drewN_below _ _ _).drew)) | exact (K1.out _ (drewN_below _ _ _)) | exact K1.out _ B2.out) (first | (go_at_call 37; refine (NC.out _ (by first | exact (drewN_below _ _ _).drew | exact drewN_below _ _ _)).mono ?_; rintro e w2 ⟨rfl, b2⟩; have B2 := Lib.hid b2; clear b2))
        have T2 := Lib.hid (H1.out.below B2.out H1.out.lt)
        clear c0 c1 c2 c3
        have d0 : w2.cell? ⟨m, 0, none⟩ = some (.slice da L dc) := by have := T2.out.get 0 rfl; rwa [← hL.out] at this
        have dA : ∀ q, ((w2.drewN q).alloc (.cells #[] 5)).cell? ⟨m, 0, none⟩ = some (.slice da L dc) := fun q => by
          have := ((T2.out : ObjAt (w2.drewN q) m _ _).below ((Below.refl _ _).alloc (Nat.le_refl _) (.cells #[] 5)) T2.out.lt).get 0 rfl
          rwa [← hL.out] at this
        have d2 := T2.out.get 2 rfl
        have d3 := T2.out.get 3 rfl
        have Y2 := Lib.hid (H2.out.inK.below B2.out)
        have X2 := Lib.hid ((HB.out.take k).inK.below B2.out)
        have XL : Hid ((bs.take k).length = k) := by show _ = _; rw [List.length_take, HL.out]; omega
        have kc : (k : Int) ≤ cap := by omega
        have kc' : k ≤ cap := by omega
        have r1 : (r : Int) ≤ 100000000 := by have := H11.out; have := hL.out; omega
        have HKN := Lib.hid hkn; have HKP := Lib.hid hkp
        by_cases hCn : C < n
        · by_cases hq : (d : Int) < C
          · obtain rfl : k = d := by have h := HK.out; rw [if_pos HF0.out] at h; omega
            go_wp2_with fail
            go_quiet (fail)
            go_wp2_with fail
            go_region_law (first | (refine step_append_k rfl (.tmp 70) (.tmp 74) 22 rfl w2.heap.size 5 .u8 1 Try.underlying22 u8T _ 0 [] rfl (own_lit0 w2 5 .u8) da L dc ys rfl (Y2.out.below (by repeat (first | exact Below.refl _ _ | exact drewN_below _ _ _ | refine Below.drew ?_ | refine Below.alloc ?_ (by simp) _ | refine Below.trans ?_ (drewN_below _ _ _)))) hL.out.symm (by unfold maxLen; omega) (by omega) (by simp) ?_; intro v3 w3 h3 b3; rw [Nat.zero_add, List.nil_append] at h3; have O3 := Lib.hid h3; have B3 := Lib.hid (Below.trans (show Below w2.heap.size w2 _ by repeat (first | exact Below.refl _ _ | exact drewN_below _ _ _ | refine Below.drew ?_ | refine Below.alloc ?_ (by simp) _ | refine Below.trans ?_ (drewN_below _ _ _))) b3); clear h3 b3) | (refine step_append_k rfl (.tmp 75) (.tmp 78) 22 rfl w2.heap.size 5 .u8 1 Try.underlying22 u8T _ L ys rfl O3.out a k cap (bs.take k) rfl (X2.out.below B3.out) XL.out (by unfold maxLen; omega) (by omega) B3.out.size ?_; intro v4 w4 h4 b4; obtain ⟨a4, c4, rfl, _⟩ := own_any h4; have O4 := Lib.hid h4; have B4 := Lib.hid (B3.out.trans b4); have g0 := (T2.out.below B4.out T2.out.lt).get 0 rfl; have g3 := (T2.out.below B4.out T2.out.lt).get 3 rfl; have f0 := (T2.out.below B4.out T2.out.lt).frozen 0; have f3 := (T2.out.below B4.out T2.out.lt).frozen 3; clear h4 b4))
            all_goals
              go_wp2
              go_ret2
              have st := H.out.step (B2.out.trans (B4.out.mono B2.out.size)) (base := w2.heap.size) B2.out.size (bs.take k) XL.out HKP.out a4 c4 (by rw [← hL.out]; exact O4.out) (HB.out.bytes.take k) (by rw [← hL.out]; have := HKN.out; omega) (by rw [← hL.out]; exact hkf.out) _ rfl
              rw [← hL.out] at st
              exact ⟨rfl, st⟩
          · obtain rfl : C = k := by have h := HK.out; rw [if_pos HF0.out] at h; omega
            go_wp2_with fail
            go_quiet (fail)
            go_wp2_with fail
            go_region_law (first | (refine step_append_k rfl (.tmp 70) (.tmp 74) 22 rfl w2.heap.size 5 .u8 1 Try.underlying22 u8T _ 0 [] rfl (own_lit0 w2 5 .u8) da L dc ys rfl (Y2.out.below (by repeat (first | exact Below.refl _ _ | exact drewN_below _ _ _ | refine Below.drew ?_ | refine Below.alloc ?_ (by simp) _ | refine Below.trans ?_ (drewN_below _ _ _)))) hL.out.symm (by unfold maxLen; omega) (by omega) (by simp) ?_; intro v3 w3 h3 b3; rw [Nat.zero_add, List.nil_append] at h3; have O3 := Lib.hid h3; have B3 := Lib.hid (Below.trans (show Below w2.heap.size w2 _ by repeat (first | exact Below.refl _ _ | exact drewN_below _ _ _ | refine Below.drew ?_ | refine Below.alloc ?_ (by simp) _ | refine Below.trans ?_ (drewN_below _ _ _))) b3); clear h3 b3) | (refine step_append_k rfl (.tmp 75) (.tmp 78) 22 rfl w2.heap.size 5 .u8 1 Try.underlying22 u8T _ L ys rfl O3.out a k cap (bs.take k) rfl (X2.out.below B3.out) XL.out (by unfold maxLen; omega) (by omega) B3.out.size ?_; intro v4 w4 h4 b4; obtain ⟨a4, c4, rfl, _⟩ := own_any h4; have O4 := Lib.hid h4; have B4 := Lib.hid (B3.out.trans b4); have g0 := (T2.out.below B4.out T2.out.lt).get 0 rfl; have g3 := (T2.out.below B4.out T2.out.lt).get 3 rfl; have f0 := (T2.out.below B4.out T2.out.lt).frozen 0; have f3 := (T2.out.below B4.out T2.out.lt).frozen 3; clear h4 b4))
            all_goals
              go_wp2
              go_ret2
              have st := H.out.step (B2.out.trans (B4.out.mono B2.out.size)) (base := w2.heap.size) B2.out.size (bs.take k) XL.out HKP.out a4 c4 (by rw [← hL.out]; exact O4.out) (HB.out.bytes.take k) (by rw [← hL.out]; have := HKN.out; omega) (by rw [← hL.out]; exact hkf.out) _ rfl
              rw [← hL.out] at st
              exact ⟨rfl, st⟩
        · by_cases hq : (d : Int) < n
          · obtain rfl : k = d := by have h := HK.out; rw [if_pos HF0.out] at h; omega
            go_wp2_with fail
            go_quiet (fail)
            go_wp2_with fail
            go_region_law (first | (refine step_append_k rfl (.tmp 70) (.tmp 74) 22 rfl w2.heap.size 5 .u8 1 Try.underlying22 u8T _ 0 [] rfl (own_lit0 w2 5 .u8) da L dc ys rfl (Y2.out.below (by repeat (first | exact Below.refl _ _ | exact drewN_below _ _ _ | refine Below.drew ?_ | refine Below.alloc ?_ (by simp) _ | refine Below.trans ?_ (drewN_below _ _ _)))) hL.out.symm (by unfold maxLen; omega) (by omega) (by simp) ?_; intro v3 w3 h3 b3; rw [Nat.zero_add, List.nil_append] at h3; have O3 := Lib.hid h3; have B3 := Lib.hid (Below.trans (show Below w2.heap.size w2 _ by repeat (first | exact Below.refl _ _ | exact drewN_below _ _ _ | refine Below.drew ?_ | refine Below.alloc ?_ (by simp) _ | refine Below.trans ?_ (drewN_below _ _ _))) b3); clear h3 b3) | (refine step_append_k rfl (.tmp 75) (.tmp 78) 22 rfl w2.heap.size 5 .u8 1 Try.underlying22 u8T _ L ys rfl O3.out a k cap (bs.take k) rfl (X2.out.below B3.out) XL.out (by unfold maxLen; omega) (by omega) B3.out.size ?_; intro v4 w4 h4 b4; obtain ⟨a4, c4, rfl, _⟩ := own_any h4; have O4 := Lib.hid h4; have B4 := Lib.hid (B3.out.trans b4); have g0 := (T2.out.below B4.out T2.out.lt).get 0 rfl; have g3 := (T2.out.below B4.out T2.out.lt).get 3 rfl; have f0 := (T2.out.below B4.out T2.out.lt).frozen 0; have f3 := (T2.out.below B4.out T2.out.lt).frozen 3; clear h4 b4))
            all_goals
              go_wp2
              go_ret2
              have st := H.out.step (B2.out.trans (B4.out.mono B2.out.size)) (base := w2.heap.size) B2.out.size (bs.take k) XL.out HKP.out a4 c4 (by rw [← hL.out]; exact O4.out) (HB.out.bytes.take k) (by rw [← hL.out]; have := HKN.out; omega) (by rw [← hL.out]; exact hkf.out) _ rfl
              rw [← hL.out] at st
              exact ⟨rfl, st⟩
          · obtain rfl : k = n := by have h := HK.out; rw [if_pos HF0.out] at h; omega
            go_wp2_with fail
            go_quiet (fail)
            go_wp2_with fail
            go_region_law (first | (refine step_append_k rfl (.tmp 70) (.tmp 74) 22 rfl w2.heap.size 5 .u8 1 Try.underlying22 u8T _ 0 [] rfl (own_lit0 w2 5 .u8) da L dc ys rfl (Y2.out.below (by repeat (first | exact Below.refl _ _ | exact drewN_below _ _ _ | refine Below.drew ?_ | refine Below.alloc ?_ (by simp) _ | refine Below.trans ?_ (drewN_below _ _ _)))) hL.out.symm (by unfold maxLen; omega) (by omega) (by simp) ?_; intro v3 w3 h3 b3; rw [Nat.zero_add, List.nil_append] at h3; have O3 := Lib.hid h3; have B3 := Lib.hid (Below.trans (show Below w2.heap.size w2 _ by repeat (first | exact Below.refl _ _ | exact drewN_below _ _ _ | refine Below.drew ?_ | refine Below.alloc ?_ (by simp) _ | refine Below.trans ?_ (drewN_below _ _ _))) b3); clear h3 b3) | (refine step_append_k rfl (.tmp 75) (.tmp 78) 22 rfl w2.heap.size 5 .u8 1 Try.underlying22 u8T _ L ys rfl O3.out a k cap (bs.take k) rfl (X2.out.below B3.out) XL.out (by unfold maxLen; omega) (by omega) B3.out.size ?_; intro v4 w4 h4 b4; obtain ⟨a4, c4, rfl, _⟩ := own_any h4; have O4 := Lib.hid h4; have B4 := Lib.hid (B3.out.trans b4); have g0 := (T2.out.below B4.out T2.out.lt).get 0 rfl; have g3 := (T2.out.below B4.out T2.out.lt).get 3 rfl; have f0 := (T2.out.below B4.out T2.out.lt).frozen 0; have f3 := (T2.out.below B4.out T2.out.lt).frozen 3; clear h4 b4))
            all_goals
              go_wp2
              go_ret2
              have st := H.out.step (B2.out.trans (B4.out.mono B2.out.size)) (base := w2.heap.size) B2.out.size (bs.take k) XL.out HKP.out a4 c4 (by rw [← hL.out]; exact O4.out) (HB.out.bytes.take k) (by rw [← hL.out]; have := HKN.out; omega) (by rw [← hL.out]; exact hkf.out) _ rfl
              rw [← hL.out] at st
              exact ⟨rfl, st⟩
      · have hd : decide ((0 : Int) ≤ F) = false := by simp; omega
        have HF0 := Lib.hid hF0
        clear hf
        go_enter Try.func39, Try.ntmps39
        go_wp2
        go_quiet (fail)
        go_wp2_with fail
        go_region_held3 (fun w' => w'.cell? ⟨m, 1, none⟩ = some (.slice sa cs.length sc) ∧ w'.cell? ⟨m, 2, none⟩ = some (.int .i64 F) ∧ w'.cell? ⟨m, 3, none⟩ = some (.int .i64 r)) (first | exact ⟨c1, c2, c3⟩ | exact (K1.out _ ((drewN_below _ _ _).drew)) | exact (K1.out _ (drewN_below _ _ _)) | exact K1.out _ B2.out) (first | (go_at_call 37; refine (NC.out _ (by first | exact (drewN_below _ _ _).drew | exact drewN_below _ _ _)).mono ?_; rintro e w2 ⟨rfl, b2⟩; have B2 := Lib.hid b2; clear b2))
        have T2 := Lib.hid (H1.out.below B2.out H1.out.lt)
        clear c0 c1 c2 c3
        have d0 : w2.cell? ⟨m, 0, none⟩ = some (.slice da L dc) := by have := T2.out.get 0 rfl; rwa [← hL.out] at this
        have dA : ∀ q, ((w2.drewN q).alloc (.cells #[] 5)).cell? ⟨m, 0, none⟩ = some (.slice da L dc) := fun q => by
          have := ((T2.out : ObjAt (w2.drewN q) m _ _).below ((Below.refl _ _).alloc (Nat.le_refl _) (.cells #[] 5)) T2.out.lt).get 0 rfl
          rwa [← hL.out] at this
        have d2 := T2.out.get 2 rfl
        have d3 := T2.out.get 3 rfl
        have Y2 := Lib.hid (H2.out.inK.below B2.out)
        have X2 := Lib.hid ((HB.out.take k).inK.below B2.out)
        have XL : Hid ((bs.take k).length = k) := by show _ = _; rw [List.length_take, HL.out]; omega
        have kc : (k : Int) ≤ cap := by omega
        have kc' : k ≤ cap := by omega
        have r1 : (r : Int) ≤ 100000000 := by have := H11.out; have := hL.out; omega
        have HKN := Lib.hid hkn; have HKP := Lib.hid hkp
        by_cases hCn : C < n
        · obtain rfl : C = k := by have h := HK.out; rw [if_neg (by have := HF0.out; omega)] at h; omega
          go_wp2_with fail
          go_quiet (fail)
          go_wp2_with fail
          go_region_law (first | (refine step_append_k rfl (.tmp 70) (.tmp 74) 22 rfl w2.heap.size 5 .u8 1 Try.underlying22 u8T _ 0 [] rfl (own_lit0 w2 5 .u8) da L dc ys rfl (Y2.out.below (by repeat (first | exact Below.refl _ _ | exact drewN_below _ _ _ | refine Below.drew ?_ | refine Below.alloc ?_ (by simp) _ | refine Below.trans ?_ (drewN_below _ _ _)))) hL.out.symm (by unfold maxLen; omega) (by omega) (by simp) ?_; intro v3 w3 h3 b3; rw [Nat.zero_add, List.nil_append] at h3; have O3 := Lib.hid h3; have B3 := Lib.hid (Below.trans (show Below w2.heap.size w2 _ by repeat (first | exact Below.refl _ _ | exact drewN_below _ _ _ | refine Below.drew ?_ | refine Below.alloc ?_ (by simp) _ | refine Below.trans ?_ (drewN_below _ _ _))) b3); clear h3 b3) | (refine step_append_k rfl (.tmp 75) (.tmp 78) 22 rfl w2.heap.size 5 .u8 1 Try.underlying22 u8T _ L ys rfl O3.out a k cap (bs.take k) rfl (X2.out.below B3.out) XL.out (by unfold maxLen; omega) (by omega) B3.out.size ?_; intro v4 w4 h4 b4; obtain ⟨a4, c4, rfl, _⟩ := own_any h4; have O4 := Lib.hid h4; have B4 := Lib.hid (B3.out.trans b4); have g0 := (T2.out.below B4.out T2.out.lt).get 0 rfl; have g3 := (T2.out.below B4.out T2.out.lt).get 3 rfl; have f0 := (T2.out.below B4.out T2.out.lt).frozen 0; have f3 := (T2.out.below B4.out T2.out.lt).frozen 3; clear h4 b4))
          all_goals
            go_wp2
            go_ret2
            have st := H.out.step (B2.out.trans (B4.out.mono B2.out.size)) (base := w2.heap.size) B2.out.size (bs.take k) XL.out HKP.out a4 c4 (by rw [← hL.out]; exact O4.out) (HB.out.bytes.take k) (by rw [← hL.out]; have := HKN.out; omega) (by rw [← hL.out]; exact hkf.out) _ rfl
            rw [← hL.out] at st
            exact ⟨rfl, st⟩
        · obtain rfl : k = n := by have h := HK.out; rw [if_neg (by have := HF0.out; omega)] at h; omega
          go_wp2_with fail
          go_quiet (fail)
          go_wp2_with fail
          go_region_law (first | (refine step_append_k rfl (.tmp 70) (.tmp 74) 22 rfl w2.heap.size 5 .u8 1 Try.underlying22 u8T _ 0 [] rfl (own_lit0 w2 5 .u8) da L dc ys rfl (Y2.out.below (by repeat (first | exact Below.refl _ _ | exact drewN_below _ _ _ | refine Below.drew ?_ | refine Below.alloc ?_ (by simp) _ | refine Below.trans ?_ (drewN_below _ _ _)))) hL.out.symm (by unfold maxLen; omega) (by omega) (by simp) ?_; intro v3 w3 h3 b3; rw [Nat.zero_add, List.nil_append] at h3; have O3 := Lib.hid h3; have B3 := Lib.hid (Below.trans (show Below w2.heap.size w2 _ by repeat (first | exact Below.refl _ _ | exact drewN_below _ _ _ | refine Below.drew ?_ | refine Below.alloc ?_ (by simp) _ | refine Below.trans ?_ (drewN_below _ _ _))) b3); clear h3 b3) | (refine step_append_k rfl (.tmp 75) (.tmp 78) 22 rfl w2.heap.size 5 .u8 1 Try.underlying22 u8T _ L ys rfl O3.out a k cap (bs.take k) rfl (X2.out.below B3.out) XL.out (by unfold maxLen; omega) (by omega) B3.out.size ?_; intro v4 w4 h4 b4; obtain ⟨a4, c4, rfl, _⟩ := own_any h4; have O4 := Lib.hid h4; have B4 := Lib.hid (B3.out.trans b4); have g0 := (T2.out.below B4.out T2.out.lt).get 0 rfl; have g3 := (T2.out.below B4.out T2.out.lt).get 3 rfl; have f0 := (T2.out.below B4.out T2.out.lt).frozen 0; have f3 := (T2.out.below B4.out T2.out.lt).frozen 3; clear h4 b4))
          all_goals
            go_wp2
            go_ret2
            have st := H.out.step (B2.out.trans (B4.out.mono B2.out.size)) (base := w2.heap.size) B2.out.size (bs.take k) XL.out HKP.out a4 c4 (by rw [← hL.out]; exact O4.out) (HB.out.bytes.take k) (by rw [← hL.out]; have := HKN.out; omega) (by rw [← hL.out]; exact hkf.out) _ rfl
            rw [← hL.out] at st
            exact ⟨rfl, st⟩
end Go.Proofs.Ytjipmiiohijfoaa
