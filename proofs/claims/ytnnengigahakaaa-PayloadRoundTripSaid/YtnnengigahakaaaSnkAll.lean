/-
  Layer 5: the walk of WriteAll.
-/
import Derived.Test.YtnnengigahakaaaSnkWrite
namespace Go.Proofs.Ytnnengigahakaaa
open Go.RowKit

theorem Only.comp' {S : Nat → Prop} {a b c : World} (h : Only S a b) (k : Only (Grow S a b) b c) : Only S a c :=
  ⟨k.os.trans h.os, k.tape.trans h.tape, k.output.trans h.output, Nat.le_trans h.size k.size, fun i hi hj => (k.block i (Nat.lt_of_lt_of_le hi h.size) (by rintro (h | h); exact hj h; omega)).trans (h.block i hi hj)⟩
theorem grow_grow' {S : Nat → Prop} {a b c : World} (h1 : a.heap.size ≤ b.heap.size) (h2 : b.heap.size ≤ c.heap.size) : ∀ k, Grow (Grow S a b) b c k → Grow S a c k := by
  rintro k ((h | h) | h)
  · exact .inl h
  · exact .inr ⟨h.1, by omega⟩
  · exact .inr ⟨by omega, h.2⟩
theorem grow_lt' {S : Nat → Prop} {a b : World} (hs : ∀ k, S k → k < a.heap.size) (h : a.heap.size ≤ b.heap.size) : ∀ k, Grow S a b k → k < b.heap.size := by
  rintro k (h' | h')
  · have := hs k h'; omega
  · exact h'.2

set_option maxRecDepth 100000 in
set_option maxHeartbeats 8000000 in
theorem snk_all {S : Nat → Prop} {m : Nat} {ys cs : List Int} {F : Int} {r : Nat} (a : Option Addr) (n cap : Nat) (bs : List Int) (w : World) (h : Snk w S m ys F cs r) (hb : BytesIn w a bs) (hl : bs.length = n) (hnc : n ≤ cap) (hn : ys.length + n ≤ 100000000) (hF : F ≤ 9223372036854775807)
    (hd : ∀ x, a = some x → bs = [] ∨ ¬ S x.block) :
    Calls Try.prog 33 #[.pointer (some ⟨m, 0, none⟩), .slice a n cap] w fun e w' => e = .returned (.int .i64 (allE F ys.length n)) ∧
      Snk w' (Grow S w w') m (ys ++ bs.take (allK F ys.length n)) F cs (allR cs F n ys.length r n) ∧ Only S w w' := by
  have H0 := Lib.hid (h.stay (Below.refl _ _)); have HB := Lib.hid hb; have HL := Lib.hid hl; have HS := Lib.hid h.lt
  obtain ⟨L, hL⟩ := named ys.length
  obtain ⟨K, hK⟩ := named (allK F L n)
  obtain ⟨E, hE⟩ := named (allE F L n)
  obtain ⟨R, hR⟩ := named (allR cs F n L r n)
  rw [← hL.out] at hn ⊢
  rw [← hK.out, ← hE.out, ← hR.out]
  have HD : Hid (∀ b off, a = some ⟨b, off, none⟩ → b < w.heap.size → bs = [] ∨ ¬ S b) := fun b off hx _ => hd _ hx
  clear h hb hl hd
  go_enter Try.func33, Try.ntmps33
  go_wp2_with fail
  go_loopw [1, 5, 6, 7] (fun v _ _ _ wr => ∃ (j : Nat) (a' : Option Addr) (c' r' : Nat), j ≤ n ∧ v = .slice a' (n - j) c' ∧ n - j ≤ c' ∧ (bs.drop j = [] ∨ ∃ b off, a' = some ⟨b, off, none⟩ ∧ b < w.heap.size ∧ ¬ S b ∧ RowAt wr b off (bs.drop j)) ∧
    Snk wr (Grow S w wr) m (ys ++ bs.take j) F cs r' ∧ Only S w wr ∧ allR cs F (n - j) (L + j) r' (n - j) = R ∧ j + allK F (L + j) (n - j) = K ∧ allE F (L + j) (n - j) = E) (fun v _ _ _ _ => match v with | .slice _ l _ => l | _ => 0)
  case atStart =>
    refine ⟨0, a, cap, r, Nat.zero_le _, rfl, hnc, ?_, by simpa using H0.out.1, H0.out.2, hR.out.symm, by simpa using hK.out.symm, hE.out.symm⟩
    rcases HB.out with h | ⟨b, off, h1, h2, h3⟩
    · left; rw [h]; rfl
    · rcases HD.out b off h1 h2 with h | h
      · left; rw [h]; rfl
      · exact .inr ⟨b, off, h1, h2, h, h3⟩
  case round =>
    obtain ⟨j, a', c', r', hj, rfl, hjc, hrow, hs, ho, e1, e2, e3⟩ := hrel
    have RW := Lib.hid hrow; have SS := Lib.hid hs; have OO := Lib.hid ho; have E1 := Lib.hid e1; have E2 := Lib.hid e2; have E3 := Lib.hid e3
    have hlj : (ys ++ bs.take j).length = L + j := by rw [List.length_append, List.length_take, HL.out, hL.out]; omega
    have LJ := Lib.hid hlj
    have HFL : Hid (0 ≤ F → ((L + j : Nat) : Int) ≤ F) := by
      show _ → _
      have h12 := hs.bytes.2.2.2.2
      rw [hlj] at h12; exact h12
    clear hrow hs ho e1 e2 e3 hlj
    obtain ⟨M, hM⟩ := named (n - j)
    rw [← hM.out] at hjc ⊢
    have LD : Hid ((bs.drop j).length = M) := by show _ = _; rw [List.length_drop, HL.out]; exact hM.out.symm
    have hnj : L + j + M ≤ 100000000 := by have := hM.out; omega
    have XB : Hid (BytesIn wr a' (bs.drop j)) := by
      show BytesIn _ _ _
      rcases RW.out with h | ⟨b, off, h1, h2, _, h4⟩
      · exact .inl h
      · exact .inr ⟨b, off, h1, Nat.lt_of_lt_of_le h2 OO.out.size, h4⟩
    obtain ⟨k, hk⟩ := named (wrK cs F (L + j) r' M)
    have hkM := wrK_le cs F (L + j) r' M
    rw [← hk.out] at hkM
    have HKM := Lib.hid hkM
    go_wp2_with fail
    refine (snk_write a' M c' (bs.drop j) wr SS.out XB.out LD.out hjc (by rw [LJ.out]; exact hnj) hF).mono ?_; rintro e w2 ⟨rfl, s2, o2⟩
    rw [LJ.out, ← hk.out] at s2
    rw [LJ.out, ← hk.out]
    have S2 := Lib.hid s2; have O2 := Lib.hid (OO.out.comp' o2); have Z2 := Lib.hid o2.size
    have RB2 : Hid (bs.drop j = [] ∨ ∃ b off, a' = some ⟨b, off, none⟩ ∧ b < w.heap.size ∧ ¬ S b ∧ RowAt w2 b off (bs.drop j)) := by
      refine RW.out.imp id ?_
      rintro ⟨b, off, h1, h2, h3, h4⟩
      refine ⟨b, off, h1, h2, h3, fun i hi => ?_, h4.2⟩
      exact (World.cell?_of_block (a := ⟨b, off + i, none⟩) (o2.block b (Nat.lt_of_lt_of_le h2 OO.out.size) (by rintro (h | h); exact h3 h; omega))).trans (h4.1 i hi)
    clear s2 o2
    have GG := Lib.hid (S2.out.grow (grow_grow' OO.out.size Z2.out) (grow_lt' HS.out O2.out.size))
    by_cases h0 : M = 0
    · subst h0
      have k0 : allK F (L + j) 0 = 0 := by unfold allK; have := HFL.out; split <;> omega
      have k1 : allE F (L + j) 0 = 0 := by unfold allE; have := HFL.out; rw [if_neg (by omega)]
      have k2 : wrE F (L + j) 0 = 0 := if_pos rfl
      have k3 : wrR F (L + j) r' 0 = r' := if_pos (.inl rfl)
      obtain rfl : k = 0 := by omega
      have f1 := E1.out; have f2 := E2.out; have f3 := E3.out
      rw [← hM.out] at f1 f2 f3
      rw [k0] at f2; rw [k1] at f3
      have f1' : r' = R := f1
      have gg := GG.out
      rw [k3, List.take_zero, List.append_nil] at gg
      have GG' := Lib.hid gg
      rw [k2]
      clear k0 k1 k2 k3 gg f1
      go_wp2_with fail
      go_ret
      obtain rfl : j = K := by omega
      rw [← f3, ← f1']
      exact ⟨rfl, GG'.out, O2.out⟩
    · by_cases hf : full F (L + j)
      · have g1 : wrE F (L + j) M = 11 := by unfold wrE; rw [if_neg h0, if_pos hf]
        have g2 : k = 0 := by rw [hk.out]; exact if_pos (.inr hf)
        have g3 : wrR F (L + j) r' M = r' := if_pos (.inr hf)
        have g4 : allK F (L + j) M = 0 := by unfold allK; unfold full at hf; rw [if_pos (by omega)]; omega
        have g5 : allE F (L + j) M = 11 := by unfold allE; unfold full at hf; rw [if_pos (by omega)]
        have g6 : allR cs F M (L + j) r' M = r' := allR_stop cs (.inr hf)
        have f1 := E1.out; have f2 := E2.out; have f3 := E3.out
        rw [← hM.out] at f1 f2 f3
        rw [g6] at f1; rw [g4] at f2; rw [g5] at f3
        rw [g1]
        have gg := GG.out
        rw [g3, g2, List.take_zero, List.append_nil] at gg
        have GG' := Lib.hid gg
        clear g1 g2 g3 g4 g5 g6 gg hf
        go_wp2_with fail
        go_ret
        obtain rfl : j = K := by omega
        rw [← f3, ← f1]
        exact ⟨rfl, GG'.out, O2.out⟩
      · have g1 : wrE F (L + j) M = 0 := by unfold wrE; rw [if_neg h0, if_neg hf]
        have g3 : wrR F (L + j) r' M = r' + 1 := if_neg (fun h => h.elim h0 hf)
        have g4 := allK_step (cs := cs) (F := F) (L := L + j) (r := r') (m := M) HFL.out
        have g6 := allR_step (cs := cs) (r := r') h0 hf HFL.out
        have hkp := wrK_pos (cs := cs) (r := r') h0 hf HFL.out
        rw [← hk.out] at g4 g6 hkp
        have f1 := E1.out; have f2 := E2.out; have f3 := E3.out
        rw [← hM.out] at f1 f2 f3
        rw [g6] at f1; rw [g4.1] at f2; rw [← g4.2] at f3
        have F1 := Lib.hid f1; have F2 := Lib.hid f2; have F3 := Lib.hid f3
        rw [g1]
        have gg := GG.out
        have et : ys ++ bs.take j ++ (bs.drop j).take k = ys ++ bs.take (j + k) := by rw [List.append_assoc, List.take_add]
        rw [g3, et] at gg
        have GG' := Lib.hid gg
        have HKP := Lib.hid hkp
        clear g1 g3 g4 g6 f1 f2 f3 gg et hf hkp
        by_cases hkm : k = M
        · subst hkm
          have kk0 : allK F (L + j + k) (k - k) = 0 := by rw [Nat.sub_self]; unfold allK; split <;> omega
          have f1 := F1.out; have f2 := F2.out; have f3 := F3.out
          rw [Nat.sub_self] at f1 f3
          rw [kk0] at f2
          have f1' : r' + 1 = R := f1
          have e0 : allE F (L + j + k) 0 = 0 := by
            have hb := GG'.out.bytes.2.2.2.2
            have hlk : (ys ++ bs.take (j + k)).length = L + j + k := by rw [List.length_append, List.length_take, HL.out, hL.out]; have := hM.out; omega
            rw [hlk] at hb
            unfold allE; rw [if_neg (by omega)]
          rw [e0] at f3
          clear e0 kk0 f1
          go_wp2_with fail
          go_ret
          obtain rfl : j + k = K := by omega
          rw [← f3, ← f1']
          exact ⟨rfl, GG'.out, O2.out⟩
        · have hkm' : ((k : Int) == (M : Int)) = false := by simp; omega
          have k3 : (k : Int) ≤ M := by omega
          obtain ⟨b, off, rfl, hbw, hbS, hrow⟩ : ∃ b off, a' = some ⟨b, off, none⟩ ∧ b < w.heap.size ∧ ¬ S b ∧ RowAt w2 b off (bs.drop j) := by
            rcases RB2.out with h | h
            · have h1 := congrArg List.length h
              rw [List.length_drop, HL.out, List.length_nil] at h1
              have := hM.out
              omega
            · exact h
          have RB := Lib.hid hrow; have BW := Lib.hid hbw; have BS := Lib.hid hbS
          clear hrow hbw hbS RW RB2
          have kc : (k : Int) ≤ c' := by omega
          go_wp2_with fail
          go_roundw
          case rel =>
            have em : n - (j + k) = M - k := by have := hM.out; omega
            have hm := hM.out
            have hkp := HKP.out
            have f1 := F1.out; have f2 := F2.out; have f3 := F3.out
            rw [← em] at f1 f2 f3 ⊢
            rw [Nat.add_assoc] at f1 f2 f3
            exact ⟨j + k, _, _, r' + 1, by omega, rfl, by omega, .inr ⟨b, off + k, rfl, BW.out, BS.out, by have := RB.out.drop k; rwa [List.drop_drop] at this⟩, GG'.out, O2.out, f1, by omega, f3⟩
          case measure => have := HKP.out; simp; omega
end Go.Proofs.Ytnnengigahakaaa
