/-
  Layer 15: the statements' own TooLarge (members).
-/
import Derived.Test.YtinmkgpmoclcoaaDoorPz13
import Derived.Test.YtinmkgpmoclcoaaDoorPz12
import Derived.Test.YtinmkgpmoclcoaaDoorPz05
namespace Go.Proofs.YtinmkgpmoclcoaaDoor.Reb
open Go.RowKit Go.Proofs.YtinmkgpmoclcoaaDoor.Fit Pnm Tre Flt

set_option maxHeartbeats 1000000 in
theorem large10 (k : Int) (p : ByteArray) (m : Int) (t : ByteArray) (s : Int) (w : World) (hp : p.size ≤ 140737488355328) (ht : t.size ≤ 140737488355328) :
    Calls Tryd.prog 31 #[.agg (enV k p m t s).toArray] w fun e w' => e = .returned (.int .i64 (if 70000 < p.size + t.size then 1 else 0)) ∧ Below w.heap.size w w' := by
  have h1 : (p.size : Int) ≤ 140737488355328 := by omega
  have h2 : (t.size : Int) ≤ 140737488355328 := by omega
  by_cases c : 70000 < p.size + t.size
  · rw [if_pos c]
    have c' : (70000 : Int) < (p.size : Int) + t.size := by omega
    clear hp ht c
    go_enter Tryd.func31, Tryd.ntmps31
    go_wp2_with (first | (refine wpList_box_obj rfl 27 _ rfl (enV k p m t s) rfl ?_; intro w1 g1 b1; have B1 := Lib.hid b1; have c1 := g1.get 1 rfl; have c3 := g1.get 3 rfl; clear g1 b1))
    go_ret
    exact ⟨rfl, B1.out⟩
  · rw [if_neg c]
    have c' : ¬ (70000 : Int) < (p.size : Int) + t.size := by omega
    clear hp ht c
    go_enter Tryd.func31, Tryd.ntmps31
    go_wp2_with (first | (refine wpList_box_obj rfl 27 _ rfl (enV k p m t s) rfl ?_; intro w1 g1 b1; have B1 := Lib.hid b1; have c1 := g1.get 1 rfl; have c3 := g1.get 3 rfl; clear g1 b1))
    go_ret
    exact ⟨rfl, B1.out⟩

/-- members that are not too large -/
def Small (ys : List MbS) (n : Nat) : Prop := n ≤ 40 ∧ ∀ y ∈ ys, y.n.e.p.size + y.n.e.t.size ≤ 70000 ∧ y.n.d.length ≤ 70000

set_option maxRecDepth 100000 in
set_option maxHeartbeats 8000000 in
theorem large_any (a : Option Addr) (n cap : Nat) (ys : List MbS) (w : World) (ha : ArgMbs w a n cap ys) :
    Calls Tryd.prog 12 #[.slice a n cap] w fun e w' => ∃ R : Int, e = .returned (.int .i64 R) ∧ (R = 1 ∨ (R = 0 ∧ Small ys n)) ∧ Below w.heap.size w w' := by
  have HA := Lib.hid ha
  have MT : Hid (ObjT Tryd.prog 30 6) := ⟨⟨_, Tryd.underlying30⟩, by kernel_rfl⟩
  have MZ : Hid ((Tryd.prog.info? 30).map (·.zero) = some (some (.agg (mbC 0 emp 0 emp 0 none 0 0).toArray))) := by show _ = _; kernel_rfl
  have EO := Lib.hid enT
  have HN : Hid (ys.length = n) := ha.n
  have hn : n ≤ maxLen := Nat.le_trans ha.c ha.m
  unfold maxLen at hn
  clear ha
  by_cases h40 : (40 : Int) < n
  · go_enter Tryd.func12, Tryd.ntmps12
    go_wp2_with fail
    go_ret
    exact ⟨1, rfl, .inl rfl, Below.refl _ _⟩
  · have N40 : Hid (n ≤ 40) := by show _ ≤ _; omega
    go_enter Tryd.func12, Tryd.ntmps12
    go_wp2_with fail
    go_loopw [3, 11] (fun s i wr => ∃ j S : Nat, s = .int .i64 S ∧ i = .int .i64 j ∧ j ≤ n ∧ S ≤ 140000 * j ∧ (∀ k, k < j → ∀ y, ys[k]? = some y → y.n.e.p.size + y.n.e.t.size ≤ 70000 ∧ y.n.d.length ≤ 70000) ∧ Below w.heap.size w wr) (fun _ i _ => n - (intOf i).toNat)
    case atStart => exact ⟨0, 0, rfl, rfl, Nat.zero_le _, Nat.zero_le _, fun k hk => absurd hk (Nat.not_lt_zero k), Below.refl _ _⟩
    case round =>
      obtain ⟨j, S, rfl, rfl, hj, hs, hp, hB⟩ := hrel
      have HP := Lib.hid hp; have HB := Lib.hid hB
      have S1 : (S : Int) ≤ 5600000 := by have := N40.out; omega
      have HS := Lib.hid hs
      clear hp hB hs
      by_cases hjn : j < n
      · obtain ⟨b, off, y, rfl, hb, hy, hf, hat⟩ := HA.out.get j hjn
        have AT := Lib.hid (hat.below HB.out hb)
        have HY := Lib.hid hy
        have PP := Lib.hid hf.p; have PT := Lib.hid hf.t; have PD := Lib.hid hf.l
        clear hat hf hy hb
        obtain ⟨⟨⟨k, p, m, t, s⟩, d⟩, x, xc⟩ := y
        obtain ⟨L, hL⟩ := named d.length
        have HL : Hid (d.length = L) := hL.out.symm
        have hd : L ≤ 140737488355328 := by rw [hL.out]; exact PD.out
        have hp : p.size ≤ 140737488355328 := PP.out
        have ht : t.size ≤ 140737488355328 := PT.out
        clear hL
        have j1 : (j : Int) < n := by omega
        have hdi : (L : Int) ≤ 140737488355328 := by omega
        have LC := Lib.hid (fun w' => large10 k p m t s w' hp ht)
        by_cases h7 : 70000 < p.size + t.size
        · rw [if_pos h7] at LC
          clear hp ht hd h7
          go_wp2_with (first | (refine wpList_load_part rfl 30 6 MT.out _ rfl b (off + j * 6) rfl (mbC k p m t s x L xc) rfl (fun q u hu => by rw [← HL.out] at hu; exact AT.out j _ HY.out q u hu) ?_) | (refine wpList_alloc_obj rfl 30 rfl (mbC 0 emp 0 emp 0 none 0 0) MZ.out ?_; intro w2 g2 b2; have G2 := Lib.hid g2; have B2 := Lib.hid b2; clear g2 b2) | (refine wpList_store_obj rfl 30 _ _ rfl wr.heap.size rfl (mbC k p m t s x L xc) (mbC 0 emp 0 emp 0 none 0 0) rfl 30 G2.out MT.out.2 rfl (by simp [Value.oneCell']) ?_; intro w3 g3 t3; have B3 := Lib.hid (B2.out.trans (t3.below (Nat.le_refl _))); have G3 := Lib.hid g3; clear g3 t3) | (refine wpList_load_part rfl 27 5 EO.out _ rfl wr.heap.size 0 rfl (enV k p m t s) rfl (fun j u hj => by rw [Nat.zero_add, ObjAt.cell G3.out]; match j, hj with | 0, hj => exact hj | 1, hj => exact hj | 2, hj => exact hj | 3, hj => exact hj | 4, hj => exact hj) ?_))
          refine (LC.out w3).mono ?_; rintro e w4 ⟨rfl, b4⟩
          have B4 := Lib.hid (HB.out.trans ((belT B3.out b4).mono HB.out.size))
          clear b4
          go_wp2_with fail
          go_ret
          exact ⟨1, rfl, .inl rfl, B4.out⟩
        rw [if_neg h7] at LC
        have H7 := Lib.hid h7
        have hpi : (p.size : Int) ≤ 70000 := by omega
        have hti : (t.size : Int) ≤ 70000 := by omega
        clear hp ht h7 hd
        by_cases h8 : (70000 : Int) < L
        · go_wp2_with (first | (refine wpList_load_part rfl 30 6 MT.out _ rfl b (off + j * 6) rfl (mbC k p m t s x L xc) rfl (fun q u hu => by rw [← HL.out] at hu; exact AT.out j _ HY.out q u hu) ?_) | (refine wpList_alloc_obj rfl 30 rfl (mbC 0 emp 0 emp 0 none 0 0) MZ.out ?_; intro w2 g2 b2; have G2 := Lib.hid g2; have B2 := Lib.hid b2; clear g2 b2) | (refine wpList_store_obj rfl 30 _ _ rfl wr.heap.size rfl (mbC k p m t s x L xc) (mbC 0 emp 0 emp 0 none 0 0) rfl 30 G2.out MT.out.2 rfl (by simp [Value.oneCell']) ?_; intro w3 g3 t3; have B3 := Lib.hid (B2.out.trans (t3.below (Nat.le_refl _))); have G3 := Lib.hid g3; clear g3 t3) | (refine wpList_load_part rfl 27 5 EO.out _ rfl wr.heap.size 0 rfl (enV k p m t s) rfl (fun j u hj => by rw [Nat.zero_add, ObjAt.cell G3.out]; match j, hj with | 0, hj => exact hj | 1, hj => exact hj | 2, hj => exact hj | 3, hj => exact hj | 4, hj => exact hj) ?_))
          refine (LC.out w3).mono ?_; rintro e w4 ⟨rfl, b4⟩
          have B4 := Lib.hid (HB.out.trans ((belT B3.out b4).mono HB.out.size))
          have G4 := Lib.hid (ObjAt.below G3.out b4 (ObjAt.lt G3.out))
          have c5 := G4.out.get 5 rfl
          clear b4
          go_wp2_with fail
          go_ret
          exact ⟨1, rfl, .inl rfl, B4.out⟩
        · have h8' : (L : Int) ≤ 70000 := by omega
          have OK : Hid (p.size + t.size ≤ 70000 ∧ d.length ≤ 70000) := by
            have := H7.out; have := HL.out
            exact ⟨by omega, by omega⟩
          go_wp2_with (first | (refine wpList_load_part rfl 30 6 MT.out _ rfl b (off + j * 6) rfl (mbC k p m t s x L xc) rfl (fun q u hu => by rw [← HL.out] at hu; exact AT.out j _ HY.out q u hu) ?_) | (refine wpList_alloc_obj rfl 30 rfl (mbC 0 emp 0 emp 0 none 0 0) MZ.out ?_; intro w2 g2 b2; have G2 := Lib.hid g2; have B2 := Lib.hid b2; clear g2 b2) | (refine wpList_store_obj rfl 30 _ _ rfl wr.heap.size rfl (mbC k p m t s x L xc) (mbC 0 emp 0 emp 0 none 0 0) rfl 30 G2.out MT.out.2 rfl (by simp [Value.oneCell']) ?_; intro w3 g3 t3; have B3 := Lib.hid (B2.out.trans (t3.below (Nat.le_refl _))); have G3 := Lib.hid g3; clear g3 t3) | (refine wpList_load_part rfl 27 5 EO.out _ rfl wr.heap.size 0 rfl (enV k p m t s) rfl (fun j u hj => by rw [Nat.zero_add, ObjAt.cell G3.out]; match j, hj with | 0, hj => exact hj | 1, hj => exact hj | 2, hj => exact hj | 3, hj => exact hj | 4, hj => exact hj) ?_))
          refine (LC.out w3).mono ?_; rintro e w4 ⟨rfl, b4⟩
          have B4 := Lib.hid (HB.out.trans ((belT B3.out b4).mono HB.out.size))
          have G4 := Lib.hid (ObjAt.below G3.out b4 (ObjAt.lt G3.out))
          have c1 := G4.out.get 1 rfl; have c3 := G4.out.get 3 rfl; have c5 := G4.out.get 5 rfl
          clear b4
          go_wp2_with fail
          go_round
          case rel => exact ⟨j + 1, S + (p.size + t.size + L), by go_num, by go_num, by omega, by have := OK.out; have := HS.out; omega, fun k'' hk y hy => by
            by_cases h : k'' < j
            · exact HP.out k'' h y hy
            · obtain rfl : k'' = j := by omega
              have e := HY.out
              rw [hy] at e
              obtain rfl := Option.some.inj e
              exact OK.out, B4.out⟩
          case measure => simp [intOf]; omega
      · obtain rfl : j = n := by omega
        by_cases h1 : (100000 : Int) < S
        · go_wp2_with fail
          go_ret
          exact ⟨1, rfl, .inl rfl, HB.out⟩
        · go_wp2_with fail
          go_ret
          exact ⟨0, rfl, .inr ⟨rfl, N40.out, fun y hy => by
            obtain ⟨i, hi, rfl⟩ := List.getElem_of_mem hy
            exact HP.out i (by rw [← HN.out]; exact hi) _ (List.getElem?_eq_getElem hi)⟩, HB.out⟩
end Go.Proofs.YtinmkgpmoclcoaaDoor.Reb
