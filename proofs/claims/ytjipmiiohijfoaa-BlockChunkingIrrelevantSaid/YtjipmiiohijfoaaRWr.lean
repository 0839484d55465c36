/-
  Layer 6: the reference's writer.
-/
import Derived.Test.YtjipmiiohijfoaaSnkRefA
namespace Go.Proofs.Ytjipmiiohijfoaa
open Go.RowKit

/-- how many of n bytes a writer's Write accepts, its error behind it -/
def wwK (F : Int) (L n : Nat) (err : Int) : Nat := if err = 0 then allK F L n else 0
def wwE (F : Int) (L n : Nat) (err : Int) : Int := if err = 0 then allE F L n else err

/-- at q lies the reference's writer over a sink that holds ys; it has written o bytes, its error is err; all its memory lies in the blocks of S -/
def RWr (w : World) (S : Nat → Prop) (q m : Nat) (ys : List Int) (F : Int) (o : Nat) (err : Int) : Prop :=
  ∃ S' cs r, ObjAt w q 52 [.pointer (some ⟨m, 0, none⟩), .int .i64 o, .int .i64 err] ∧ Rsk w S' m ys F cs r ∧ (∀ k, S' k → S k) ∧ S q ∧ ¬ S' q ∧ (∀ k, S k → k < w.heap.size) ∧ o ≤ ys.length

theorem RWr.only {w w' : World} {S T : Nat → Prop} {q m : Nat} {ys : List Int} {F : Int} {o : Nat} {err : Int} (h : RWr w S q m ys F o err) (ho : Only T w w') (hd : ∀ k, S k → ¬ T k) : RWr w' S q m ys F o err := by
  obtain ⟨S', cs, r, h1, h2, h3, h4, h5, h6, h7⟩ := h
  exact ⟨S', cs, r, h1.only ho (hd _ h4), h2.only ho (fun k hk => hd _ (h3 k hk)), h3, h4, h5, fun k hk => Nat.lt_of_lt_of_le (h6 k hk) ho.size, h7⟩
theorem RWr.below {w w' : World} {S : Nat → Prop} {q m : Nat} {ys : List Int} {F : Int} {o : Nat} {err : Int} (h : RWr w S q m ys F o err) (hb : Below w.heap.size w w') : RWr w' S q m ys F o err :=
  h.only (T := fun _ => False) (.of_below hb (Nat.le_refl _)) (fun _ _ h => h)
theorem RWr.lt {w : World} {S : Nat → Prop} {q m : Nat} {ys : List Int} {F : Int} {o : Nat} {err : Int} (h : RWr w S q m ys F o err) : (∀ k, S k → k < w.heap.size) ∧ S q ∧ o ≤ ys.length := by
  obtain ⟨_, _, _, _, _, _, h4, _, h6, h7⟩ := h; exact ⟨h6, h4, h7⟩
theorem RWr.grow {w : World} {S T : Nat → Prop} {q m : Nat} {ys : List Int} {F : Int} {o : Nat} {err : Int} (h : RWr w S q m ys F o err) (hST : ∀ k, S k → T k) (hT : ∀ k, T k → k < w.heap.size) : RWr w T q m ys F o err := by
  obtain ⟨S', cs, r, h1, h2, h3, h4, h5, _, h7⟩ := h
  exact ⟨S', cs, r, h1, h2, fun k hk => hST _ (h3 k hk), hST _ h4, h5, hT, h7⟩
/-- its sink -/
theorem RWr.sink {w : World} {S : Nat → Prop} {q m : Nat} {ys : List Int} {F : Int} {o : Nat} {err : Int} (h : RWr w S q m ys F o err) : ∃ S' cs r, Rsk w S' m ys F cs r ∧ (∀ k, S' k → S k) ∧ ¬ S' q := by
  obtain ⟨S', cs, r, _, h2, h3, _, h5, _⟩ := h
  exact ⟨S', cs, r, h2, h3, h5⟩
theorem RWr.stay {w w' : World} {S : Nat → Prop} {q m : Nat} {ys : List Int} {F : Int} {o : Nat} {err : Int} (h : RWr w S q m ys F o err) (hb : Below w.heap.size w w') : RWr w' (Grow S w w') q m ys F o err ∧ Only S w w' :=
  ⟨(h.below hb).grow (fun _ hk => .inl hk) (fun k hk => hk.elim (fun hk => Nat.lt_of_lt_of_le (h.lt.1 k hk) hb.size) (fun h => h.2)), .of_below hb (Nat.le_refl _)⟩

set_option maxRecDepth 100000 in
set_option maxHeartbeats 8000000 in
theorem rwr_write {S : Nat → Prop} {q m : Nat} {ys : List Int} {F : Int} {o : Nat} {err : Int} (a : Option Addr) (n cap : Nat) (bs : List Int) (w : World) (h : RWr w S q m ys F o err) (hb : BytesIn w a bs) (hl : bs.length = n) (hnc : n ≤ cap) (hn : ys.length + n ≤ 100000000) (hF : F ≤ 9223372036854775807)
    (hd : ∀ x, a = some x → bs = [] ∨ ¬ S x.block) :
    Calls Try.prog 20 #[.pointer (some ⟨q, 0, none⟩), .slice a n cap] w fun e w' => e = .returned (.int .i64 (wwE F ys.length n err)) ∧
      RWr w' (Grow S w w') q m (ys ++ bs.take (wwK F ys.length n err)) F (o + wwK F ys.length n err) (wwE F ys.length n err) ∧ Only S w w' := by
  have H := Lib.hid h
  obtain ⟨S', cs, r, h1, h2, h3, h4, h5, h6, h7⟩ := h
  have c0 := h1.get 0 rfl
  have c1 := h1.get 1 rfl
  have c2 := h1.get 2 rfl
  by_cases he : err = 0
  · subst he
    have e1 : wwK F ys.length n 0 = allK F ys.length n := if_pos rfl
    have e2 : wwE F ys.length n 0 = allE F ys.length n := if_pos rfl
    rw [e1, e2]
    obtain ⟨L, hL⟩ := named ys.length
    have hn' : (L : Int) ≤ 100000000 := by have := hL.out; omega
    have H2 := Lib.hid h2
    obtain ⟨da, dc, sa, sc, k1, kr⟩ := h2
    have d0 := k1.get 0 rfl
    rw [← hL.out] at d0
    have H1 := Lib.hid h1; have H3 := Lib.hid h3; have H4 := Lib.hid h4; have H5 := Lib.hid h5; have H6 := Lib.hid h6; have H7 := Lib.hid h7
    have HB := Lib.hid hb; have HL := Lib.hid hl; have HN := Lib.hid hn
    have HD : Hid (∀ x, a = some x → bs = [] ∨ ¬ S' x.block) := fun x hx => (hd x hx).imp id fun h h' => h (h3 _ h')
    rw [← hL.out]
    obtain ⟨K, hK⟩ := named (allK F L n)
    obtain ⟨E, hE⟩ := named (allE F L n)
    rw [← hK.out, ← hE.out]
    clear h1 h3 h4 h5 h6 h7 hb hl hd e1 e2 k1 kr hn
    go_enter Try.func20, Try.ntmps20
    go_wp2_with fail
    refine (rsk_all a n cap bs w H2.out HB.out HL.out hnc HN.out hF HD.out).mono ?_; rintro e w2 ⟨rfl, s2, o2⟩
    rw [← hL.out] at s2
    rw [← hL.out]
    rw [← hK.out] at s2
    rw [← hE.out]
    have OB2 := Lib.hid (H1.out.only o2 H5.out)
    have S2 := Lib.hid s2; have Q2 := Lib.hid o2
    have KL : Hid ((ys ++ bs.take K).length = L + K ∧ L + K ≤ 100000000 ∧ K ≤ n) := by
      show _ ∧ _ ∧ _
      have hk : K ≤ n := by rw [hK.out]; unfold allK; split <;> omega
      rw [List.length_append, List.length_take, HL.out]
      have := HN.out; have := hL.out
      omega
    have c2 := OB2.out.get 2 rfl
    have f2 := OB2.out.frozen 2
    have hm : S' m := by obtain ⟨_, _, _, _, _, _, _, _, _, _, h7, _⟩ := H2.out; exact h7
    have hqm : q ≠ m := fun h => H5.out (h ▸ hm)
    have HM := Lib.hid hm; have HQM := Lib.hid hqm
    clear s2 o2 hm hqm
    go_wp2_with fail
    obtain ⟨w3, h3⟩ := named (w2.setCell ⟨q, 2, none⟩ (.int .i64 E))
    rw [← h3.out]
    have OB3 : Hid (ObjAt w3 q 52 [.pointer (some ⟨m, 0, none⟩), .int .i64 o, .int .i64 E]) := by show ObjAt _ _ _ _; rw [h3.out]; exact OB2.out.set 2 _
    have O3 : Hid (Only (fun k => k = q) w2 w3) := by show Only _ _ _; rw [h3.out]; exact (Only.refl (fun k => k = q) w2).setCell (p := ⟨q, 2, none⟩) (.inl rfl) _
    have hq2 : ∀ k, Grow S' w w2 k → k ≠ q := fun k hk h => hk.elim (fun h' => H5.out (h ▸ h')) (fun h' => by have := H6.out q H4.out; omega)
    have S3 := Lib.hid (S2.out.only O3.out hq2)
    obtain ⟨da', dc', sa', sc', k1, kr⟩ := S3.out
    have d0 := k1.get 0 rfl
    rw [KL.out.1] at d0
    have c0 := OB3.out.get 0 rfl
    have c1 := OB3.out.get 1 rfl
    have c2 := OB3.out.get 2 rfl
    have f1 := OB3.out.frozen 1
    have ho8 : (o : Int) ≤ 100000000 := by have := H7.out; have := hL.out; omega
    have hk8 : (K : Int) ≤ 100000000 := by have := KL.out.2; omega
    clear k1 kr f2
    go_region
    all_goals
      go_wp2
      go_ret
      have ev : (o : Int) + ((L : Int) + K - L) = ((o + K : Nat) : Int) := by omega
      rw [ev]
      have ob : ObjAt (w3.setCell ⟨q, 1, none⟩ (.int .i64 ((o + K : Nat) : Int))).drew q 52 [.pointer (some ⟨m, 0, none⟩), .int .i64 ((o + K : Nat) : Int), .int .i64 E] := OB3.out.set 1 _
      have ox : Only (fun k => k = q) w3 (w3.setCell ⟨q, 1, none⟩ (.int .i64 ((o + K : Nat) : Int))).drew := ((Only.refl (fun k => k = q) w3).setCell (p := ⟨q, 1, none⟩) (.inl rfl) _).trans (Only.of_below (Below.refl _ _).drew (Nat.le_refl _))
      have hq2 : ∀ k, Grow S' w w2 k → k ≠ q := fun k hk h => hk.elim (fun h' => H5.out (h ▸ h')) (fun h' => by have := H6.out q H4.out; omega)
      have sx := S3.out.only ox hq2
      have z2 := Q2.out.size; have z3 := O3.out.size; have zx := ox.size
      refine ⟨rfl, ⟨Grow S' w w2, cs, _, ob, sx, fun k hk => hk.imp (H3.out k) (fun h => ⟨h.1, by omega⟩), .inl H4.out, fun h => hq2 q h rfl, fun k hk => hk.elim (fun h => by have := H6.out k h; omega) (fun h => h.2), by rw [KL.out.1]; have := H7.out; have := hL.out; omega⟩, ?_⟩
      exact ((Q2.out.mono (fun k _ hk => H3.out k hk)).trans (O3.out.mono (fun k _ hk => hk ▸ H4.out))).trans (ox.mono (fun k _ hk => hk ▸ H4.out))
  · have e1 : wwK F ys.length n err = 0 := if_neg he
    have e2 : wwE F ys.length n err = err := if_neg he
    rw [e1, e2, List.take_zero, List.append_nil, Nat.add_zero]
    clear h1 h2 h3 h4 h5 h6 h7 hb hl hd e1 e2
    go_enter Try.func20, Try.ntmps20
    go_wp2
    go_ret
    exact ⟨rfl, H.out.stay (Below.refl _ _)⟩
end Go.Proofs.Ytjipmiiohijfoaa
