/-
  Layer 6: what the program's reader and writer are in memory; their common part, their makers, their offsets.
-/
import Derived.Test.YtnnengigahakaaaBlkMath
import Derived.Test.YtnnengigahakaaaSnkObj
import Derived.Test.YtnnengigahakaaaSrcUse
namespace Go.Proofs.Ytnnengigahakaaa
open Go.RowKit

/-- a source stays where only blocks beside its own turn, told by a set -/
theorem Src.only {w w' : World} {lo hi s : Nat} {T : Nat → Prop} {zs cs : List Int} {E : Int} {o r : Nat} (h : Src w lo hi s zs E cs o r) (ho : Only T w w') (hd : ∀ k, lo ≤ k → k < hi → ¬ T k) : Src w' lo hi s zs E cs o r := by
  obtain ⟨c, da, dc, sa, sc, h1, h2, h3, h4, h5, h6, h7, h8, h9, h10⟩ := h
  refine ⟨c, da, dc, sa, sc, h1.only ho (hd _ h7.1 h7.2.1), ?_, h3.only ho (fun x hx => hd _ (h8 x hx).1 (h8 x hx).2.1), h4, h5, h6, ?_, h8, h9, h10⟩
  · obtain ⟨q1, q2, q3, q4⟩ := h2
    exact ⟨q1.only ho (hd _ h7.2.2.1 h7.2.2.2.1), q2.only ho (fun x hx => hd _ (h9 x hx).1 (h9 x hx).2.1), q3, q4⟩
  · have := ho.size
    omega

/-- at q lies the program's reader of a source that delivers Z and ends with E; it has read o bytes, its error is err; all its memory lies in the blocks lo .. hi -/
def Rdr (w : World) (lo hi q : Nat) (Z : List Int) (E : Int) (o : Nat) (err : Int) : Prop :=
  ∃ s h1 cs r, ObjAt w q 60 [.int .i64 o, .int .i64 err, .pointer (some ⟨s, 0, none⟩)] ∧ Src w lo h1 s Z E cs o r ∧ lo ≤ h1 ∧ h1 ≤ q ∧ q < hi ∧ hi ≤ w.heap.size ∧ o ≤ Z.length
theorem Rdr.out {w w' : World} {lo hi q lo' hi' : Nat} {Z : List Int} {E : Int} {o : Nat} {err : Int} (h : Rdr w lo hi q Z E o err) (ho : Out lo' hi' w w') (hd : hi ≤ lo' ∨ hi' ≤ lo) : Rdr w' lo hi q Z E o err := by
  obtain ⟨s, h1, cs, r, k1, k2, k3, k4, k5, k6, k7⟩ := h
  exact ⟨s, h1, cs, r, k1.out ho (by omega), k2.out ho (by omega), k3, k4, k5, Nat.le_trans k6 ho.size, k7⟩
theorem Rdr.size {w : World} {lo hi q : Nat} {Z : List Int} {E : Int} {o : Nat} {err : Int} (h : Rdr w lo hi q Z E o err) : hi ≤ w.heap.size ∧ lo ≤ q ∧ q < hi ∧ o ≤ Z.length := by
  obtain ⟨_, _, _, _, _, _, k3, k4, k5, k6, k7⟩ := h; exact ⟨k6, by omega, k5, k7⟩
theorem Rdr.below {w w' : World} {lo hi q : Nat} {Z : List Int} {E : Int} {o : Nat} {err : Int} (h : Rdr w lo hi q Z E o err) (hb : Below w.heap.size w w') : Rdr w' lo hi q Z E o err :=
  h.out (lo' := hi) (hi' := hi) (.of_below hb (Nat.le_refl _)) (.inl (Nat.le_refl _))
theorem Rdr.only {w w' : World} {lo hi q : Nat} {T : Nat → Prop} {Z : List Int} {E : Int} {o : Nat} {err : Int} (h : Rdr w lo hi q Z E o err) (ho : Only T w w') (hd : ∀ k, lo ≤ k → k < hi → ¬ T k) : Rdr w' lo hi q Z E o err := by
  obtain ⟨s, h1, cs, r, k1, k2, k3, k4, k5, k6, k7⟩ := h
  exact ⟨s, h1, cs, r, k1.only ho (hd _ (by omega) k5), k2.only ho (fun k hk hk' => hd k hk (by omega)), k3, k4, k5, Nat.le_trans k6 ho.size, k7⟩

/-- at q lies the program's writer over the sink at m that holds ys; it has written o bytes, its error is err; all its memory lies in the blocks of S -/
def Wtr (w : World) (S : Nat → Prop) (q m : Nat) (ys : List Int) (F : Int) (o : Nat) (err : Int) : Prop :=
  ∃ S' cs r, ObjAt w q 81 [.int .i64 o, .int .i64 err, .pointer (some ⟨m, 0, none⟩)] ∧ Snk w S' m ys F cs r ∧ (∀ k, S' k → S k) ∧ S q ∧ ¬ S' q ∧ (∀ k, S k → k < w.heap.size) ∧ o ≤ ys.length
theorem Wtr.only {w w' : World} {S T : Nat → Prop} {q m : Nat} {ys : List Int} {F : Int} {o : Nat} {err : Int} (h : Wtr w S q m ys F o err) (ho : Only T w w') (hd : ∀ k, S k → ¬ T k) : Wtr w' S q m ys F o err := by
  obtain ⟨S', cs, r, h1, h2, h3, h4, h5, h6, h7⟩ := h
  exact ⟨S', cs, r, h1.only ho (hd _ h4), h2.only ho (fun k hk => hd _ (h3 k hk)), h3, h4, h5, fun k hk => Nat.lt_of_lt_of_le (h6 k hk) ho.size, h7⟩
theorem Wtr.below {w w' : World} {S : Nat → Prop} {q m : Nat} {ys : List Int} {F : Int} {o : Nat} {err : Int} (h : Wtr w S q m ys F o err) (hb : Below w.heap.size w w') : Wtr w' S q m ys F o err :=
  h.only (T := fun _ => False) (.of_below hb (Nat.le_refl _)) (fun _ _ h => h)
theorem Wtr.lt {w : World} {S : Nat → Prop} {q m : Nat} {ys : List Int} {F : Int} {o : Nat} {err : Int} (h : Wtr w S q m ys F o err) : (∀ k, S k → k < w.heap.size) ∧ S q ∧ o ≤ ys.length := by
  obtain ⟨_, _, _, _, _, _, h4, _, h6, h7⟩ := h; exact ⟨h6, h4, h7⟩
theorem Wtr.grow {w : World} {S T : Nat → Prop} {q m : Nat} {ys : List Int} {F : Int} {o : Nat} {err : Int} (h : Wtr w S q m ys F o err) (hST : ∀ k, S k → T k) (hT : ∀ k, T k → k < w.heap.size) : Wtr w T q m ys F o err := by
  obtain ⟨S', cs, r, h1, h2, h3, h4, h5, _, h7⟩ := h
  exact ⟨S', cs, r, h1, h2, fun k hk => hST _ (h3 k hk), hST _ h4, h5, hT, h7⟩
theorem Wtr.sink {w : World} {S : Nat → Prop} {q m : Nat} {ys : List Int} {F : Int} {o : Nat} {err : Int} (h : Wtr w S q m ys F o err) : ∃ S' cs r, Snk w S' m ys F cs r ∧ (∀ k, S' k → S k) ∧ ¬ S' q := by
  obtain ⟨S', cs, r, _, h2, h3, _, h5, _⟩ := h
  exact ⟨S', cs, r, h2, h3, h5⟩
theorem Wtr.stay {w w' : World} {S : Nat → Prop} {q m : Nat} {ys : List Int} {F : Int} {o : Nat} {err : Int} (h : Wtr w S q m ys F o err) (hb : Below w.heap.size w w') : Wtr w' (Grow S w w') q m ys F o err ∧ Only S w w' :=
  ⟨(h.below hb).grow (fun _ hk => .inl hk) (fun k hk => hk.elim (fun hk => Nat.lt_of_lt_of_le (h.lt.1 k hk) hb.size) (fun h => h.2)), .of_below hb (Nat.le_refl _)⟩
theorem Wtr.wide {w w2 w' : World} {S : Nat → Prop} {q m : Nat} {ys : List Int} {F : Int} {o : Nat} {err : Int} (h : Wtr w' (Grow S w2 w') q m ys F o err) (hw : w.heap.size ≤ w2.heap.size) (hS : ∀ k, S k → k < w.heap.size) (hz : w2.heap.size ≤ w'.heap.size) : Wtr w' (Grow S w w') q m ys F o err :=
  h.grow (fun k hk => hk.imp id (fun h => ⟨Nat.le_trans hw h.1, h.2⟩)) (fun k hk => hk.elim (fun h => by have := hS k h; omega) (fun h => h.2))

/-- the common part: how far, and the error -/
theorem adv_any {q : Nat} {T : TypeId} {o n : Nat} {err : Int} {p : Value} (e : Int) (w : World) (h : ObjAt w q T [.int .i64 o, .int .i64 err, p]) (ho : o + n ≤ 200000000000000) :
    Calls Try.prog 34 #[.pointer (some ⟨q, 0, none⟩), .int .i64 n, .int .i64 e] w fun x w' => x = .returned (.int .i64 e) ∧
      ObjAt w' q T [.int .i64 ((o + n : Nat) : Int), .int .i64 e, p] ∧ Out q (q + 1) w w' ∧ w'.heap.size = w.heap.size := by
  have H := Lib.hid h
  have c0 := h.get 0 rfl
  have f0 := h.frozen 0
  have c1 := h.get 1 rfl
  have f1 := h.frozen 1
  have ho' : (o : Int) + n ≤ 200000000000000 := by omega
  clear h ho
  go_enter Try.func34, Try.ntmps34
  go_wp2_with fail
  go_ret
  have ev : (o : Int) + n = ((o + n : Nat) : Int) := by omega
  rw [ev]
  exact ⟨rfl, (H.out.set 0 _).set 1 _, ((Out.refl q (q + 1) w).setCell (p := ⟨q, 0, none⟩) (Nat.le_refl _) (Nat.lt_succ_self _) _).setCell (p := ⟨q, 1, none⟩) (Nat.le_refl _) (Nat.lt_succ_self _) _, by simp [World.setCell]⟩

theorem rdr_new {lo hi s : Nat} {Z : List Int} {E : Int} {cs : List Int} (w : World) (h : Src w lo hi s Z E cs 0 0) :
    Calls Try.prog 9 #[.pointer (some ⟨s, 0, none⟩)] w fun e w' => ∃ q, e = .returned (.pointer (some ⟨q, 0, none⟩)) ∧ Rdr w' lo w'.heap.size q Z E 0 0 ∧ Below w.heap.size w w' := by
  have H := Lib.hid h
  clear h
  go_enter Try.func9, Try.ntmps9
  go_wp2_with (first | (refine wpList_box_obj rfl 60 _ rfl [.int .i64 0, .int .i64 0, .pointer (some ⟨s, 0, none⟩)] rfl ?_; intro w1 h1 b1; have H1 := Lib.hid h1; have B1 := Lib.hid b1; clear h1 b1))
  go_ret
  have hz := H.out.size
  have l1 := H1.out.lt
  exact ⟨w.heap.size, rfl, ⟨s, hi, cs, 0, H1.out, H.out.below B1.out, by omega, hz.1, l1, Nat.le_refl _, Nat.zero_le _⟩, B1.out⟩
theorem rdr_new_nil (w : World) : Calls Try.prog 9 #[.pointer none] w fun e w' => e = .returned (.pointer none) ∧ w = w' := by
  go_enter Try.func9, Try.ntmps9
  go_wp2
  go_ret
  exact ⟨rfl, rfl⟩
theorem rdr_off {lo hi q : Nat} {Z : List Int} {E : Int} {o : Nat} {err : Int} (w : World) (h : Rdr w lo hi q Z E o err) :
    Calls Try.prog 20 #[.pointer (some ⟨q, 0, none⟩)] w fun e w' => e = .returned (.int .i64 o) ∧ w = w' := by
  obtain ⟨_, _, _, _, k1, _⟩ := h
  have c0 := k1.get 0 rfl
  clear k1
  go_enter Try.func20, Try.ntmps20
  go_wp2
  go_ret
  exact ⟨rfl, rfl⟩
theorem rdr_off_nil (w : World) : Calls Try.prog 20 #[.pointer none] w fun e w' => e = .returned (.int .i64 0) ∧ w = w' := by
  go_enter Try.func20, Try.ntmps20
  go_wp2
  go_ret
  exact ⟨rfl, rfl⟩
theorem wtr_new {S : Nat → Prop} {m : Nat} {ys cs : List Int} {F : Int} {r : Nat} (w : World) (h : Snk w S m ys F cs r) :
    Calls Try.prog 18 #[.pointer (some ⟨m, 0, none⟩)] w fun e w' => ∃ q, e = .returned (.pointer (some ⟨q, 0, none⟩)) ∧ Wtr w' (Grow S w w') q m ys F 0 0 ∧ Below w.heap.size w w' := by
  have H := Lib.hid h
  clear h
  go_enter Try.func18, Try.ntmps18
  go_wp2_with (first | (refine wpList_box_obj rfl 81 _ rfl [.int .i64 0, .int .i64 0, .pointer (some ⟨m, 0, none⟩)] rfl ?_; intro w1 h1 b1; have H1 := Lib.hid h1; have B1 := Lib.hid b1; clear h1 b1))
  go_ret
  have l1 := H1.out.lt
  have hs := H.out.lt
  refine ⟨w.heap.size, rfl, ⟨S, cs, r, H1.out, H.out.below B1.out, fun k hk => .inl hk, .inr ⟨Nat.le_refl _, l1⟩, fun h => by have := hs _ h; simp at this, fun k hk => hk.elim (fun hk => by have := hs k hk; omega) (fun h => h.2), Nat.zero_le _⟩, B1.out⟩
theorem wtr_new_nil (w : World) : Calls Try.prog 18 #[.pointer none] w fun e w' => e = .returned (.pointer none) ∧ w = w' := by
  go_enter Try.func18, Try.ntmps18
  go_wp2
  go_ret
  exact ⟨rfl, rfl⟩
theorem wtr_write_nil (a : Option Addr) (n c : Nat) (w : World) : Calls Try.prog 29 #[.pointer none, .slice a n c] w fun e w' => e = .returned (.int .i64 1) ∧ w = w' := by
  go_enter Try.func29, Try.ntmps29
  go_wp2
  go_ret
  exact ⟨rfl, rfl⟩
theorem wtr_pad_nil (w : World) : Calls Try.prog 30 #[.pointer none] w fun e w' => e = .returned (.int .i64 1) ∧ w = w' := by
  go_enter Try.func30, Try.ntmps30
  go_wp2
  go_ret
  exact ⟨rfl, rfl⟩
theorem rdr_next_nil (w : World) : Calls Try.prog 31 #[.pointer none] w fun e w' => e = .returned (.tuple #[.slice none 0 0, .int .i64 1]) ∧ w = w' := by
  go_enter Try.func31, Try.ntmps31
  go_wp2
  go_ret2
  exact ⟨rfl, rfl⟩
end Go.Proofs.Ytnnengigahakaaa
