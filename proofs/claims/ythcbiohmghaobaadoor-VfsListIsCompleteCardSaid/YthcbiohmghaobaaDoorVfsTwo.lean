/-
  Layer 19: two file systems and a row of directories, side by side.
-/
import Derived.Test.YthcbiohmghaobaaDoorPz05
import Derived.Test.YthcbiohmghaobaaDoorVfsDo
import Derived.Test.YthcbiohmghaobaaDoorVfsLisN
namespace Go.Proofs.YthcbiohmghaobaaDoor.Vfs
open Go.RowKit Go.MapKept Go.Proofs.YthcbiohmghaobaaDoor.Pnm Flt

/-- the file systems at blocks f and g, no block of both; the row D of directories apart from them; X: blocks in neither -/
structure Sy (R : List Int) (B : Nat) (X : Nat → Prop) (f g : Nat) (w : World) (s t : St) (dv : Value) (D : List ByteArray) : Prop where
  ex : ∃ T1 T2, FsS 100 4 5 R T1 w f s ∧ FsS 100 1 1 [] T2 w g t ∧ (∀ k, T1 k → ¬ T2 k) ∧ (∀ k, T1 k ∨ T2 k → B ≤ k ∧ ¬ X k) ∧ (∀ k, dv.ownBlock = some k → ¬ T1 k ∧ ¬ T2 k)
  row : w.ownsRow B 9 1 dv D.length (ssC D)
section
variable {R : List Int} {B : Nat} {X : Nat → Prop} {f g : Nat} {w w' : World} {s t s' t' : St} {dv : Value} {D : List ByteArray}
theorem Sy.b (h : Sy R B X f g w s t dv D) : B ≤ f ∧ f < w.heap.size := by
  obtain ⟨T1, T2, h1, _, _, h4, _⟩ := h.ex
  exact ⟨(h4 f (.inl h1.me)).1, h1.lt f h1.me⟩
theorem Sy.bg (h : Sy R B X f g w s t dv D) : B ≤ g := by
  obtain ⟨T1, T2, _, h2, _, h4, _⟩ := h.ex
  exact (h4 g (.inr h2.me)).1
theorem Sy.below (h : Sy R B X f g w s t dv D) (hb : Below w.heap.size w w') : Sy R B X f g w' s t dv D := by
  obtain ⟨T1, T2, h1, h2, h3, h4, h5⟩ := h.ex
  exact ⟨⟨T1, T2, h1.below hb, h2.below hb, h3, h4, h5⟩, own_stay' h.row hb (Nat.le_refl _)⟩
theorem Sy.mark (h : Sy R B X f g w s t dv D) {Y : Nat → Prop} (hY : ∀ k, Y k → w.heap.size ≤ k) : Sy R B Y f g w s t dv D := by
  obtain ⟨T1, T2, h1, h2, h3, h4, h5⟩ := h.ex
  refine ⟨⟨T1, T2, h1, h2, h3, fun k hk => ⟨(h4 k hk).1, fun hy => ?_⟩, h5⟩, h.row⟩
  have := hY k hy
  rcases hk with hk | hk
  · have := h1.lt k hk; omega
  · have := h2.lt k hk; omega
theorem Sy.row' (h : Sy R B X f g w s t dv D) {v : Value} {E : List ByteArray} (hb : Below B w w') (hk : ∀ k, k < w.heap.size → some k ≠ dv.ownBlock → w'.heap[k]? = w.heap[k]?) (hv : v.ownBlock = dv.ownBlock ∨ v.ownBlock = some w.heap.size)
    (ho : w'.ownsRow B 9 1 v E.length (ssC E)) : Sy R B X f g w' s t v E := by
  obtain ⟨T1, T2, h1, h2, h3, h4, h5⟩ := h.ex
  have on : Only (fun k => dv.ownBlock = some k) w w' := ⟨hb.os, hb.tape, hb.output, hb.size, fun k hl hn => hk k hl fun e => hn e.symm⟩
  refine ⟨⟨T1, T2, h1.only on fun k hk e => (h5 k e).1 hk, h2.only on fun k hk e => (h5 k e).2 hk, h3, h4, fun k e => ?_⟩, ho⟩
  rcases hv with hv | hv
  · exact h5 k (by rw [← hv]; exact e)
  · have e : k = w.heap.size := by rw [hv] at e; exact (Option.some.inj e).symm
    exact ⟨fun q => by have := h1.lt k q; omega, fun q => by have := h2.lt k q; omega⟩
/-- a call on the first -/
theorem Sy.lft (h : Sy R B X f g w s t dv D) (hX : ∀ k, X k → k < w.heap.size) {F : FuncId} {args : Array Value} {P : Ending → Prop}
    (hC : ∀ T, FsS 100 4 5 R T w f s → Calls Tryd.prog F args w fun e w' => P e ∧ Only T w w' ∧ FsS 100 4 5 R (Grow T w w') w' f s') :
    Calls Tryd.prog F args w fun e w' => P e ∧ Sy R B X f g w' s' t dv D ∧ Only (fun k => B ≤ k ∧ ¬ X k) w w' := by
  have hb := h.b
  obtain ⟨T1, T2, h1, h2, h3, h4, h5⟩ := h.ex
  refine (hC T1 h1).mono fun e w' ⟨q1, q2, q3⟩ => ⟨q1, ⟨⟨Grow T1 w w', T2, q3, h2.only q2 fun k hk c => h3 k c hk, fun k hk c => ?_, fun k hk => ?_, fun k e => ⟨fun c => ?_, (h5 k e).2⟩⟩, own_keepS h.row fun k hk hl => q2.block k hl (h5 k hk).1⟩, ⟨q2.os, q2.tape, q2.output, q2.size, fun k hl hn => q2.block k hl fun c => hn (h4 k (.inl c))⟩⟩
  · rcases hk with hk | hk
    · exact h3 k hk c
    · have := h2.lt k c; omega
  · rcases hk with (hk | hk) | hk
    · exact h4 k (.inl hk)
    · exact ⟨by omega, fun x => by have := hX k x; omega⟩
    · exact h4 k (.inr hk)
  · rcases c with c | c
    · exact (h5 k e).1 c
    · have := (own_under h.row k e).2; omega
/-- a call on the second -/
theorem Sy.rgt (h : Sy R B X f g w s t dv D) (hX : ∀ k, X k → k < w.heap.size) {F : FuncId} {args : Array Value} {P : Ending → Prop}
    (hC : ∀ T, FsS 100 1 1 [] T w g t → Calls Tryd.prog F args w fun e w' => P e ∧ Only T w w' ∧ FsS 100 1 1 [] (Grow T w w') w' g t') :
    Calls Tryd.prog F args w fun e w' => P e ∧ Sy R B X f g w' s t' dv D ∧ Only (fun k => B ≤ k ∧ ¬ X k) w w' := by
  have hb := h.b
  obtain ⟨T1, T2, h1, h2, h3, h4, h5⟩ := h.ex
  refine (hC T2 h2).mono fun e w' ⟨q1, q2, q3⟩ => ⟨q1, ⟨⟨T1, Grow T2 w w', h1.only q2 fun k hk c => h3 k hk c, q3, fun k hk c => ?_, fun k hk => ?_, fun k e => ⟨(h5 k e).1, fun c => ?_⟩⟩, own_keepS h.row fun k hk hl => q2.block k hl (h5 k hk).2⟩, ⟨q2.os, q2.tape, q2.output, q2.size, fun k hl hn => q2.block k hl fun c => hn (h4 k (.inr c))⟩⟩
  · rcases c with c | c
    · exact h3 k hk c
    · have := h1.lt k hk; omega
  · rcases hk with hk | hk | hk
    · exact h4 k (.inl hk)
    · exact h4 k (.inr hk)
    · exact ⟨by omega, fun x => by have := hX k x; omega⟩
  · rcases c with c | c
    · exact (h5 k e).2 c
    · have := (own_under h.row k e).2; omega
theorem Sy.weak (h : Sy R B X f g w s t dv D) : Sy R B (fun _ => False) f g w s t dv D := by
  obtain ⟨T1, T2, h1, h2, h3, h4, h5⟩ := h.ex
  exact ⟨⟨T1, T2, h1, h2, h3, fun k hk => ⟨(h4 k hk).1, id⟩, h5⟩, h.row⟩
/-- List on the first -/
theorem Sy.lsF (h : Sy R B X f g w s t dv D) {p : ByteArray} (hd : IsDir s p) : Calls Tryd.prog 17 #[.pointer (some ⟨f, 0, none⟩), .string p] w fun e w' => ∃ a n c, e = .returned (.tuple #[.slice a n c, .int .i64 0]) ∧ w'.ownsRow w.heap.size 9 1 (.slice a n c) n (ssC (trnV (srtB (nmsD s p)) (rotV R s))) ∧ Sy R B (fun k => X k ∨ w.heap.size ≤ k) f g w' (lsS s) t dv D ∧ Only (fun k => B ≤ k ∧ ¬ X k ∧ k < w.heap.size) w w' := by
  obtain ⟨T1, T2, h1, h2, h3, h4, h5⟩ := h.ex
  obtain ⟨e1, e2, e3⟩ := ls_dir hd R
  have := list_any h1 (by omega) p
  rw [e1, e2, e3] at this
  refine this.mono fun e w' ⟨a, n, c, q0, q1, q2, q3⟩ => ⟨a, n, c, q0, q1, ⟨⟨T1, T2, q3, h2.only q2 fun k hk c => h3 k c hk, h3, fun k hk => ⟨(h4 k hk).1, fun x => ?_⟩, h5⟩, own_keepS h.row fun k hk hl => q2.block k hl (h5 k hk).1⟩, ⟨q2.os, q2.tape, q2.output, q2.size, fun k hl hn => q2.block k hl fun c => hn ⟨(h4 k (.inl c)).1, (h4 k (.inl c)).2, h1.lt k c⟩⟩⟩
  rcases x with x | x
  · exact (h4 k hk).2 x
  · rcases hk with hk | hk
    · have := h1.lt k hk; omega
    · have := h2.lt k hk; omega
/-- List on the second -/
theorem Sy.lsG (h : Sy R B X f g w s t dv D) {p : ByteArray} (hd : IsDir t p) : Calls Tryd.prog 17 #[.pointer (some ⟨g, 0, none⟩), .string p] w fun e w' => ∃ a n c, e = .returned (.tuple #[.slice a n c, .int .i64 0]) ∧ w'.ownsRow w.heap.size 9 1 (.slice a n c) n (ssC (srtB (nmsD t p))) ∧ Sy R B (fun k => X k ∨ w.heap.size ≤ k) f g w' s (lsS t) dv D ∧ Only (fun k => B ≤ k ∧ ¬ X k ∧ k < w.heap.size) w w' := by
  obtain ⟨T1, T2, h1, h2, h3, h4, h5⟩ := h.ex
  obtain ⟨e1, e2, e3⟩ := ls_dir hd []
  have := list_any h2 (by omega) p
  rw [e1, e2, e3, show rotV [] t = 0 from rfl, trn_zero] at this
  refine this.mono fun e w' ⟨a, n, c, q0, q1, q2, q3⟩ => ⟨a, n, c, q0, q1, ⟨⟨T1, T2, h1.only q2 fun k hk c => h3 k hk c, q3, h3, fun k hk => ⟨(h4 k hk).1, fun x => ?_⟩, h5⟩, own_keepS h.row fun k hk hl => q2.block k hl (h5 k hk).2⟩, ⟨q2.os, q2.tape, q2.output, q2.size, fun k hl hn => q2.block k hl fun c => hn ⟨(h4 k (.inr c)).1, (h4 k (.inr c)).2, h2.lt k c⟩⟩⟩
  rcases x with x | x
  · exact (h4 k hk).2 x
  · rcases hk with hk | hk
    · have := h1.lt k hk; omega
    · have := h2.lt k hk; omega
/-- Lstat on the first -/
theorem Sy.lst (h : Sy R B X f g w s t dv D) (p : ByteArray) : Calls Tryd.prog 20 #[.pointer (some ⟨f, 0, none⟩), .string p] w fun e w' => e = .returned (.tuple #[.agg (stV s p).toArray, .int .i64 (chE' s p)]) ∧ Below w.heap.size w w' := by
  obtain ⟨T1, _, h1, _⟩ := h.ex
  exact lstat_any h1 p
end
/-- at the start -/
theorem Sy.start {R : List Int} {B f g : Nat} {w1 w2 w3 w4 w5 : World} (h1 : FsS 100 4 5 R (fun k => w1.heap.size ≤ k ∧ k < w2.heap.size) w4 f (st0 4)) (h2 : FsS 100 1 1 [] (fun k => w3.heap.size ≤ k ∧ k < w4.heap.size) w4 g (st0 1)) (hB : B ≤ w1.heap.size) (h12 : w1.heap.size ≤ w2.heap.size) (h23 : w2.heap.size ≤ w3.heap.size)
    (hb : Below w4.heap.size w4 w5) {dv : Value} {D : List ByteArray} (hr : w5.ownsRow w4.heap.size 9 1 dv D.length (ssC D)) : Sy R B (fun _ => False) f g w5 (st0 4) (st0 1) dv D := by
  refine ⟨⟨_, _, h1.below hb, h2.below hb, fun k c1 c2 => by omega, fun k hk => ⟨by omega, id⟩, fun k e => ?_⟩, own_lower hr (by have := h1.lt f h1.me; have := h1.me; omega)⟩
  have := (own_under hr k e).1
  exact ⟨fun q => by have := h1.lt k q; omega, fun q => by have := q.2; omega⟩
end Go.Proofs.YthcbiohmghaobaaDoor.Vfs
