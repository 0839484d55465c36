/-
  Layer 5: what the program's sink is in memory; an append onto a slice that the object owns.
-/
import Derived.Test.YtnnengigahakaaaSnkMath
import Derived.Test.YtnnengigahakaaaOnly
import Derived.Test.YtnnengigahakaaaBClone
import Derived.Test.YtnnengigahakaaaIClone
import Derived.Maps.AppendAt
namespace Go.Proofs.Ytnnengigahakaaa
open Go.RowKit

/-- at m lies the program's sink: it holds the bytes ys, behind r writes that accepted bytes; all its memory lies in the blocks of S -/
def Snk (w : World) (S : Nat → Prop) (m : Nat) (ys : List Int) (F : Int) (cs : List Int) (r : Nat) : Prop :=
  ∃ da dc sa sc, ObjAt w m 77 [.slice sa cs.length sc, .int .i64 F, .slice da ys.length dc, .int .i64 r] ∧ w.ownsRow 0 5 1 (.slice da ys.length dc) ys.length (ys.map (.int .u8)) ∧ Bytes ys ∧ InK .i64 w sa cs ∧ cs.length ≤ 1000 ∧ ys.length ≤ 100000000 ∧
    S m ∧ (∀ k, S k → k < w.heap.size) ∧ (∀ x, da = some x → S x.block ∧ x.block ≠ m) ∧ (∀ x, sa = some x → S x.block ∧ x.block ≠ m ∧ ∀ y, da = some y → x.block ≠ y.block) ∧ r ≤ ys.length ∧ (0 ≤ F → (ys.length : Int) ≤ F)

theorem ownB {a : Option Addr} {n c k : Nat} (h : (Value.slice a n c).ownBlock = some k) : ∃ x, a = some x ∧ x.block = k := by
  cases a with
  | none => cases h
  | some x => exact ⟨x, rfl, by simpa [Value.ownBlock] using h⟩
theorem own_only' {S : Nat → Prop} {w w' : World} {base n c : Nat} {e : TypeId} {a : Option Addr} {xs : List Value} (h : w.ownsRow base e 1 (.slice a n c) n xs) (ho : Only S w w') (hb : ∀ x, a = some x → ¬ S x.block) : w'.ownsRow base e 1 (.slice a n c) n xs := by
  obtain ⟨h1, h2⟩ := h
  refine ⟨h1, h2.imp id ?_⟩
  rintro ⟨g, cap, cur, hv, hbg, hg, r⟩
  have hlt : g < w.heap.size := by
    rcases Nat.lt_or_ge g w.heap.size with hl | hl
    · exact hl
    · rw [Array.getElem?_eq_none hl] at hg; cases hg
  have ha : a = some ⟨g, 0, none⟩ := by simp only [Value.slice.injEq] at hv; exact hv.1
  exact ⟨g, cap, cur, hv, hbg, (ho.block g hlt (hb _ ha)).trans hg, r⟩

theorem Snk.only {w w' : World} {S T : Nat → Prop} {m : Nat} {ys cs : List Int} {F : Int} {r : Nat} (h : Snk w S m ys F cs r) (ho : Only T w w') (hd : ∀ k, S k → ¬ T k) : Snk w' S m ys F cs r := by
  obtain ⟨da, dc, sa, sc, h1, h2, h3, h4, h5, h6, h7, h8, h9, h10, h11⟩ := h
  exact ⟨da, dc, sa, sc, h1.only ho (hd _ h7), own_only' h2 ho (fun x hx => hd _ (h9 x hx).1), h3, h4.only ho (fun x hx => hd _ (h10 x hx).1), h5, h6, h7, fun k hk => Nat.lt_of_lt_of_le (h8 k hk) ho.size, h9, h10, h11⟩
theorem Snk.lt {w : World} {S : Nat → Prop} {m : Nat} {ys cs : List Int} {F : Int} {r : Nat} (h : Snk w S m ys F cs r) : ∀ k, S k → k < w.heap.size := by
  obtain ⟨_, _, _, _, _, _, _, _, _, _, _, h8, _⟩ := h; exact h8
theorem Snk.me {w : World} {S : Nat → Prop} {m : Nat} {ys cs : List Int} {F : Int} {r : Nat} (h : Snk w S m ys F cs r) : S m := by
  obtain ⟨_, _, _, _, _, _, _, _, _, _, h7, _⟩ := h; exact h7
theorem Snk.bytes {w : World} {S : Nat → Prop} {m : Nat} {ys cs : List Int} {F : Int} {r : Nat} (h : Snk w S m ys F cs r) : Bytes ys ∧ ys.length ≤ 100000000 ∧ cs.length ≤ 1000 ∧ r ≤ ys.length ∧ (0 ≤ F → (ys.length : Int) ≤ F) := by
  obtain ⟨_, _, _, _, _, _, h3, _, h5, h6, _, _, _, _, h11⟩ := h; exact ⟨h3, h6, h5, h11⟩
theorem Snk.below {w w' : World} {S : Nat → Prop} {m : Nat} {ys cs : List Int} {F : Int} {r : Nat} (h : Snk w S m ys F cs r) (hb : Below w.heap.size w w') : Snk w' S m ys F cs r :=
  h.only (T := fun _ => False) (.of_below hb (Nat.le_refl _)) (fun _ _ h => h)
theorem Snk.grow {w : World} {S T : Nat → Prop} {m : Nat} {ys cs : List Int} {F : Int} {r : Nat} (h : Snk w S m ys F cs r) (hST : ∀ k, S k → T k) (hT : ∀ k, T k → k < w.heap.size) : Snk w T m ys F cs r := by
  obtain ⟨da, dc, sa, sc, h1, h2, h3, h4, h5, h6, h7, h8, h9, h10, h11⟩ := h
  exact ⟨da, dc, sa, sc, h1, h2, h3, h4, h5, h6, hST _ h7, hT, fun x hx => ⟨hST _ (h9 x hx).1, (h9 x hx).2⟩, fun x hx => ⟨hST _ (h10 x hx).1, (h10 x hx).2⟩, h11⟩
theorem Snk.stay {w w' : World} {S : Nat → Prop} {m : Nat} {ys cs : List Int} {F : Int} {r : Nat} (h : Snk w S m ys F cs r) (hb : Below w.heap.size w w') : Snk w' (Grow S w w') m ys F cs r ∧ Only S w w' :=
  ⟨(h.below hb).grow (fun _ hk => .inl hk) (fun k hk => hk.elim (fun hk => Nat.lt_of_lt_of_le (h.lt k hk) hb.size) (fun h => h.2)), .of_below hb (Nat.le_refl _)⟩

/-- 'append(s, x...)' on a row of one's own among others, x anywhere: where the new row lies -/
theorem run_append_at {P : Program} {w : World} (t ty e : TypeId) (k : IntKind) (B : Nat) (hT : P.underlying t = some (.slice e)) (hI : ElemT P e k B)
    (a : Option Addr) (n cap : Nat) (zs : List Int) (hown : w.ownsRow 0 e 1 (.slice a n cap) n (zs.map (.int k)))
    (b : Option Addr) (m c : Nat) (ys : List Int) (hy : InK k w b ys) (hl : ys.length = m) (h63 : n + m ≤ maxLen) (h47 : (n + m) * B ≤ 140737488355328) :
    ∃ a' c' w', (Builtin.append_ #[t, t] ty #[.slice a n cap, .slice b m c]).run P w = .ok (.slice a' (n + m) c') w' ∧ w'.ownsRow 0 e 1 (.slice a' (n + m) c') (n + m) ((zs ++ ys).map (.int k)) ∧
      (Only (fun q => ∃ x, a = some x ∧ x.block = q) w w') ∧ ∀ x, a' = some x → (∃ y, a = some y ∧ y.block = x.block) ∨ (w.heap.size ≤ x.block ∧ x.block < w'.heap.size) := by
  obtain ⟨i0, h1, h2, h3, h4⟩ := hI
  rcases hy with hy | ⟨b', off, rfl, _, hy⟩
  · subst hy
    obtain rfl : m = 0 := hl.symm
    refine ⟨a, cap, w, run_append_empty (P := P) w 0 t ty e i0 1 hT h1 _ n _ hown b c, by simpa using hown, Only.refl _ _, fun x hx => .inl ⟨x, hx, rfl⟩⟩
  · obtain ⟨v', w', hr, ho, hg, _, hw⟩ := run_append_own_at (P := P) w 0 t ty e i0 (.int k 0) 1 B hT h1 h2 h3 h4 rfl (by decide) (.slice a n cap) n _ hown ⟨b', off, none⟩ m c (ys.map (.int k)) (by rw [List.length_map, hl, Nat.mul_one]) (newsK hy) (one_map _ _) h63 h47 (Nat.zero_le _)
    rw [← List.map_append] at ho
    obtain ⟨a', c', rfl, _, _, _, _, hlt⟩ := own_any ho
    refine ⟨a', c', w', hr, ho, ⟨hg.os, hg.tape, hg.output, hg.size, fun q hq hn => hg.block q hq fun he => hn ?_⟩, fun x hx => ?_⟩
    · obtain ⟨x, h1, h2⟩ := ownB he.symm
      exact ⟨x, h1, h2⟩
    · subst hx
      have hx := (hlt x rfl).2.1
      rcases hw with hw | hw
      · obtain ⟨y, h1, h2⟩ := ownB (hw.symm.trans (show (Value.slice (some x) (n + m) c').ownBlock = some x.block from rfl))
        exact .inl ⟨y, h1, h2⟩
      · have h3 : x.block = w.heap.size := by simpa [Value.ownBlock] using hw
        exact .inr ⟨by omega, hx⟩

/-- the same as a step of a region that draws its order; w0: a world behind which only new memory was laid -/
theorem step_append_at {P : Program} {w : World} {ops : Array Oper} {o : Oper} {act : Act} {Q : Exit → Act → World → Prop} {K : Act → World → Prop} {E : Prop} (hgd : o.guard = none) (s x : Operand) (t : TypeId)
    (ho : o.op = .call { callee := .builtin .append, args := #[s, x], argTypes := #[t, t] })
    (e : TypeId) (k : IntKind) (B : Nat) (hT : P.underlying t = some (.slice e)) (hI : ElemT P e k B) (w0 : World) (h0 : Below w0.heap.size w0 w)
    (a : Option Addr) (n cap : Nat) (zs : List Int) (hs : act.eval s = .slice a n cap) (hown : w0.ownsRow 0 e 1 (.slice a n cap) n (zs.map (.int k)))
    (b : Option Addr) (m c : Nat) (ys : List Int) (hx : act.eval x = .slice b m c) (hy : InK k w0 b ys) (hl : ys.length = m) (h63 : n + m ≤ maxLen) (h47 : (n + m) * B ≤ 140737488355328)
    (h : ∀ a' c' w', w'.ownsRow 0 e 1 (.slice a' (n + m) c') (n + m) ((zs ++ ys).map (.int k)) → Only (fun q => ∃ x, a = some x ∧ x.block = q) w0 w' → (∀ x, a' = some x → (∃ y, a = some y ∧ y.block = x.block) ∨ (w0.heap.size ≤ x.block ∧ x.block < w'.heap.size)) → K (act.put o.dst (.slice a' (n + m) c')) w') :
    if Region.wanted o (yielded ops act.tmps) = true then Oper.wp P o act w K Q else E := by
  have hw : Region.wanted o (yielded ops act.tmps) = true := by simp [Region.wanted, hgd]
  rw [if_pos hw]
  have h00 : Only (fun _ => False) w0 w := .of_below h0 (Nat.le_refl _)
  obtain ⟨a', c', w', hr, h1, h2, h3⟩ := run_append_at (P := P) (w := w) t o.type e k B hT hI a n cap zs (own_only' hown h00 (fun _ _ h => h)) b m c ys (hy.below h0) hl h63 h47
  unfold Oper.wp
  simp [execOp, ho, resolve, invoke, builtin, hs, hx, hr, Result.andThen]
  exact h _ _ _ h1 ((h00.mono (fun _ _ h => h.elim)).trans h2) fun x hx => (h3 x hx).imp id fun h => ⟨Nat.le_trans h0.size h.1, h.2⟩
end Go.Proofs.Ytnnengigahakaaa
