/-
  Layer 15: the program's builder in the midst of Add: its maps written, its row not yet; what is left at the end. No walks.
-/
import Derived.Test.YtinmkgpmoclcoaaDoorRebPNode
import Derived.Test.YtinmkgpmoclcoaaDoorPz14
namespace Go.Proofs.YtinmkgpmoclcoaaDoor.Reb
open Go.RowKit Go.MapKept Go.Proofs.YtinmkgpmoclcoaaDoor.Fit Pnm Tre Flt

theorem obj_ne_map {w : World} {g gd N : Nat} {T : TypeId} {vs : List Value} {d : TypeDesc} {F : Value → Option Value} (h : ObjAt w g T vs) (m : MapF w gd d N F) : g ≠ gd := by
  rintro rfl
  obtain ⟨xs, clk, m, _⟩ := m
  unfold ObjAt at h
  rw [h] at m
  cases m
theorem own_ne_map {w : World} {base n size gd N : Nat} {e : TypeId} {v : Value} {xs : List Value} {d : TypeDesc} {F : Value → Option Value} (h : w.ownsRow base e size v n xs) (m : MapF w gd d N F) : some gd ≠ v.ownBlock := by
  rcases h.2 with ⟨hv, _⟩ | ⟨b, cap, cur, hv, _, hh, _⟩
  · subst hv; intro h; cases h
  · subst hv
    intro h
    have h : some gd = some b := h
    injection h with h
    subst h
    obtain ⟨xs, clk, m, _⟩ := m
    rw [hh] at m
    cases m
theorem own_ne_obj {w : World} {base n size g : Nat} {e T : TypeId} {v : Value} {xs vs : List Value} (h : w.ownsRow base e size v n xs) (m : ObjAt w g T vs) (hne : T ≠ e) : some g ≠ v.ownBlock := by
  rcases h.2 with ⟨hv, _⟩ | ⟨b, cap, cur, hv, _, hh, _⟩
  · subst hv; intro h; cases h
  · subst hv
    intro h
    have h : some g = some b := h
    injection h with h
    subst h
    unfold ObjAt at m
    rw [hh] at m
    injection m with m
    injection m with _ m _
    exact hne m.symm
theorem own_kept {w w' : World} {base n size : Nat} {e : TypeId} {v : Value} {xs : List Value} (h : w.ownsRow base e size v n xs) (hk : ∀ k, v.ownBlock = some k → w'.heap[k]? = w.heap[k]?) : w'.ownsRow base e size v n xs := by
  obtain ⟨h1, h2⟩ := h
  refine ⟨h1, h2.imp id ?_⟩
  rintro ⟨b, cap, cur, hv, hb, hh, r⟩
  exact ⟨b, cap, cur, hv, hb, (hk b (by rw [hv]; rfl)).trans hh, r⟩

section
variable {P : Program} {w : World} {ops : Array Oper} {o : Oper} {a : Act} {Q : Exit → Act → World → Prop} {K : Act → World → Prop} {E : Prop}
theorem step_append_ndx (hgd : o.guard = none) (s x : Operand) (t : TypeId) (ho : o.op = .call { callee := .builtin .append, args := #[s, x], argTypes := #[t, t] })
    (base : Nat) (e : TypeId) (i0 : TypeInfo) (z : Value) (hT : P.underlying t = some (.slice e)) (hI : Hid (P.info? e = some i0 ∧ i0.zero = some z ∧ i0.size = 6 ∧ i0.bytes = 80)) (hz : z.cells.size = 6)
    (v : Value) (n : Nat) (ys : List NdS) (hs : a.eval s = v) (hown : w.ownsRow base e 6 v n (ndCells ys)) (b : Option Addr) (m c : Nat) (xs : List NdS) (hx : a.eval x = .slice b m c) (hy : NdsIn w b xs) (hl : xs.length = m) (h47 : n + m ≤ 1759218604441) (hbase : base ≤ w.heap.size)
    (k : ∀ v' w', w'.ownsRow base e 6 v' (n + m) (ndCells (ys ++ xs)) → Below base w w' → (∀ k, k < w.heap.size → some k ≠ v.ownBlock → w'.heap[k]? = w.heap[k]?) → (v'.ownBlock = v.ownBlock ∨ v'.ownBlock = some w.heap.size) → K (a.put o.dst v') w') :
    if Region.wanted o (yielded ops a.tmps) = true then Oper.wp P o a w K Q else E := by
  have hw : Region.wanted o (yielded ops a.tmps) = true := by simp [Region.wanted, hgd]
  rw [if_pos hw]
  obtain ⟨v', w', hr, h1, h2, h3, h4⟩ := run_append_nds (P := P) (w := w) t o.type e base i0 z hT hI hz v n ys hown b m c xs hy hl h47 hbase
  unfold Oper.wp
  simp [execOp, ho, resolve, invoke, builtin, hs, hx, hr, Result.andThen]
  exact k _ _ h1 h2 h3 h4
end
theorem MbF.onlyE {S : Nat → Prop} {w w' : World} {y : MbS} (h : MbF w y) (ho : Only S w w') (e : y.n.d = [] ∨ ∀ x, y.a = some x → ¬ S x.block) : MbF w' y := by
  rcases e with e | e
  · obtain ⟨h1, h2, h3, h4, _⟩ := h.d
    exact ⟨h.k, h.p, h.m, h.t, h.s, ⟨h1, h2, h3, h4, .inl (by rw [e]; rfl)⟩, h.l⟩
  · exact h.only ho e
theorem MbF.off {S : Nat → Prop} {w : World} {y : MbS} (h : MbF w y) (hS : ∀ k, S k → w.heap.size ≤ k) : y.n.d = [] ∨ ∀ x, y.a = some x → ¬ S x.block := by
  obtain ⟨_, _, _, _, h5⟩ := h.d
  rcases h5 with h5 | ⟨b, off, hb, hlt, _⟩
  · exact .inl (List.length_eq_zero_iff.mp h5)
  · refine .inr fun x hx hs => ?_
    rw [hb] at hx
    cases hx
    exact absurd (hS _ hs) (Nat.not_le_of_lt hlt)
/-- the builder, whatever its maps say -/
structure PM (w : World) (g : Nat) (a : Option Addr) (cap gd gf Nd Nf : Nat) (Fd Ff : Value → Option Value) (us : List NdS) (A : List Mb) : Prop where
  o : ObjAt w g 60 [.slice a A.length cap, .map (some gd), .map (some gf)]
  r : w.ownsRow 0 55 6 (.slice a A.length cap) A.length (ndCells us)
  e : nds us = ndsOf A
  s : ∀ u ∈ us, NdSt u ∧ Frs 0 w u
  md : MapF w gd .string Nd Fd
  mf : MapF w gf .string Nf Ff
  ne : gd ≠ gf
  good : Gd A
section
variable {w : World} {g cap gd gf Nd Nf : Nat} {a : Option Addr} {Fd Ff : Value → Option Value} {us : List NdS} {A : List Mb} {S : Nat → Prop}
theorem PB.mid (h : PB w g a cap gd gf Nd Nf Fd Ff us A) : PM w g a cap gd gf Nd Nf Fd Ff us A := ⟨h.o, h.r, h.e, h.s, h.md, h.mf, h.ne, h.good⟩
theorem PM.dir (h : PM w g a cap gd gf Nd Nf Fd Ff us A) {w' : World} {N' : Nat} {F' : Value → Option Value} (m : MapF w' gd .string N' F') (t : TurnB w w' gd) : PM w' g a cap gd gf N' Nf F' Ff us A :=
  ⟨h.o.turnB t (obj_ne_map h.o h.md), own_kept h.r fun k hk => t.other fun e => own_ne_map h.r h.md (by rw [← e]; exact hk.symm), h.e, fun u hu => ⟨(h.s u hu).1, own_kept (h.s u hu).2 fun k hk => t.other fun e => own_ne_map (h.s u hu).2 h.md (by rw [← e]; exact hk.symm)⟩, m, h.mf.block (t.other (Ne.symm h.ne)), h.ne, h.good⟩
theorem PM.fil (h : PM w g a cap gd gf Nd Nf Fd Ff us A) {w' : World} {N' : Nat} {F' : Value → Option Value} (m : MapF w' gf .string N' F') (t : TurnB w w' gf) : PM w' g a cap gd gf Nd N' Fd F' us A :=
  ⟨h.o.turnB t (obj_ne_map h.o h.mf), own_kept h.r fun k hk => t.other fun e => own_ne_map h.r h.mf (by rw [← e]; exact hk.symm), h.e, fun u hu => ⟨(h.s u hu).1, own_kept (h.s u hu).2 fun k hk => t.other fun e => own_ne_map (h.s u hu).2 h.mf (by rw [← e]; exact hk.symm)⟩, h.md.block (t.other h.ne), m, h.ne, h.good⟩
theorem PM.below (h : PM w g a cap gd gf Nd Nf Fd Ff us A) {w' : World} (hb : Below w.heap.size w w') : PM w' g a cap gd gf Nd Nf Fd Ff us A :=
  ⟨h.o.below hb h.o.lt, own_stay' h.r hb (Nat.le_refl _), h.e, fun u hu => ⟨(h.s u hu).1, own_stay' (h.s u hu).2 hb (Nat.le_refl _)⟩, h.md.below hb h.md.lt, h.mf.below hb h.mf.lt, h.ne, h.good⟩
/-- the end of Add: the node appended to the row, the row into its cell -/
theorem PM.fin (h : PM w g a cap gd gf Nd Nf Fd Ff us A) (hi : Inn S g a gd gf us) {w0 : World} (ho : Only S w0 w) (hl : ∀ k, S k → k < w0.heap.size) {y : Mb} (hy : adR A y = 0) (fd : Fm Fd (A ++ [y]) 0 (fun _ => .bool true)) (ff : Fm Ff (A ++ [y]) 1 (fun r => .int .i64 (r : Int)))
    {wn z2 z3 z4 : World} {u : NdS} {va : Option Addr} {vc : Nat} (hu : Nw S w wn A y u) (bn : Below w.heap.size w wn) (b2 : Below wn.heap.size wn z2)
    (o3 : z3.ownsRow 0 55 6 (.slice va (A.length + 1) vc) (A.length + 1) (ndCells (us ++ [u]))) (b3 : Below 0 z2 z3) (k3 : ∀ k, k < z2.heap.size → some k ≠ (Value.slice a A.length cap).ownBlock → z3.heap[k]? = z2.heap[k]?)
    (x3 : (Value.slice va (A.length + 1) vc).ownBlock = (Value.slice a A.length cap).ownBlock ∨ (Value.slice va (A.length + 1) vc).ownBlock = some z2.heap.size)
    (o4 : ObjAt z4 g 60 [.slice va (A.length + 1) vc, .map (some gd), .map (some gf)]) (t4 : TurnB z3 z4 g) :
    Only S w0 z4 ∧ PBd z4 (Grow S w0 z4) g (A ++ [y]) := by
  have B2 : Below w.heap.size w z2 := belT bn b2
  have H2 := h.below B2
  have g2 : g < z2.heap.size := H2.o.lt
  have kk : ∀ k, k < z2.heap.size → some k ≠ (Value.slice a A.length cap).ownBlock → k ≠ g → z4.heap[k]? = z2.heap[k]? := fun k h1 h2 h3 => (t4.other h3).trans (k3 k h1 h2)
  have os : Only S z2 z4 := ⟨(t4.below (Nat.zero_le _)).os.trans b3.os, (t4.below (Nat.zero_le _)).tape.trans b3.tape, (t4.below (Nat.zero_le _)).output.trans b3.output, by rw [t4.size]; exact b3.size, fun k h1 h2 => kk k h1 (fun e => h2 (own_blk h.r hi.r k e.symm)) fun e => h2 (e ▸ hi.g)⟩
  have OS : Only S w0 z4 := ho.trans ((Only.of_below B2 (Nat.le_refl _)).trans os)
  have fr : ∀ v : NdS, Frs 0 z2 v → Frs 0 z4 v := fun v hv => own_kept hv fun k hk => by
    refine kk k (own_under hv k hk).2 (fun e => ?_) (fun e => own_ne_obj hv H2.o (by decide) (by rw [← e]; exact hk.symm))
    rcases hv.2 with ⟨hv', _⟩ | ⟨b, c1, cu1, hv', _, hh, _⟩
    · rw [hv'] at hk; cases hk
    · have hk : some b = some k := by rw [hv'] at hk; exact hk
      injection hk with hk
      subst hk
      rcases H2.r.2 with ⟨hr', _⟩ | ⟨b2, c2, cu2, hr', _, hh2, _⟩
      · rw [hr'] at e; cases e
      · have e : some b = some b2 := by rw [hr'] at e; exact e
        injection e with e
        subst e
        rw [hh] at hh2
        injection hh2 with hh2
        injection hh2 with _ hh2 _
        exact absurd hh2 (by decide)
  have UL : us.length = A.length := by rw [← nds_len, h.e, ndsOf_len]
  refine ⟨OS, va, vc, gd, gf, Nd, Nf, Fd, Ff, us ++ [u], ⟨?_, ?_, ?_, fun v hv => ?_, ?_, fd, ?_, ff, h.ne, gd_snoc h.good hy⟩, ?_, fun k hk => ?_⟩
  · rw [List.length_append, List.length_singleton]; exact o4
  · rw [List.length_append, List.length_singleton]
    refine own_kept o3 fun k hk => t4.other fun e => ?_
    subst e
    rcases x3 with x3 | x3
    · exact own_ne_obj H2.r H2.o (by decide) (by rw [← x3]; exact hk.symm)
    · rw [x3] at hk
      injection hk with hk
      omega
  · rw [ndsOf_snoc h.good, ← h.e, ← hu.n]; unfold nds; rw [List.map_append]; rfl
  · rcases List.mem_append.1 hv with hv | hv
    · exact ⟨(h.s v hv).1, fr v (H2.s v hv).2⟩
    · obtain rfl := List.mem_singleton.1 hv
      exact ⟨hu.s, fr v (own_stay' hu.f b2 (Nat.le_refl _))⟩
  · exact H2.md.block (kk gd H2.md.lt (own_ne_map H2.r H2.md) (Ne.symm (obj_ne_map H2.o H2.md)))
  · exact H2.mf.block (kk gf H2.mf.lt (own_ne_map H2.r H2.mf) (Ne.symm (obj_ne_map H2.o H2.mf)))
  · refine ⟨.inl hi.g, .inl hi.d, .inl hi.f, fun x hx => ?_, fun v hv x hx => ?_⟩
    · subst hx
      have ex : (Value.slice (some x) (A.length + 1) vc).ownBlock = some x.block := by simp [Value.ownBlock]
      rcases x3 with x3 | x3
      · exact .inl (own_blk h.r hi.r _ (by rw [← x3]; exact ex))
      · have hx : x.block = z2.heap.size := by rw [ex] at x3; injection x3
        have hlt := (own_under o3 _ ex).2
        refine .inr ⟨?_, by rw [t4.size]; exact hlt⟩
        rw [hx]
        exact Nat.le_trans ho.size B2.size
    · rcases List.mem_append.1 hv with hv | hv
      · exact .inl (hi.u v hv x hx)
      · obtain rfl := List.mem_singleton.1 hv
        rcases hu.i x hx with h1 | ⟨h1, h2⟩
        · exact .inl h1
        · exact .inr ⟨Nat.le_trans ho.size h1, Nat.lt_of_lt_of_le h2 (Nat.le_trans b2.size os.size)⟩
  · rcases hk with hk | ⟨_, hk⟩
    · exact Nat.lt_of_lt_of_le (hl k hk) OS.size
    · exact hk
end
end Go.Proofs.YtinmkgpmoclcoaaDoor.Reb
