/-
  Layer 15: the program's builder as an object: a row of nodes, a map of directories, a map of files; which blocks are its own.
-/
import Derived.Test.YtinmkgpmoclcoaaDoorRebMaps
import Derived.Test.YtinmkgpmoclcoaaDoorPz18
import Derived.Test.YtinmkgpmoclcoaaDoorPz12
namespace Go.Proofs.YtinmkgpmoclcoaaDoor.Reb
open Go.RowKit Go.MapKept Go.Proofs.YtinmkgpmoclcoaaDoor.Fit Pnm Tre Flt

/-- what of a node does not depend on memory -/
structure NdSt (u : NdS) : Prop where
  k : (Lit.int .i64 u.n.k).wf = true
  p : u.n.p.size ≤ 140737488355328
  m : (Lit.int .i64 u.n.m).wf = true
  t : u.n.t.size ≤ 140737488355328
  z : ∀ z ∈ u.n.d, (Lit.int .u8 z).wf = true
  l : u.n.d.length ≤ 140737488355328
  c : (Lit.int .i64 u.n.c).wf = true
theorem NdSt.f {B : Nat} {w : World} {u : NdS} (h : NdSt u) (hf : Frs B w u) : NdF w u := by
  obtain ⟨b, cap', hv, hi, hc, hm, hl, hx⟩ := own_any hf
  injection hv with e1 _ e3
  refine ⟨h.k, h.p, h.m, h.t, ?_, h.l, h.c⟩
  rw [e1, e3]
  refine ⟨rfl, hc, hm, h.z, ?_⟩
  rcases Nat.eq_zero_or_pos u.n.d.length with h0 | h0
  · exact .inl h0
  · obtain ⟨b', off, rfl, hlt⟩ := hi.plain h0
    exact .inr ⟨b', off, rfl, hlt, fun i hi' => hi.get i hi'⟩
/-- a row stays where only other blocks turn -/
theorem own_onlyA {S : Nat → Prop} {w w' : World} {base n size : Nat} {e : TypeId} {v : Value} {xs : List Value} (h : w.ownsRow base e size v n xs) (ho : Only S w w') (hb : ∀ k, v.ownBlock = some k → ¬ S k) : w'.ownsRow base e size v n xs := by
  obtain ⟨h1, h2⟩ := h
  refine ⟨h1, h2.imp id ?_⟩
  rintro ⟨g, cap, cur, hv, hbg, hg, r⟩
  have hlt : g < w.heap.size := (Array.getElem?_eq_some_iff.1 hg).1
  exact ⟨g, cap, cur, hv, hbg, (ho.block g hlt (hb g (by rw [hv]; rfl))).trans hg, r⟩
theorem own_blk {w : World} {base n cap size : Nat} {e : TypeId} {a : Option Addr} {xs : List Value} (_h : w.ownsRow base e size (.slice a n cap) n xs) {S : Nat → Prop} (hS : ∀ x, a = some x → S x.block) : ∀ k, (Value.slice a n cap).ownBlock = some k → S k := fun k hk => by
  cases a with
  | none => simp [Value.ownBlock] at hk
  | some x =>
    have e : x.block = k := by simpa [Value.ownBlock] using hk
    exact e ▸ hS x rfl

/-- the program's builder at block g, with the members A taken -/
structure PB (w : World) (g : Nat) (a : Option Addr) (cap gd gf Nd Nf : Nat) (Fd Ff : Value → Option Value) (us : List NdS) (A : List Mb) : Prop where
  o : ObjAt w g 60 [.slice a A.length cap, .map (some gd), .map (some gf)]
  r : w.ownsRow 0 55 6 (.slice a A.length cap) A.length (ndCells us)
  e : nds us = ndsOf A
  s : ∀ u ∈ us, NdSt u ∧ Frs 0 w u
  md : MapF w gd .string Nd Fd
  fd : Fm Fd A 0 (fun _ => .bool true)
  mf : MapF w gf .string Nf Ff
  ff : Fm Ff A 1 (fun r => .int .i64 (r : Int))
  ne : gd ≠ gf
  good : Gd A
/-- its blocks are among those of S -/
structure Inn (S : Nat → Prop) (g : Nat) (a : Option Addr) (gd gf : Nat) (us : List NdS) : Prop where
  g : S g
  d : S gd
  f : S gf
  r : ∀ x, a = some x → S x.block
  u : ∀ u ∈ us, ∀ x, u.a = some x → S x.block
def PBd (w : World) (S : Nat → Prop) (g : Nat) (A : List Mb) : Prop :=
  ∃ a cap gd gf Nd Nf Fd Ff us, PB w g a cap gd gf Nd Nf Fd Ff us A ∧ Inn S g a gd gf us ∧ ∀ k, S k → k < w.heap.size
theorem Inn.mono {S T : Nat → Prop} {g gd gf : Nat} {a : Option Addr} {us : List NdS} (h : Inn S g a gd gf us) (hST : ∀ k, S k → T k) : Inn T g a gd gf us :=
  ⟨hST _ h.g, hST _ h.d, hST _ h.f, fun x hx => hST _ (h.r x hx), fun u hu x hx => hST _ (h.u u hu x hx)⟩
theorem PB.only {S T : Nat → Prop} {w w' : World} {g cap gd gf Nd Nf : Nat} {a : Option Addr} {Fd Ff : Value → Option Value} {us : List NdS} {A : List Mb} (h : PB w g a cap gd gf Nd Nf Fd Ff us A) (hi : Inn S g a gd gf us) (ho : Only T w w') (hd : ∀ k, S k → ¬ T k) : PB w' g a cap gd gf Nd Nf Fd Ff us A :=
  ⟨h.o.only ho (hd _ hi.g), own_onlyA h.r ho fun k hk => hd k (own_blk h.r hi.r k hk), h.e, fun u hu => ⟨(h.s u hu).1, own_onlyA (h.s u hu).2 ho fun k hk => hd k (own_blk (h.s u hu).2 (hi.u u hu) k hk)⟩, h.md.block (ho.block _ h.md.lt (hd _ hi.d)), h.fd, h.mf.block (ho.block _ h.mf.lt (hd _ hi.f)), h.ff, h.ne, h.good⟩
theorem PB.below {w w' : World} {g cap gd gf Nd Nf : Nat} {a : Option Addr} {Fd Ff : Value → Option Value} {us : List NdS} {A : List Mb} (h : PB w g a cap gd gf Nd Nf Fd Ff us A) (hb : Below w.heap.size w w') : PB w' g a cap gd gf Nd Nf Fd Ff us A :=
  h.only (S := fun _ => True) ⟨trivial, trivial, trivial, fun _ _ => trivial, fun _ _ _ _ => trivial⟩ (Only.of_below (S := fun _ => False) hb (Nat.le_refl _)) fun _ _ h => h
theorem PBd.only {S T : Nat → Prop} {w w' : World} {g : Nat} {A : List Mb} (h : PBd w S g A) (ho : Only T w w') (hd : ∀ k, S k → ¬ T k) : PBd w' S g A := by
  obtain ⟨a, cap, gd, gf, Nd, Nf, Fd, Ff, us, h1, h2, h3⟩ := h
  exact ⟨a, cap, gd, gf, Nd, Nf, Fd, Ff, us, h1.only h2 ho hd, h2, fun k hk => Nat.lt_of_lt_of_le (h3 k hk) ho.size⟩
theorem PBd.below {S : Nat → Prop} {w w' : World} {g : Nat} {A : List Mb} (h : PBd w S g A) (hb : Below w.heap.size w w') : PBd w' S g A :=
  h.only (Only.of_below (S := fun _ => False) hb (Nat.le_refl _)) fun _ _ h => h
theorem PBd.lt {S : Nat → Prop} {w : World} {g : Nat} {A : List Mb} (h : PBd w S g A) : ∀ k, S k → k < w.heap.size := by
  obtain ⟨a, cap, gd, gf, Nd, Nf, Fd, Ff, us, h1, h2, h3⟩ := h
  exact h3
theorem PB.len {w : World} {g cap gd gf Nd Nf : Nat} {a : Option Addr} {Fd Ff : Value → Option Value} {us : List NdS} {A : List Mb} (h : PB w g a cap gd gf Nd Nf Fd Ff us A) : us.length = A.length := by
  rw [← nds_len, h.e, ndsOf_len]
/-- the row of nodes, as it comes in -/
theorem PB.arg {w : World} {g cap gd gf Nd Nf : Nat} {a : Option Addr} {Fd Ff : Value → Option Value} {us : List NdS} {A : List Mb} (h : PB w g a cap gd gf Nd Nf Fd Ff us A) : ArgNds w a A.length cap us := by
  obtain ⟨a', c', e, h'⟩ := ArgNds.of_own h.r fun u hu => (h.s u hu).1.f (h.s u hu).2
  injection e with e1 _ e3
  subst e1; subst e3
  exact h'
/-- its node at place i -/
theorem PB.at_ {w : World} {g cap gd gf Nd Nf : Nat} {a : Option Addr} {Fd Ff : Value → Option Value} {us : List NdS} {A : List Mb} (h : PB w g a cap gd gf Nd Nf Fd Ff us A) {i : Nat} (hi : i < A.length) :
    ∃ b u, a = some ⟨b, 0, none⟩ ∧ b < w.heap.size ∧ us[i]? = some u ∧ u.n = ndOf A i ∧ NdSt u ∧ Frs 0 w u ∧ NdsAt w b 0 us := by
  have hl : i < us.length := by rw [h.len]; exact hi
  have hu : us[i]? = some us[i] := List.getElem?_eq_getElem hl
  obtain ⟨b, c, e, _, _, _, hb, hat, _⟩ := own_at h.r (by omega)
  injection e with e1 _ _
  subst e1
  have hn : (nds us)[i]? = (ndsOf A)[i]? := by rw [h.e]
  rw [nds_at hu] at hn
  unfold ndsOf at hn
  rw [List.getElem?_map, List.getElem?_range hi] at hn
  have hs := h.s _ (List.getElem_mem hl)
  exact ⟨b, _, rfl, hb, hu, Option.some.inj hn, hs.1, hs.2, hat⟩
/-- the new one -/
theorem PBd.nil {w : World} {S : Nat → Prop} {g gd gf : Nat} (ho : ObjAt w g 60 [.slice none 0 0, .map (some gd), .map (some gf)]) (hd : MapF w gd .string 0 fun _ => none) (hf : MapF w gf .string 0 fun _ => none) (ne : gd ≠ gf) (h1 : S g) (h2 : S gd) (h3 : S gf) (hS : ∀ k, S k → k < w.heap.size) : PBd w S g [] :=
  ⟨none, 0, gd, gf, 0, 0, _, _, [], ⟨ho, ⟨rfl, .inl ⟨rfl, rfl⟩⟩, rfl, (fun _ h => by cases h), hd, Fm.nil 0 _, hf, Fm.nil 1 _, ne, gd_nil⟩, ⟨h1, h2, h3, (fun _ h => by cases h), fun _ h => by cases h⟩, hS⟩
end Go.Proofs.YtinmkgpmoclcoaaDoor.Reb
