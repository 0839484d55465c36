/-
  Layer 19: what a step of the file system leaves: one inode turned; one path more. Nothing of the program's text.
-/
import Derived.Test.YthcbiohmghaobaaDoorPz04
import Derived.Deep.RegionHeld3
import Derived.Test.YthcbiohmghaobaaDoorRgn
namespace Go.Proofs.YthcbiohmghaobaaDoor.Vfs
open Go.RowKit Go.MapKept Go.Proofs.YthcbiohmghaobaaDoor.Pnm

section
variable {N : Nat} {F S : Int} {R : List Int} {W D : Nat → Prop} {w w' : World} {f : Nat} {s : St} {mp nm : Nat} {ra : Option Addr} {rc : Nat} {M : List InM}
theorem mpF_set {ps : List (ByteArray × Nat)} {M : List InM} {i : Nat} {y y' : InM} (hy : M[i]? = some y) (hg : y'.g = y.g) : mpF ps (M.set i y') = mpF ps M := by
  have hl : i < M.length := (List.getElem?_eq_some_iff.1 hy).1
  funext v
  cases v with
  | string p =>
    show ((fnd ps p).map _) = (fnd ps p).map _
    cases fnd ps p with
    | none => rfl
    | some j =>
      show some _ = some _
      have : ((M.set i y').getD j ⟨0, none, 0, .slice none 0 0⟩).g = (M.getD j ⟨0, none, 0, .slice none 0 0⟩).g := by
        rw [List.getD_eq_getElem?_getD, List.getD_eq_getElem?_getD]
        by_cases e : i = j
        · subst e; rw [List.getElem?_set_self hl, hy]; exact hg
        · rw [List.getElem?_set_ne e]
      dsimp only
      rw [this]
  | _ => rfl
theorem InP.wide {W' D' : Nat → Prop} {x : Ino} {y : InM} (h : InP W D w x y) (hW : ∀ k, W k → W' k) (hD : ∀ k, D k → D' k) : InP W' D' w x y := ⟨h.o, hW _ h.wg, h.d, h.dl, h.dm, fun a ha h0 => hD _ (h.db a ha h0), h.n, fun k hk => hW _ (h.nw k hk)⟩
/-- inode i turned, and its names' row -/
theorem FsP.ino {W' : Nat → Prop} (h : FsP N F S R W D w f s mp nm ra rc M) {i : Nat} {x' : Ino} {y y' : InM} (hy : M[i]? = some y) (hg : y'.g = y.g) (hs : w.heap.size ≤ w'.heap.size)
    (hk : ∀ k, k < w.heap.size → W k ∨ D k → k ≠ y.g → y.nv.ownBlock ≠ some k → w'.heap[k]? = w.heap[k]?) (hW : ∀ k, W k → W' k) (hWn : ∀ k, W' k → W k ∨ (w.heap.size ≤ k ∧ k < w'.heap.size))
    (hI : InP W' D w' x' y') (hsep : ∀ k, y'.nv.ownBlock = some k → y.nv.ownBlock = some k ∨ w.heap.size ≤ k) (hwf : Wf N (setI s i x')) : FsP N F S R W' D w' f (setI s i x') mp nm ra rc (M.set i y') := by
  have hl : i < M.length := (List.getElem?_eq_some_iff.1 hy).1
  have hx : s.is[i]? = some (s.at i) := at_some (by rw [← h.ml]; exact hl)
  have hIy := h.e i _ _ hx hy
  have own_lt : ∀ (j : Nat) (z : InM) (k : Nat), M[j]? = some z → z.nv.ownBlock = some k → k < w.heap.size := fun j z k hz hk' => by
    have hj : j < s.is.length := by rw [← h.ml]; exact (List.getElem?_eq_some_iff.1 hz).1
    exact (own_under (h.e j _ _ (at_some hj) hz).n k hk').2
  -- blocks of other roles are none of those turned
  have ty : ∀ k T vs, ObjAt w k T vs → vs.length ≠ 0 → T ≠ 9 → y.nv.ownBlock ≠ some k := fun k T vs ho _ hT e => by
    rcases hIy.n.2 with ⟨h', _⟩ | ⟨g', cap', cur, hv, _, hh, _⟩
    · rw [h'] at e; cases e
    · rw [hv] at e
      obtain rfl : g' = k := Option.some.inj e
      unfold ObjAt at ho
      rw [hh] at ho
      injection ho with ho
      injection ho with _ hT'
      exact hT hT'.symm
  have nf : f ≠ y.g := fun e => by
    have h1 := h.o; have h2 := hIy.o
    unfold ObjAt at h1 h2
    rw [e, h2] at h1
    injection h1 with h1; injection h1 with _ h1
    exact absurd h1 (by decide)
  have nm' : ∀ k, k = mp → k ≠ y.g ∧ y.nv.ownBlock ≠ some k := fun k e => by
    subst e
    obtain ⟨xs, clk, h1, _⟩ := h.m
    refine ⟨fun e => ?_, fun e => ?_⟩
    · have h2 := hIy.o; unfold ObjAt at h2; rw [← e, h1] at h2; cases h2
    · rcases hIy.n.2 with ⟨h', _⟩ | ⟨g', cap', cur, hv, _, hh, _⟩
      · rw [h'] at e; cases e
      · rw [hv] at e
        obtain rfl : g' = k := Option.some.inj e
        rw [hh] at h1; cases h1
  have dk : ∀ k, k < w.heap.size → D k → w'.heap[k]? = w.heap[k]? := fun k hk' hd => hk k hk' (.inr hd) (fun e => h.wd k (by rw [e]; exact hIy.wg) hd) fun e => h.wd k (hIy.nw k e) hd
  refine ⟨?_, ?_, hwf, by rw [List.length_set, setI_len]; exact h.ml, ?_, h.rl, h.rm, h.rd, h.rz, hW _ h.wfb, hW _ h.wm, ?_, ?_, ?_, ?_, ?_, h.b⟩
  · rw [setI_len]
    exact h.o.block (hk f h.o.lt (.inl h.wfb) nf (ty f _ _ h.o (by simp) (by decide)))
  · show MapF w' mp .string nm (mpF s.ps _)
    rw [mpF_set hy hg]
    exact h.m.block (hk mp h.m.lt (.inl h.wm) (nm' mp rfl).1 (nm' mp rfl).2)
  · by_cases h0 : R = []
    · exact .inl (by rw [h0])
    · exact h.r.block hs fun a ha hl' => dk _ hl' (h.rd a ha h0)
  · intro j x z hx' hz
    by_cases e : i = j
    · subst e
      rw [List.getElem?_set_self hl] at hz
      obtain rfl := Option.some.inj hz
      have : (s.is.set i x')[i]? = some x := hx'
      rw [List.getElem?_set_self (by rw [← h.ml]; exact hl)] at this
      obtain rfl := Option.some.inj this
      exact hI
    · rw [List.getElem?_set_ne e] at hz
      have hx2 : s.is[j]? = some x := by
        have : (s.is.set i x')[j]? = some x := hx'
        rwa [List.getElem?_set_ne e] at this
      have hj := h.e j x z hx2 hz
      have q1 : z.g ≠ y.g := fun c => e (h.inj _ _ _ _ hy hz c.symm)
      refine InP.wide (W := W) (D := D) ?_ hW fun _ h => h
      have kg : w'.heap[z.g]? = w.heap[z.g]? := hk _ hj.o.lt (.inl hj.wg) q1 (ty _ _ _ hj.o (by simp) (by decide))
      refine ⟨hj.o.block kg, hj.wg, ?_, hj.dl, hj.dm, hj.db, ?_, hj.nw⟩
      · by_cases h0 : x.d = []
        · exact .inl h0
        · exact hj.d.block hs fun a ha hl' => dk _ hl' (hj.db a ha h0)
      · refine ⟨hj.n.1, hj.n.2.imp id fun ⟨g, c, cur, h1, h2, h3⟩ => ⟨g, c, cur, h1, h2, ?_⟩⟩
        have eb : z.nv.ownBlock = some g := by rw [h1]; rfl
        rw [hk g (own_lt j z g hz eb) (.inl (hj.nw g eb)) (fun c => by
          have h2' := hIy.o; unfold ObjAt at h2'; rw [← c, h3.1] at h2'; injection h2' with h2'; injection h2' with _ h2'; exact absurd h2' (by decide)) fun c => e (h.sep _ _ _ _ g hy hz c eb)]
        exact h3
  · intro j j' z z' hz hz' he
    by_cases e : i = j
    · by_cases e' : i = j'
      · rw [← e, ← e']
      · subst e
        rw [List.getElem?_set_self hl] at hz
        rw [List.getElem?_set_ne e'] at hz'
        obtain rfl := Option.some.inj hz
        exact h.inj _ _ _ _ hy hz' (by rw [← hg]; exact he)
    · rw [List.getElem?_set_ne e] at hz
      by_cases e' : i = j'
      · subst e'
        rw [List.getElem?_set_self hl] at hz'
        obtain rfl := Option.some.inj hz'
        exact h.inj _ _ _ _ hz hy (by rw [← hg]; exact he)
      · rw [List.getElem?_set_ne e'] at hz'
        exact h.inj _ _ _ _ hz hz' he
  · intro j j' z z' k hz hz' hk1 hk2
    by_cases e : i = j
    · by_cases e' : i = j'
      · rw [← e, ← e']
      · subst e
        rw [List.getElem?_set_self hl] at hz
        rw [List.getElem?_set_ne e'] at hz'
        obtain rfl := Option.some.inj hz
        rcases hsep k hk1 with c | c
        · exact h.sep _ _ _ _ k hy hz' c hk2
        · have := own_lt _ _ _ hz' hk2; omega
    · rw [List.getElem?_set_ne e] at hz
      by_cases e' : i = j'
      · subst e'
        rw [List.getElem?_set_self hl] at hz'
        obtain rfl := Option.some.inj hz'
        rcases hsep k hk2 with c | c
        · exact h.sep _ _ _ _ k hz hy hk1 c
        · have := own_lt _ _ _ hz hk1; omega
      · rw [List.getElem?_set_ne e'] at hz'
        exact h.sep _ _ _ _ k hz hz' hk1 hk2
  · intro k hk1 hk2
    rcases hWn k hk1 with c | c
    · exact h.wd k c hk2
    · have := h.lt k (.inr hk2); omega
  · intro k hk1
    rcases hk1 with c | c
    · rcases hWn k c with c | c
      · exact Nat.lt_of_lt_of_le (h.lt k (.inl c)) hs
      · exact c.2
    · exact Nat.lt_of_lt_of_le (h.lt k (.inr c)) hs
/-- one path more: the map turned -/
theorem FsP.path (h : FsP N F S R W D w f s mp nm ra rc M) {p : ByteArray} {i : Nat} {y : InM} (hy : M[i]? = some y) (hf : fnd s.ps p = none) (hN : s.ps.length < N) (hp : p.size ≤ 65536) {nm' : Nat}
    (hm : MapF w' mp .string nm' (upd (mpF s.ps M) (.string p) (.pointer (some ⟨y.g, 0, none⟩)))) (ht : TurnB w w' mp) : FsP N F S R W D w' f (addP s p i) mp nm' ra rc M := by
  have hl : i < s.is.length := by rw [← h.ml]; exact (List.getElem?_eq_some_iff.1 hy).1
  have hmb : ∀ k, (∃ vs T c, w.heap[k]? = some (.cells vs T c)) → k ≠ mp := fun k ⟨vs, T, c, hk⟩ e => by
    obtain ⟨xs, clk, h1, _⟩ := h.m
    rw [e, h1] at hk; cases hk
  have hD : ∀ k, D k → k ≠ mp := fun k hd e => h.wd k (by rw [e]; exact h.wm) hd
  refine ⟨h.o.turnB ht (hmb f ⟨_, _, _, h.o⟩), by show MapF w' mp .string nm' (mpF (s.ps ++ [(p, i)]) M); rw [mpF_snoc hf hy]; exact hm, h.wf.add hl hN hp, h.ml, ?_, h.rl, h.rm, h.rd, h.rz, h.wfb, h.wm, ?_, h.inj, h.sep, h.wd, fun k hk => Nat.lt_of_lt_of_le (h.lt k hk) (Nat.le_of_eq ht.size.symm), h.b⟩
  · by_cases h0 : R = []
    · exact .inl (by rw [h0])
    · exact h.r.block (Nat.le_of_eq ht.size.symm) fun a ha hl' => ht.other (hD _ (h.rd a ha h0))
  · intro j x z hx hz
    have hj := h.e j x z hx hz
    refine ⟨hj.o.turnB ht (hmb _ ⟨_, _, _, hj.o⟩), hj.wg, ?_, hj.dl, hj.dm, hj.db, ?_, hj.nw⟩
    · by_cases h0 : x.d = []
      · exact .inl h0
      · exact hj.d.block (Nat.le_of_eq ht.size.symm) fun a ha hl' => ht.other (hD _ (hj.db a ha h0))
    · refine ⟨hj.n.1, hj.n.2.imp id fun ⟨g, c, cur, h1, h2, h3⟩ => ⟨g, c, cur, h1, h2, ?_⟩⟩
      rw [ht.other (hmb g ⟨_, _, _, h3.1⟩)]
      exact h3
/-- one file more -/
theorem FsP.new (h : FsP N F S R W D w f s mp nm ra rc M) {k m : Int} {d : List Int} {t : ByteArray} {y : InM} (hg : w.heap.size ≤ y.g) (hk : ∀ k, k < w.heap.size → k ≠ f → w'.heap[k]? = w.heap[k]?) (hs : w.heap.size ≤ w'.heap.size)
    (ho : ObjAt w' f 84 (fsL mp (F + S * ((addI F S s k m d t).is.length : Int)) S ra R.length rc (rix R s))) (hx : ObjAt w' y.g 80 (inoV ⟨k, m, F + S * (s.is.length : Int), 0, d, t, 0, 0, []⟩ y)) (hn : y.nv = .slice none 0 0)
    (hd : BytesIn w' y.da d) (hl : d.length ≤ y.dc) (hm : y.dc ≤ maxLen) (hdb : ∀ a, y.da = some a → d ≠ [] → w.heap.size ≤ a.block ∧ a.block < w'.heap.size ∧ a.block ≠ y.g) (hwf : Wf N (addI F S s k m d t)) :
    FsP N F S R (fun k => W k ∨ k = y.g) (fun k => D k ∨ (w.heap.size ≤ k ∧ k < w'.heap.size ∧ k ≠ y.g)) w' f (addI F S s k m d t) mp nm ra rc (M ++ [y]) := by
  have hf : ∀ k, k ≠ f → W k ∨ D k → w'.heap[k]? = w.heap[k]? := fun k hk' hw => hk k (h.lt k hw) hk'
  have nf : ∀ k, D k → k ≠ f := fun k hd e => h.wd k (by rw [e]; exact h.wfb) hd
  have ty : ∀ k, (∃ xs clk, w.heap[k]? = some (.map xs clk)) ∨ (∃ vs T c, w.heap[k]? = some (.cells vs T c) ∧ T ≠ 84) → k ≠ f := fun k hk' e => by
    have h1 := h.o
    unfold ObjAt at h1
    rw [e, h1] at hk'
    rcases hk' with ⟨xs, clk, q⟩ | ⟨vs, T, c, q, q2⟩
    · cases q
    · injection q with q; injection q with _ q; exact q2 q.symm
  have mg : ∀ j, j < M.length → (M ++ [y]).getD j ⟨0, none, 0, .slice none 0 0⟩ = M.getD j ⟨0, none, 0, .slice none 0 0⟩ := fun j hj => by
    rw [List.getD_eq_getElem?_getD, List.getD_eq_getElem?_getD, List.getElem?_append_left hj]
  have mf : mpF s.ps (M ++ [y]) = mpF s.ps M := by
    funext v
    cases v with
    | string p =>
      show ((fnd s.ps p).map _) = (fnd s.ps p).map _
      cases hq : fnd s.ps p with
      | none => rfl
      | some j =>
        show some _ = some _
        dsimp only
        rw [mg j (by rw [h.ml]; exact h.wf.lt hq)]
    | _ => rfl
  have get : ∀ (j : Nat) (z : InM), (M ++ [y])[j]? = some z → (j < M.length ∧ M[j]? = some z) ∨ (j = M.length ∧ z = y) := fun j z hz => by
    by_cases e : j < M.length
    · rw [List.getElem?_append_left e] at hz; exact .inl ⟨e, hz⟩
    · rw [List.getElem?_append_right (by omega)] at hz
      have : j - M.length = 0 := by
        have := (List.getElem?_eq_some_iff.1 hz).1
        simp at this; omega
      rw [this] at hz
      obtain rfl : y = z := by simpa using hz
      exact .inr ⟨by omega, rfl⟩
  have glt : ∀ (j : Nat) (z : InM), M[j]? = some z → z.g < w.heap.size ∧ ∀ k, z.nv.ownBlock = some k → k < w.heap.size := fun j z hz => by
    have hj : j < s.is.length := by rw [← h.ml]; exact (List.getElem?_eq_some_iff.1 hz).1
    have hi := h.e j _ _ (at_some hj) hz
    exact ⟨hi.o.lt, fun k hk' => (own_under hi.n k hk').2⟩
  refine ⟨ho, ?_, hwf, ?_, ?_, h.rl, h.rm, fun a ha h0 => .inl (h.rd a ha h0), h.rz, .inl h.wfb, .inl h.wm, ?_, ?_, ?_, ?_, ?_, h.b⟩
  · show MapF w' mp .string nm (mpF s.ps (M ++ [y]))
    rw [mf]
    obtain ⟨xs, clk, q, _⟩ := h.m
    exact h.m.block (hf mp (ty mp (.inl ⟨xs, clk, q⟩)) (.inl h.wm))
  · show (M ++ [y]).length = (s.is ++ [_]).length
    rw [List.length_append, List.length_append, h.ml]; rfl
  · by_cases h0 : R = []
    · exact .inl (by rw [h0])
    · exact h.r.block hs fun a ha hl' => hf _ (nf _ (h.rd a ha h0)) (.inr (h.rd a ha h0))
  · intro j x z hx' hz
    rcases get j z hz with ⟨hj, hz⟩ | ⟨rfl, rfl⟩
    · have hx2 : s.is[j]? = some x := by
        have : (s.is ++ [_])[j]? = some x := hx'
        rwa [List.getElem?_append_left (by rw [← h.ml]; exact hj)] at this
      have hi := h.e j x z hx2 hz
      refine ⟨hi.o.block (hf _ (ty _ (.inr ⟨_, _, _, hi.o, by decide⟩)) (.inl hi.wg)), .inl hi.wg, ?_, hi.dl, hi.dm, fun a ha h0 => .inl (hi.db a ha h0), ?_, fun k hk' => .inl (hi.nw k hk')⟩
      · by_cases h0 : x.d = []
        · exact .inl h0
        · exact hi.d.block hs fun a ha hl' => hf _ (nf _ (hi.db a ha h0)) (.inr (hi.db a ha h0))
      · refine ⟨hi.n.1, hi.n.2.imp id fun ⟨g, c, cur, h1, h2, h3⟩ => ⟨g, c, cur, h1, h2, ?_⟩⟩
        rw [hf g (ty g (.inr ⟨_, _, _, h3.1, by decide⟩)) (.inl (hi.nw g (by rw [h1]; rfl)))]
        exact h3
    · have hx2 : (⟨k, m, F + S * (s.is.length : Int), 0, d, t, 0, 0, []⟩ : Ino) = x := by
        have : (s.is ++ [_])[M.length]? = some x := hx'
        rw [h.ml, List.getElem?_append_right (Nat.le_refl _), Nat.sub_self] at this
        exact Option.some.inj this
      subst hx2
      exact ⟨hx, .inr rfl, hd, hl, hm, fun a ha h0 => .inr (hdb a ha h0), by rw [hn]; exact ⟨rfl, .inl ⟨rfl, rfl⟩⟩, fun k hk' => by rw [hn] at hk'; cases hk'⟩
  · intro i j z z' hz hz' he
    rcases get i z hz with ⟨_, h1⟩ | ⟨e1, e1'⟩
    · rcases get j z' hz' with ⟨_, h2⟩ | ⟨e2, e2'⟩
      · exact h.inj _ _ _ _ h1 h2 he
      · have := (glt _ _ h1).1; rw [e2'] at he; omega
    · rcases get j z' hz' with ⟨_, h2⟩ | ⟨e2, e2'⟩
      · have := (glt _ _ h2).1; rw [e1'] at he; omega
      · rw [e1, e2]
  · intro i j z z' q hz hz' h1 h2
    rcases get i z hz with ⟨_, k1⟩ | ⟨e1, e1'⟩
    · rcases get j z' hz' with ⟨_, k2⟩ | ⟨e2, e2'⟩
      · exact h.sep _ _ _ _ q k1 k2 h1 h2
      · rw [e2', hn] at h2; cases h2
    · rw [e1', hn] at h1; cases h1
  · intro q h1 h2
    rcases h1 with h1 | rfl
    · rcases h2 with h2 | h2
      · exact h.wd q h1 h2
      · have := h.lt q (.inl h1); omega
    · rcases h2 with h2 | h2
      · have := h.lt _ (.inr h2); omega
      · exact h2.2.2 rfl
  · intro q hq
    rcases hq with (hq | rfl) | (hq | hq)
    · exact Nat.lt_of_lt_of_le (h.lt q (.inl hq)) hs
    · exact hx.lt
    · exact Nat.lt_of_lt_of_le (h.lt q (.inr hq)) hs
    · exact hq.2.1
end
end Go.Proofs.YthcbiohmghaobaaDoor.Vfs
/-
  Layer 5: the walk of the reference's WriteAll.
-/
namespace Go.Proofs.YthcbiohmghaobaaDoor
open Go.RowKit

theorem Only.comp {S : Nat → Prop} {a b c : World} (h : Only S a b) (k : Only (Grow S a b) b c) : Only S a c :=
  ⟨k.os.trans h.os, k.tape.trans h.tape, k.output.trans h.output, Nat.le_trans h.size k.size, fun i hi hj => (k.block i (Nat.lt_of_lt_of_le hi h.size) (by rintro (h | h); exact hj h; omega)).trans (h.block i hi hj)⟩
theorem grow_grow {S : Nat → Prop} {a b c : World} (h1 : a.heap.size ≤ b.heap.size) (h2 : b.heap.size ≤ c.heap.size) : ∀ k, Grow (Grow S a b) b c k → Grow S a c k := by
  rintro k ((h | h) | h)
  · exact .inl h
  · exact .inr ⟨h.1, by omega⟩
  · exact .inr ⟨by omega, h.2⟩
theorem grow_lt {S : Nat → Prop} {a b : World} (hs : ∀ k, S k → k < a.heap.size) (h : a.heap.size ≤ b.heap.size) : ∀ k, Grow S a b k → k < b.heap.size := by
  rintro k (h' | h')
  · have := hs k h'; omega
  · exact h'.2

end Go.Proofs.YthcbiohmghaobaaDoor
/-
  Layer 19: a file system with all of its memory in a set. Nothing of the program's text.
-/
namespace Go.Proofs.YthcbiohmghaobaaDoor.Vfs
open Go.RowKit Go.MapKept Go.Proofs.YthcbiohmghaobaaDoor.Pnm

/-- the file system at block f, all of its memory in T -/
def FsS (N : Nat) (F S : Int) (R : List Int) (T : Nat → Prop) (w : World) (f : Nat) (s : St) : Prop :=
  ∃ W D mp nm ra rc M, FsP N F S R W D w f s mp nm ra rc M ∧ (∀ k, W k ∨ D k → T k) ∧ ∀ k, T k → k < w.heap.size
section
variable {N : Nat} {F S : Int} {R : List Int} {T U : Nat → Prop} {w w' : World} {f : Nat} {s : St}
theorem FsS.only (h : FsS N F S R T w f s) (ho : Only U w w') (hd : ∀ k, T k → ¬ U k) : FsS N F S R T w' f s := by
  obtain ⟨W, D, mp, nm, ra, rc, M, h1, h2, h3⟩ := h
  exact ⟨W, D, mp, nm, ra, rc, M, h1.keep ho.size fun k hk hw => ho.block k hk (hd k (h2 k hw)), h2, fun k hk => Nat.lt_of_lt_of_le (h3 k hk) ho.size⟩
theorem FsS.below (h : FsS N F S R T w f s) (hb : Below w.heap.size w w') : FsS N F S R T w' f s := h.only (U := fun _ => False) (Only.of_below hb (Nat.le_refl _)) fun _ _ c => c
theorem FsS.wide (h : FsS N F S R T w f s) (hT : ∀ k, T k → U k) (hl : ∀ k, U k → k < w.heap.size) : FsS N F S R U w f s := by
  obtain ⟨W, D, mp, nm, ra, rc, M, h1, h2, h3⟩ := h
  exact ⟨W, D, mp, nm, ra, rc, M, h1, fun k hk => hT k (h2 k hk), hl⟩
theorem FsS.lt (h : FsS N F S R T w f s) : ∀ k, T k → k < w.heap.size := by
  obtain ⟨W, D, mp, nm, ra, rc, M, h1, h2, h3⟩ := h
  exact h3
theorem FsS.me (h : FsS N F S R T w f s) : T f := by
  obtain ⟨W, D, mp, nm, ra, rc, M, h1, h2, h3⟩ := h
  exact h2 f (.inl h1.wfb)
theorem FsS.wf (h : FsS N F S R T w f s) : Wf N s := by
  obtain ⟨W, D, mp, nm, ra, rc, M, h1, h2, h3⟩ := h
  exact h1.wf
theorem FsS.b (h : FsS N F S R T w f s) : 1 ≤ F ∧ F ≤ 1000000 ∧ 1 ≤ S ∧ S ≤ 1000000 := by
  obtain ⟨W, D, mp, nm, ra, rc, M, h1, h2, h3⟩ := h
  exact h1.b
/-- where nothing turned -/
theorem FsS.stay (h : FsS N F S R T w f s) (hb : Below w.heap.size w w') : Only T w w' ∧ FsS N F S R (Grow T w w') w' f s :=
  ⟨Only.of_below hb (Nat.le_refl _), (h.below hb).wide (fun _ hk => .inl hk) (grow_lt h.lt hb.size)⟩
end
/-- how many paths a file has -/
def cnt (ps : List (ByteArray × Nat)) (i : Nat) : Nat := (ps.filter fun q => q.2 == i).length
theorem cnt_snoc (ps : List (ByteArray × Nat)) (p : ByteArray) (i j : Nat) : cnt (ps ++ [(p, i)]) j = cnt ps j + if i = j then 1 else 0 := by
  unfold cnt
  rw [List.filter_append, List.length_append]
  by_cases h : i = j
  · simp [h]
  · simp [h]
theorem cnt_le (ps : List (ByteArray × Nat)) (i : Nat) : cnt ps i ≤ ps.length := List.length_filter_le _ _
/-- the number of links is the number of paths -/
def Lk (s : St) : Prop := ∀ (i : Nat) (x : Ino), s.is[i]? = some x → x.l = (cnt s.ps i : Int)
/-- paths are different -/
def Df (s : St) : Prop := (s.ps.map (·.1)).Nodup
theorem fnd_some {ps : List (ByteArray × Nat)} {p : ByteArray} : p ∈ ps.map (·.1) → fnd ps p ≠ none := by
  induction ps with
  | nil => intro h; cases h
  | cons x ps ih =>
    intro h
    unfold fnd
    by_cases hx : x.1 = p
    · rw [if_pos hx]; exact fun h => by cases h
    · rw [if_neg hx]
      rcases List.mem_cons.1 h with e | e
      · exact absurd e.symm hx
      · exact ih e
theorem fnd_none {ps : List (ByteArray × Nat)} {p : ByteArray} (h : fnd ps p = none) : p ∉ ps.map (·.1) := fun c => fnd_some c h
theorem fnd_of {ps : List (ByteArray × Nat)} (hn : (ps.map (·.1)).Nodup) {p : ByteArray} {i : Nat} (h : (p, i) ∈ ps) : fnd ps p = some i := by
  induction ps with
  | nil => cases h
  | cons x ps ih =>
    unfold fnd
    rw [List.map_cons, List.nodup_cons] at hn
    rcases List.mem_cons.1 h with rfl | h
    · rw [if_pos rfl]
    · rw [if_neg (fun c => hn.1 (by rw [c]; exact List.mem_map_of_mem (f := (·.1)) h))]
      exact ih hn.2 h

theorem putS_ps (s : St) (p : ByteArray) (i : Nat) : (putS s p i).ps = s.ps ++ [(p, i)] := rfl
theorem putS_len (s : St) (p : ByteArray) (i : Nat) : (putS s p i).is.length = s.is.length := by
  unfold putS namI addP lnkI
  rw [setI_len]
  exact setI_len ..
/-- all but names and links stays -/
theorem putS_at {s : St} {p : ByteArray} {i j k : Nat} (hi : i < s.is.length) (hj : fnd s.ps (parB p) = some j) (hjl : j < s.is.length) (hk : k < s.is.length) :
    (putS s p i).at k = { s.at k with l := (s.at k).l + (if i = k then 1 else 0), ns := (s.at k).ns ++ (if j = k then [basB p] else []) } := by
  unfold putS
  rw [hj]
  have e1 : (addP (lnkI s i) p i).at k = (lnkI s i).at k := rfl
  have e2 : (lnkI s i).at k = { s.at k with l := (s.at k).l + (if i = k then 1 else 0) } := by
    unfold lnkI
    by_cases c : i = k
    · subst c; rw [at_set hi, if_pos rfl]
    · rw [at_ne c, if_neg c, Int.add_zero]
  unfold namI
  show (setI _ j _).at k = _
  by_cases c : j = k
  · subst c
    rw [at_set (by show j < (lnkI s i).is.length; unfold lnkI; rw [setI_len]; exact hjl)]
    show ({ (addP (lnkI s i) p i).at j with ns := ((addP (lnkI s i) p i).at j).ns ++ [basB p] } : Ino) = _
    rw [e1, e2, if_pos rfl]
  · rw [at_ne c, e1, e2, if_neg c, List.append_nil]
theorem putS_lk {s : St} {p : ByteArray} {i j : Nat} (h : Lk s) (hi : i < s.is.length) (hj : fnd s.ps (parB p) = some j) (hjl : j < s.is.length) : Lk (putS s p i) := fun k x hx => by
  have hk : k < s.is.length := by rw [← putS_len s p i]; exact (List.getElem?_eq_some_iff.1 hx).1
  obtain rfl : (putS s p i).at k = x := by
    have := at_some (s := putS s p i) (i := k) (by rw [putS_len]; exact hk)
    rw [hx] at this; exact (Option.some.inj this).symm
  rw [putS_at hi hj hjl hk, putS_ps, cnt_snoc]
  have := h k _ (at_some hk)
  show (s.at k).l + _ = _
  rw [this]
  by_cases c : i = k
  · rw [if_pos c, if_pos c]; omega
  · rw [if_neg c, if_neg c]; omega
theorem putS_df {s : St} {p : ByteArray} {i : Nat} (h : Df s) (hp : fnd s.ps p = none) : Df (putS s p i) := by
  unfold Df
  rw [putS_ps, List.map_append, List.nodup_append]
  refine ⟨h, by simp, fun a ha b hb => ?_⟩
  obtain rfl : b = p := by simpa using hb
  exact fun e => fnd_none hp (by rw [← e]; exact ha)
/-- what put leaves is as it must be -/
theorem putS_wf {N : Nat} {s : St} {p : ByteArray} {i j : Nat} (h : Wf N s) (hi : i < s.is.length) (hj : fnd s.ps (parB p) = some j) (hN : s.ps.length < N) (hp : p.size ≤ 65536) (hl : (s.at i).l ≤ N) :
    Wf N (lnkI s i) ∧ Wf N (addP (lnkI s i) p i) ∧ Wf N (putS s p i) := by
  have hjl := h.lt hj
  have w1 : Wf N (lnkI s i) := h.set (h.ns (s.at i) (at_mem hi)) (by have := h.l (s.at i) (at_mem hi); exact ⟨by show 0 ≤ (s.at i).l + 1; omega, by show (s.at i).l + 1 ≤ _; omega⟩) (h.z (s.at i) (at_mem hi))
  have hi1 : i < (lnkI s i).is.length := by unfold lnkI; rw [setI_len]; exact hi
  have w2 : Wf N (addP (lnkI s i) p i) := w1.add hi1 hN hp
  have hj2 : j < (addP (lnkI s i) p i).is.length := by show j < (lnkI s i).is.length; unfold lnkI; rw [setI_len]; exact hjl
  have m2 := at_mem hj2
  refine ⟨w1, w2, ?_⟩
  unfold putS
  rw [hj]
  refine w2.set ?_ (w2.l ((addP (lnkI s i) p i).at j) m2) (w2.z ((addP (lnkI s i) p i).at j) m2)
  show (_ ++ [_] : List ByteArray).length ≤ (s.ps ++ [_]).length
  rw [List.length_append, List.length_append]
  have e : ((lnkI s i).at j).ns.length ≤ s.ps.length := w1.ns _ (at_mem (by unfold lnkI; rw [setI_len]; exact hjl))
  exact Nat.add_le_add_right e 1
end Go.Proofs.YthcbiohmghaobaaDoor.Vfs
/-
  Slices of members in a drawn region: literals, append; bytes appended there beside other rows; a cell stored. Nothing of the program.
-/
namespace Go.Proofs.YthcbiohmghaobaaDoor.Flt
open Go.RowKit
section
variable {P : Program} {w : World} {ops : Array Oper} {o : Oper} {a : Act} {Q : Exit → Act → World → Prop} {K : Act → World → Prop} {E : Prop}

theorem step_lit_k0 (hgd : o.guard = none) (t e : TypeId) (k : IntKind) (ho : o.op = .buildSlice t 0 #[]) (ht : P.underlying t = some (.slice e)) (he : (P.info? e).map (·.size) = some 1)
    (h : ∀ w', w'.ownsRow w.heap.size e 1 (.slice (some ⟨w.heap.size, 0, none⟩) 0 0) 0 (([] : List Int).map (.int k)) → Below w.heap.size w w' → K (a.put o.dst (.slice (some ⟨w.heap.size, 0, none⟩) 0 0)) w') :
    if Region.wanted o (yielded ops a.tmps) = true then Oper.wp P o a w K Q else E := by
  have hw : Region.wanted o (yielded ops a.tmps) = true := by simp [Region.wanted, hgd]
  rw [if_pos hw]
  cases hq : P.info? e with
  | none => simp [hq] at he
  | some i =>
    have hrun : (Instr.buildSlice t 0 #[]).run P w = .ok (.slice (some ⟨w.heap.size, 0, none⟩) 0 0) (w.alloc (.cells #[] e)) := by
      simp [Instr.buildSlice, run_underlying ht, sizeOf, typeInfo, hq, Instr.fill, newRow]
      rw [show Array.range 0 = #[] by decide, Array.map_empty]
    unfold Oper.wp
    simp [execOp, ho, hrun, Result.andThen]
    exact h _ ⟨rfl, .inr ⟨w.heap.size, 0, #[], rfl, Nat.le_refl _, heap_alloc_new w _, Nat.le_refl _, Nat.zero_le _, rfl, rfl⟩⟩ ((Below.refl _ _).alloc (Nat.le_refl _) _)
theorem step_append_kk (hgd : o.guard = none) (s x : Operand) (t : TypeId) (ho : o.op = .call { callee := .builtin .append, args := #[s, x], argTypes := #[t, t] })
    (base : Nat) (e : TypeId) (k : IntKind) (B : Nat) (hT : P.underlying t = some (.slice e)) (hI : ElemT P e k B)
    (v : Value) (n : Nat) (zs : List Int) (hs : a.eval s = v) (hown : w.ownsRow base e 1 v n (zs.map (.int k)))
    (b : Option Addr) (m c : Nat) (ys : List Int) (hx : a.eval x = .slice b m c) (hy : InK k w b ys) (hl : ys.length = m) (h63 : n + m ≤ maxLen) (h47 : (n + m) * B ≤ 140737488355328) (hbase : base ≤ w.heap.size)
    (h : ∀ v' w', w'.ownsRow base e 1 v' (n + m) ((zs ++ ys).map (.int k)) → Below base w w' → (∀ k, k < w.heap.size → some k ≠ v.ownBlock → w'.heap[k]? = w.heap[k]?) → K (a.put o.dst v') w') :
    if Region.wanted o (yielded ops a.tmps) = true then Oper.wp P o a w K Q else E := by
  have hw : Region.wanted o (yielded ops a.tmps) = true := by simp [Region.wanted, hgd]
  rw [if_pos hw]
  obtain ⟨i0, h1, h2, h3, h4⟩ := hI
  rcases hy with hy | ⟨b', off, rfl, _, hy⟩
  · subst hy
    obtain rfl : m = 0 := hl.symm
    have hr := run_append_empty (P := P) w base t o.type e i0 1 hT h1 v n _ hown b c
    unfold Oper.wp
    simp [execOp, ho, resolve, invoke, builtin, hs, hx, hr, Result.andThen]
    exact h _ _ (by simpa using hown) (Below.refl _ _) (fun _ _ _ => rfl)
  · obtain ⟨v', w', hr, k1, k2, _, _⟩ := run_append_own_at (P := P) w base t o.type e i0 (.int k 0) 1 B hT h1 h2 h3 h4 rfl (by decide) v n _ hown ⟨b', off, none⟩ m c (ys.map (.int k)) (by rw [List.length_map, hl, Nat.mul_one]) (newsK hy) (one_map _ _) h63 h47 hbase
    unfold Oper.wp
    simp [execOp, ho, resolve, invoke, builtin, hs, hx, hr, Result.andThen]
    exact h _ _ (by rw [List.map_append]; exact k1) ((Below.refl _ _).grown k2 hbase (own_block hown)) (fun k hk hr => k2.block k hk hr)
theorem step_store_one (hgd : o.guard = none) (T : TypeId) (x y : Operand) (ho : o.op = .store T x y) (g i : Nat) (hx : a.eval x = .pointer (some ⟨g, i, none⟩))
    (v : Value) (hy : a.eval y = v) (h1 : v.oneCell' = true) (hs : (P.info? T).map (·.size) = some 1) (T' : TypeId) (vs : List Value) (hg : ObjAt w g T' vs) (hi : i < vs.length)
    (k : ∀ w', ObjAt w' g T' (vs.set i v) → TurnB w w' g → K (a.put o.dst undef) w') :
    if Region.wanted o (yielded ops a.tmps) = true then Oper.wp P o a w K Q else E := by
  have hw : Region.wanted o (yielded ops a.tmps) = true := by simp [Region.wanted, hgd]
  rw [if_pos hw]
  have hc : w.cell? ⟨g, i, none⟩ = some vs[i] := hg.get i (List.getElem?_eq_getElem hi)
  have hf := hg.frozen i
  have hv : v.cells = #[v] := by cases v <;> first | rfl | (simp [Value.oneCell'] at h1)
  cases hq : P.info? T with
  | none => simp [hq] at hs
  | some j =>
    have hj : j.size = 1 := by simpa [hq] using hs
    have ha : (⟨g, i, none⟩ : Addr).add 0 = ⟨g, i, none⟩ := add_plain' g i 0
    have hrun : (storeVar T ⟨g, i, none⟩ v).run P w = .ok () (w.setCell ⟨g, i, none⟩ v) := by
      simp [storeVar, sizeOf, typeInfo, hq, hj, hv, storeCells, run_store P w _ v _ h1, ha, hc, hf]
    unfold Oper.wp execOp
    simp only [ho, hx, hy, Instr.storeAt, Instr.sureAddr, Sem.run_bind, Sem.run_pure, Result.andThen_ok, hrun]
    exact k _ (hg.set i v) ⟨fun hB => (Below.refl _ _).setCell hB v, fun hk => Below.heap_setCell _ _ _ _ hk, by simp [World.setCell]⟩
theorem run_load_part {T : TypeId} {n : Nat} (hT : ObjT P T n) (b off : Nat) (vs : List Value) (hl : vs.length = n) (hr : ∀ j u, vs[j]? = some u → w.cell? ⟨b, off + j, none⟩ = some u) :
    (loadVar T ⟨b, off, none⟩).run P w = .ok (.agg vs.toArray) w := by
  obtain ⟨⟨fs, h1⟩, hs⟩ := hT
  have hll := run_loadCells_list (P := P) w ⟨b, off, none⟩ vs (fun j u hj => by rw [add_plain']; exact hr j u hj)
  rw [hl] at hll
  cases hq : P.info? T with
  | none => simp [hq] at hs
  | some i =>
    have hs : i.size = n := by simpa [hq] using hs
    have hagg : (isAgg T).run P w = .ok true w := by
      unfold isAgg
      rw [Sem.run_bind, run_underlying h1 w]
      simp
    simp [loadVar, Sem.run_bind, hagg, sizeOf, typeInfo, hq, hs, hll]
theorem wpList_load_part {rest : List Oper} (hgd : o.guard = none) (T : TypeId) (n : Nat) (hT : ObjT P T n) (x : Operand) (ho : o.op = .load T x) (b off : Nat) (hx : a.eval x = .pointer (some ⟨b, off, none⟩)) (vs : List Value) (hl : vs.length = n)
    (hr : ∀ j u, vs[j]? = some u → w.cell? ⟨b, off + j, none⟩ = some u) (K' : wpList P ops Q rest (a.put o.dst (.agg vs.toArray)) w) : wpList P ops Q (o :: rest) a w := by
  refine wpList_plain hgd fun K hK => ?_
  have hrun := run_load_part hT b off vs hl hr
  unfold Oper.wp execOp
  simp only [ho, hx, Instr.loadAt, Instr.sureAddr, Sem.run_bind, Sem.run_pure, Result.andThen_ok, hrun]
  exact hK _ _ K'
theorem step_load_run (hgd : o.guard = none) (T : TypeId) (x : Operand) (ho : o.op = .load T x) (p : Addr) (hx : a.eval x = .pointer (some p)) (v : Value) (hr : (loadVar T p).run P w = .ok v w) (k : K (a.put o.dst v) w) :
    if Region.wanted o (yielded ops a.tmps) = true then Oper.wp P o a w K Q else E := by
  have hw : Region.wanted o (yielded ops a.tmps) = true := by simp [Region.wanted, hgd]
  rw [if_pos hw]
  unfold Oper.wp execOp
  simp only [ho, hx, Instr.loadAt, Instr.sureAddr, Sem.run_bind, Sem.run_pure, Result.andThen_ok, hr]
  exact k
end
theorem own_other {w w' : World} {base base' n n' size size' : Nat} {e e' : TypeId} {v v' : Value} {xs xs' : List Value} (h : w.ownsRow base e size v n xs) (ho : w.ownsRow base' e' size' v' n' xs') (hne : e ≠ e')
    (hk : ∀ k, k < w.heap.size → some k ≠ v'.ownBlock → w'.heap[k]? = w.heap[k]?) : w'.ownsRow base e size v n xs := by
  obtain ⟨h1, h2⟩ := h
  refine ⟨h1, h2.imp id ?_⟩
  rintro ⟨b, cap, cur', hv, hb, hh, r⟩
  have hlt : b < w.heap.size := (Array.getElem?_eq_some_iff.1 hh).1
  refine ⟨b, cap, cur', hv, hb, (hk b hlt ?_).trans hh, r⟩
  rcases ho.2 with ⟨e1, _⟩ | ⟨g, c, cur, e1, _, hg, _⟩
  · subst e1; intro h; cases h
  · subst e1
    intro h
    have h : some b = some g := h
    injection h with h
    subst h
    rw [hh] at hg
    injection hg with hg
    injection hg with _ hg _
    exact hne hg
theorem own_lower {w : World} {base base' n size : Nat} {e : TypeId} {v : Value} {xs : List Value} (h : w.ownsRow base e size v n xs) (hb : base' ≤ base) : w.ownsRow base' e size v n xs := by
  obtain ⟨h1, h2⟩ := h
  refine ⟨h1, ?_⟩
  rcases h2 with h2 | ⟨g, cap, cur, hv, hg, r⟩
  · exact Or.inl h2
  · exact Or.inr ⟨g, cap, cur, hv, Nat.le_trans hb hg, r⟩
end Go.Proofs.YthcbiohmghaobaaDoor.Flt
/-
  Rows of structs of one width: laid, read, grown, stored into. Nothing of the program.
-/
namespace Go.Proofs.YthcbiohmghaobaaDoor
open Go.RowKit

section
variable {α : Type} {V : α → List Value} {k : Nat}
/-- the cells of structs -/
def sCl (V : α → List Value) (ys : List α) : List Value := ys.flatMap V
theorem sCl_cons (V : α → List Value) (y : α) (ys : List α) : sCl V (y :: ys) = V y ++ sCl V ys := by unfold sCl; rw [List.flatMap_cons]
theorem sCl_snoc (V : α → List Value) (ys : List α) (y : α) : sCl V (ys ++ [y]) = sCl V ys ++ V y := by unfold sCl; rw [List.flatMap_append]; simp
theorem sCl_len (hV : ∀ y, (V y).length = k) : ∀ ys : List α, (sCl V ys).length = ys.length * k
  | [] => by simp [sCl]
  | y :: ys => by rw [sCl_cons, List.length_append, sCl_len hV ys, hV, List.length_cons, Nat.add_mul, Nat.one_mul, Nat.add_comm]
theorem sCl_at (hV : ∀ y, (V y).length = k) : ∀ (ys : List α) (i : Nat) (y : α), ys[i]? = some y → ∀ j v, (V y)[j]? = some v → (sCl V ys)[i * k + j]? = some v
  | [], i, y, h, _, _, _ => by simp at h
  | q :: ys, 0, y, h, j, v, hv => by
    simp at h; subst h
    rw [sCl_cons, Nat.zero_mul, Nat.zero_add, List.getElem?_append_left (List.getElem?_eq_some_iff.mp hv).1]
    exact hv
  | q :: ys, i + 1, y, h, j, v, hv => by
    have := sCl_at hV ys i y (by simpa using h) j v hv
    rw [sCl_cons, Nat.add_mul, Nat.one_mul, List.getElem?_append_right (by rw [hV]; omega), hV, ← this]
    congr 1; omega
theorem sCl_set (hV : ∀ y, (V y).length = k) {vs : List Value} {p : Nat} {u y : α} (hp : p + vs.length ≤ k) (hu : V u = (V y).take p ++ vs ++ (V y).drop (p + vs.length)) :
    ∀ (ys : List α) (i : Nat), ys[i]? = some y → (sCl V ys).take (i * k + p) ++ vs ++ (sCl V ys).drop (i * k + p + vs.length) = sCl V (ys.set i u)
  | [], i, h => by simp at h
  | q :: ys, 0, h => by
    simp at h; subst h
    have hl : p + vs.length ≤ (V q).length := by rw [hV]; exact hp
    rw [List.set_cons_zero, sCl_cons, sCl_cons, hu, Nat.zero_mul, Nat.zero_add, List.take_append_of_le_length (by omega), List.drop_append_of_le_length hl]
    simp
  | q :: ys, i + 1, h => by
    have ih := sCl_set hV hp hu ys i (by simpa using h)
    rw [List.set_cons_succ, sCl_cons, sCl_cons, ← ih, show (i + 1) * k + p = (V q).length + (i * k + p) by rw [hV, Nat.add_mul]; omega, List.take_append, Nat.add_assoc (V q).length, List.drop_append]
    rw [List.take_of_length_le (Nat.le_add_right _ _), List.drop_eq_nil_of_le (Nat.le_add_right _ _), Nat.add_sub_cancel_left, Nat.add_sub_cancel_left]
    simp

/-- structs lie at block b from off on -/
def SAt (V : α → List Value) (k : Nat) (w : World) (b off : Nat) (ys : List α) : Prop := ∀ i y, ys[i]? = some y → ∀ j v, (V y)[j]? = some v → w.cell? ⟨b, off + i * k + j, none⟩ = some v
theorem SAt.block {w w' : World} {b off : Nat} {ys : List α} (h : SAt V k w b off ys) (e : w'.heap[b]? = w.heap[b]?) : SAt V k w' b off ys := fun i y hi j v hv => by
  have := h i y hi j v hv
  unfold World.cell? at this ⊢
  rw [e]; exact this
/-- structs in a slice -/
def SIn (V : α → List Value) (k : Nat) (w : World) (a : Option Addr) (ys : List α) : Prop := ys = [] ∨ ∃ b, a = some ⟨b, 0, none⟩ ∧ b < w.heap.size ∧ SAt V k w b 0 ys
theorem SIn.below {w w' : World} {a : Option Addr} {ys : List α} (h : SIn V k w a ys) (hb : Below w.heap.size w w') : SIn V k w' a ys := by
  rcases h with h | ⟨b, h1, h2, h3⟩
  · exact .inl h
  · exact .inr ⟨b, h1, Nat.lt_of_lt_of_le h2 hb.size, h3.block (hb.block b h2)⟩
theorem SIn.get {w : World} {a : Option Addr} {ys : List α} (h : SIn V k w a ys) {i : Nat} {y : α} (hi : ys[i]? = some y) : ∃ b, a = some ⟨b, 0, none⟩ ∧ b < w.heap.size ∧ ∀ j v, (V y)[j]? = some v → w.cell? ⟨b, i * k + j, none⟩ = some v := by
  rcases h with rfl | ⟨b, h1, h2, h3⟩
  · simp at hi
  · exact ⟨b, h1, h2, fun j v hv => by have := h3 i y hi j v hv; rwa [Nat.zero_add] at this⟩
/-- a slice of the call's own -/
theorem SIn.of_own (hV : ∀ y, (V y).length = k) (h0 : 0 < k) {w : World} {base n : Nat} {e : TypeId} {v : Value} {ys : List α} (h : w.ownsRow base e k v n (sCl V ys)) :
    ∃ a c, v = .slice a n c ∧ ys.length = n ∧ n ≤ c ∧ c ≤ maxLen ∧ SIn V k w a ys ∧ (∀ x, a = some x → base ≤ x.block ∧ x.block < w.heap.size ∧ v.ownBlock = some x.block) := by
  have hl := h.1
  rw [sCl_len hV] at hl
  have hn : ys.length = n := Nat.eq_of_mul_eq_mul_right h0 hl
  rcases h.2 with ⟨hv, h1⟩ | ⟨g, cap, cur, hv, hb, hh, hc, hm, hs, ht⟩
  · subst h1
    exact ⟨none, 0, hv, hn, Nat.le_refl _, Nat.zero_le _, .inl (List.length_eq_zero_iff.1 hn), fun x hx => by cases hx⟩
  · have hlt : g < w.heap.size := (Array.getElem?_eq_some_iff.1 hh).1
    refine ⟨some ⟨g, 0, none⟩, cap, hv, hn, hc, hm, .inr ⟨g, rfl, hlt, fun i y hi j u hu => ?_⟩, fun x hx => by cases hx; exact ⟨hb, hlt, by rw [hv]; rfl⟩⟩
    have hat := sCl_at hV ys i y hi j u hu
    have hlt2 : i * k + j < n * k := by rw [← hl, ← sCl_len hV]; exact (List.getElem?_eq_some_iff.mp hat).1
    rw [← ht, List.getElem?_take, if_pos hlt2] at hat
    rw [Nat.zero_add, World.cell?, hh]
    simpa using hat
theorem own_keepS {w w' : World} {base n size : Nat} {e : TypeId} {v : Value} {xs : List Value} (h : w.ownsRow base e size v n xs) (e' : ∀ g, v.ownBlock = some g → g < w.heap.size → w'.heap[g]? = w.heap[g]?) : w'.ownsRow base e size v n xs := by
  obtain ⟨h1, h2⟩ := h
  refine ⟨h1, h2.imp id ?_⟩
  rintro ⟨g, cap, cur, hv, hb, hh, r⟩
  exact ⟨g, cap, cur, hv, hb, (e' g (by rw [hv]; rfl) (Array.getElem?_eq_some_iff.1 hh).1).trans hh, r⟩

variable {P : Program} {w : World} {ops : Array Oper} {rest : List Oper} {o : Oper} {a : Act} {Q : Exit → Act → World → Prop}
/-- one struct appended to a row of the call's own; it lies in block b alone -/
theorem wpList_append_s (hgd : o.guard = none) (s x : Operand) (t : TypeId) (ho : o.op = .call { callee := .builtin .append, args := #[s, x], argTypes := #[t, t] })
    (e : TypeId) (base : Nat) (i0 : TypeInfo) (z : Value) (B : Nat) (hT : P.underlying t = some (.slice e)) (hI : Hid (P.info? e = some i0 ∧ i0.zero = some z ∧ i0.size = k ∧ i0.bytes = B)) (hz : z.cells.size = k) (h0 : 0 < k) (hB : B ≤ 1000)
    (v : Value) (n : Nat) (ys : List α) (hs : a.eval s = v) (hown : w.ownsRow base e k v n (sCl V ys))
    (b c : Nat) (T : TypeId) (y : α) (hV : (V y).length = k) (h1 : ∀ u ∈ V y, u.oneCell' = true) (hx : a.eval x = .slice (some ⟨b, 0, none⟩) 1 c) (hob : ObjAt w b T (V y)) (h47 : n ≤ 1000000) (hbase : base ≤ w.heap.size)
    (K : ∀ v' w', w'.ownsRow base e k v' (n + 1) (sCl V (ys ++ [y])) → Below base w w' → (∀ g, g < w.heap.size → some g ≠ v.ownBlock → w'.heap[g]? = w.heap[g]?) → (v'.ownBlock = v.ownBlock ∨ v'.ownBlock = some w.heap.size) → wpList P ops Q rest (a.put o.dst v') w') : wpList P ops Q (o :: rest) a w := by
  refine wpList_append_obj hgd s x t ho base e i0 z k B hT hI hz h0 v n _ hs hown b c T (V y) hx hV hob h1 (by unfold maxLen; omega) ?_ hbase fun v' w' k1 k2 k3 k4 => K v' w' (by rw [sCl_snoc]; exact k1) k4 (fun g hg hr => k2.block g hg hr) k3
  calc (n + 1) * B ≤ 1000001 * 1000 := Nat.mul_le_mul (by omega) hB
    _ ≤ 140737488355328 := by decide
/-- a part of a struct of a row of the call's own, stored -/
theorem run_store_s (T : TypeId) (g q : Nat) (vs : List Value) (hs : (P.info? T).map (·.size) = some vs.length) (h1 : ∀ v ∈ vs, v.oneCell' = true)
    (hV : ∀ y : α, (V y).length = k) (h0 : 0 < k) (e : TypeId) (base n c : Nat) (ys : List α) (hown : w.ownsRow base e k (.slice (some ⟨g, 0, none⟩) n c) n (sCl V ys)) (i p : Nat) (z u : α) (hi : ys[i]? = some z) (hq : q = i * k + p) (hpl : p + vs.length ≤ k) (hu : V u = (V z).take p ++ vs ++ (V z).drop (p + vs.length)) :
    ∃ w', (storeVar T ⟨g, q, none⟩ (.agg vs.toArray)).run P w = .ok () w' ∧ w'.ownsRow base e k (.slice (some ⟨g, 0, none⟩) n c) n (sCl V (ys.set i u)) ∧ TurnB w w' g := by
  subst hq
  obtain ⟨k1, k2⟩ := hown
  rcases k2 with ⟨hv, _⟩ | ⟨g', c', cur, hv, hb, hh, hc, hm, hcs, ht⟩
  · cases hv
  injection hv with e1 _ e3
  injection e1 with e1; injection e1 with e1 _
  subst e1; subst e3
  have hl := k1
  rw [sCl_len hV] at hl
  have hn : ys.length = n := Nat.eq_of_mul_eq_mul_right h0 hl
  have hil : i < ys.length := (List.getElem?_eq_some_iff.mp hi).1
  have hik : i * k + k ≤ n * k := by
    have := Nat.mul_le_mul_right k (show i + 1 ≤ n by omega)
    rwa [Nat.add_mul, Nat.one_mul] at this
  have hnc : n * k ≤ cur.size := by rw [hcs]; exact Nat.mul_le_mul_right k hc
  have hst := run_storeCells_at (P := P) g (i * k + p) e vs 0 cur w hh (by omega) h1
  rw [Nat.add_zero] at hst
  have hcur : (cur.toList.take (i * k + p) ++ vs ++ cur.toList.drop (i * k + p + vs.length)).toArray.size = cur.size := by
    rw [List.size_toArray, List.length_append, List.length_append, List.length_take, List.length_drop, Array.length_toList]; omega
  have htk : (cur.toList.take (i * k + p) ++ vs ++ cur.toList.drop (i * k + p + vs.length)).take (n * k) = sCl V (ys.set i u) := by
    rw [← sCl_set hV hpl hu ys i hi, ← ht]
    have hlp : (cur.toList.take (i * k + p)).length = i * k + p := by rw [List.length_take, Array.length_toList]; omega
    rw [List.take_append, List.take_append, hlp, List.length_append, hlp, List.take_take, Nat.min_eq_right (by omega), List.take_of_length_le (show vs.length ≤ n * k - (i * k + p) by omega), List.take_take, Nat.min_eq_left (by omega), List.drop_take]
  cases hq : P.info? T with
  | none => simp [hq] at hs
  | some j =>
    have hj : j.size = vs.length := by simpa [hq] using hs
    have hrun : (storeVar T ⟨g, i * k + p, none⟩ (.agg vs.toArray)).run P w = .ok () (w.setRow g (cur.toList.take (i * k + p) ++ vs ++ cur.toList.drop (i * k + p + vs.length)).toArray) := by
      simp only [storeVar, Sem.run_bind, sizeOf, typeInfo]
      simp [hq, hj, Value.cells]
      simpa using hst
    have hT : Turned w (w.setRow g (cur.toList.take (i * k + p) ++ vs ++ cur.toList.drop (i * k + p + vs.length)).toArray) g := ⟨_, rfl⟩
    refine ⟨_, hrun, ⟨?_, .inr ⟨g, c, _, rfl, hb, setRow_heap w g _ _ e _ hh, hc, hm, hcur.trans hcs, htk⟩⟩, ⟨fun hB => hT.below hB, fun hk => hT.other hk, hT.size⟩⟩
    rw [sCl_len hV, List.length_set, hn]
theorem wpList_store_s (hgd : o.guard = none) (T : TypeId) (x y : Operand) (ho : o.op = .store T x y) (g q : Nat) (hx : a.eval x = .pointer (some ⟨g, q, none⟩))
    (vs : List Value) (hy : a.eval y = .agg vs.toArray) (hs : (P.info? T).map (·.size) = some vs.length) (h1 : ∀ v ∈ vs, v.oneCell' = true)
    (hV : ∀ y : α, (V y).length = k) (h0 : 0 < k) (e : TypeId) (base n c : Nat) (ys : List α) (hown : w.ownsRow base e k (.slice (some ⟨g, 0, none⟩) n c) n (sCl V ys)) (i p : Nat) (z u : α) (hi : ys[i]? = some z) (hq : q = i * k + p) (hpl : p + vs.length ≤ k) (hu : V u = (V z).take p ++ vs ++ (V z).drop (p + vs.length))
    (K : ∀ w', w'.ownsRow base e k (.slice (some ⟨g, 0, none⟩) n c) n (sCl V (ys.set i u)) → TurnB w w' g → wpList P ops Q rest (a.put o.dst undef) w') : wpList P ops Q (o :: rest) a w := by
  refine wpList_plain hgd fun K' hK => ?_
  obtain ⟨w', hrun, k1, k2⟩ := run_store_s (P := P) T g q vs hs h1 hV h0 e base n c ys hown i p z u hi hq hpl hu
  unfold Oper.wp execOp
  simp only [ho, hx, hy, Instr.storeAt, Instr.sureAddr, Sem.run_bind, Sem.run_pure, Result.andThen_ok, hrun]
  exact hK _ _ (K _ k1 k2)
end
end Go.Proofs.YthcbiohmghaobaaDoor
/-
  A literal of one struct of thirteen or fourteen cells, of one slice; appends and stores in a drawn region. Nothing of the program.
-/
namespace Go.Proofs.YthcbiohmghaobaaDoor
open Go.RowKit Go.Proofs.YthcbiohmghaobaaDoor.Flt
section
variable {P : Program} {w : World} {ops : Array Oper} {rest : List Oper} {o : Oper} {a : Act} {Q : Exit → Act → World → Prop} {K : Act → World → Prop} {E : Prop}
theorem run_lit_14 (t e : TypeId) (ht : P.underlying t = some (.slice e)) (z : Value) (hI : (P.info? e).map (fun i => (i.zero, i.size)) = some (some z, 14)) (u0 u1 u2 u3 u4 u5 u6 u7 u8 u9 u10 u11 u12 u13 : Value) :
    (Instr.buildSlice t 1 #[(0, .agg #[u0, u1, u2, u3, u4, u5, u6, u7, u8, u9, u10, u11, u12, u13])]).run P w = .ok (.slice (some ⟨w.heap.size, 0, none⟩) 1 1) (w.alloc (.cells #[u0, u1, u2, u3, u4, u5, u6, u7, u8, u9, u10, u11, u12, u13] e)) := by
  cases hq : P.info? e with
  | none => simp [hq] at hI
  | some i =>
    simp [hq] at hI
    simp [Instr.buildSlice, run_underlying ht, sizeOf, typeInfo, zeroValue, hq, hI.1, hI.2, Instr.fill, newRow, Value.cells]
    rw [show Array.range 14 = #[0, 1, 2, 3, 4, 5, 6, 7, 8, 9, 10, 11, 12, 13] by decide]; simp
theorem run_lit_13 (t e : TypeId) (ht : P.underlying t = some (.slice e)) (z : Value) (hI : (P.info? e).map (fun i => (i.zero, i.size)) = some (some z, 13)) (u0 u1 u2 u3 u4 u5 u6 u7 u8 u9 u10 u11 u12 : Value) :
    (Instr.buildSlice t 1 #[(0, .agg #[u0, u1, u2, u3, u4, u5, u6, u7, u8, u9, u10, u11, u12])]).run P w = .ok (.slice (some ⟨w.heap.size, 0, none⟩) 1 1) (w.alloc (.cells #[u0, u1, u2, u3, u4, u5, u6, u7, u8, u9, u10, u11, u12] e)) := by
  cases hq : P.info? e with
  | none => simp [hq] at hI
  | some i =>
    simp [hq] at hI
    simp [Instr.buildSlice, run_underlying ht, sizeOf, typeInfo, zeroValue, hq, hI.1, hI.2, Instr.fill, newRow, Value.cells]
    rw [show Array.range 13 = #[0, 1, 2, 3, 4, 5, 6, 7, 8, 9, 10, 11, 12] by decide]; simp
theorem run_lit_sl (t e : TypeId) (ht : P.underlying t = some (.slice e)) (z : Value) (hI : (P.info? e).map (fun i => (i.zero, i.size)) = some (some z, 1)) (b : Option Addr) (n c : Nat) :
    (Instr.buildSlice t 1 #[(0, .slice b n c)]).run P w = .ok (.slice (some ⟨w.heap.size, 0, none⟩) 1 1) (w.alloc (.cells #[.slice b n c] e)) := by
  cases hq : P.info? e with
  | none => simp [hq] at hI
  | some i =>
    simp [hq] at hI
    simp [Instr.buildSlice, run_underlying ht, sizeOf, typeInfo, zeroValue, hq, hI.1, hI.2, Instr.fill, newRow, Value.cells]
    rw [show Array.range 1 = #[0] by decide]; simp
/-- a literal of one thing, by its run -/
theorem wpList_lit_run (hgd : o.guard = none) (t e : TypeId) (x : Operand) (ho : o.op = .buildSlice t 1 #[(0, x)]) (v : Value) (hx : a.eval x = v) (vs : List Value)
    (hrun : (Instr.buildSlice t 1 #[(0, v)]).run P w = .ok (.slice (some ⟨w.heap.size, 0, none⟩) 1 1) (w.alloc (.cells vs.toArray e)))
    (k : ∀ w', ObjAt w' w.heap.size e vs → Below w.heap.size w w' → wpList P ops Q rest (a.put o.dst (.slice (some ⟨w.heap.size, 0, none⟩) 1 1)) w') : wpList P ops Q (o :: rest) a w := by
  refine wpList_plain hgd fun K' hK => ?_
  unfold Oper.wp
  simp only [execOp, ho, List.map_toArray, List.map_cons, List.map_nil, hx, hrun, Sem.run_bind, Sem.run_pure, Result.andThen_ok]
  exact hK _ _ (k _ (heap_alloc_new w _) ((Below.refl _ _).alloc (Nat.le_refl _) _))
theorem step_lit_run (hgd : o.guard = none) (t e : TypeId) (x : Operand) (ho : o.op = .buildSlice t 1 #[(0, x)]) (v : Value) (hx : a.eval x = v) (vs : List Value)
    (hrun : (Instr.buildSlice t 1 #[(0, v)]).run P w = .ok (.slice (some ⟨w.heap.size, 0, none⟩) 1 1) (w.alloc (.cells vs.toArray e)))
    (k : ∀ w', ObjAt w' w.heap.size e vs → Below w.heap.size w w' → K (a.put o.dst (.slice (some ⟨w.heap.size, 0, none⟩) 1 1)) w') :
    if Region.wanted o (yielded ops a.tmps) = true then Oper.wp P o a w K Q else E := by
  have hw : Region.wanted o (yielded ops a.tmps) = true := by simp [Region.wanted, hgd]
  rw [if_pos hw]
  unfold Oper.wp
  simp only [execOp, ho, List.map_toArray, List.map_cons, List.map_nil, hx, hrun, Sem.run_bind, Sem.run_pure, Result.andThen_ok]
  exact k _ (heap_alloc_new w _) ((Below.refl _ _).alloc (Nat.le_refl _) _)
/-- one struct appended to a row of the call's own, in a drawn region -/
theorem step_append_s {α : Type} {V : α → List Value} {k : Nat} (hgd : o.guard = none) (s x : Operand) (t : TypeId) (ho : o.op = .call { callee := .builtin .append, args := #[s, x], argTypes := #[t, t] })
    (e : TypeId) (base : Nat) (i0 : TypeInfo) (z : Value) (B : Nat) (hT : P.underlying t = some (.slice e)) (hI : Hid (P.info? e = some i0 ∧ i0.zero = some z ∧ i0.size = k ∧ i0.bytes = B)) (hz : z.cells.size = k) (h0 : 0 < k) (hB : B ≤ 1000)
    (v : Value) (n : Nat) (ys : List α) (hs : a.eval s = v) (hown : w.ownsRow base e k v n (sCl V ys))
    (b c : Nat) (T : TypeId) (y : α) (hV : (V y).length = k) (h1 : ∀ u ∈ V y, u.oneCell' = true) (hx : a.eval x = .slice (some ⟨b, 0, none⟩) 1 c) (hob : ObjAt w b T (V y)) (h47 : n ≤ 1000000) (hbase : base ≤ w.heap.size)
    (h : ∀ v' w', w'.ownsRow base e k v' (n + 1) (sCl V (ys ++ [y])) → Below base w w' → (∀ g, g < w.heap.size → some g ≠ v.ownBlock → w'.heap[g]? = w.heap[g]?) → (v'.ownBlock = v.ownBlock ∨ v'.ownBlock = some w.heap.size) → w.heap.size ≤ w'.heap.size → K (a.put o.dst v') w') :
    if Region.wanted o (yielded ops a.tmps) = true then Oper.wp P o a w K Q else E := by
  have hw : Region.wanted o (yielded ops a.tmps) = true := by simp [Region.wanted, hgd]
  rw [if_pos hw]
  have h47' : (n + 1) * B ≤ 140737488355328 := calc (n + 1) * B ≤ 1000001 * 1000 := Nat.mul_le_mul (by omega) hB
    _ ≤ 140737488355328 := by decide
  obtain ⟨v', w', hr, k1, k2, _, k3⟩ := run_append_own_at (P := P) w base t o.type e i0 z k B hT hI.out.1 hI.out.2.1 hI.out.2.2.1 hI.out.2.2.2 hz h0 v n _ hown ⟨b, 0, none⟩ 1 c (V y) (by omega) (fun j u hj => by rw [add_plain', Nat.zero_add, hob.cell, hj]) h1 (by unfold maxLen; omega) h47' hbase
  unfold Oper.wp
  simp [execOp, ho, resolve, invoke, builtin, hs, hx, hr, Result.andThen]
  exact h _ _ (by rw [sCl_snoc]; exact k1) ((Below.refl _ _).grown k2 hbase (fun k hk => (own_under hown k hk).1)) (fun g hg hr => k2.block g hg hr) k3 k2.size
/-- a part of a struct of a row of the call's own, stored in a drawn region -/
theorem step_store_s {α : Type} {V : α → List Value} {k : Nat} (hgd : o.guard = none) (T : TypeId) (x y : Operand) (ho : o.op = .store T x y) (g q : Nat) (hx : a.eval x = .pointer (some ⟨g, q, none⟩))
    (vs : List Value) (hy : a.eval y = .agg vs.toArray) (hs : (P.info? T).map (·.size) = some vs.length) (h1 : ∀ v ∈ vs, v.oneCell' = true)
    (hV : ∀ y : α, (V y).length = k) (h0 : 0 < k) (e : TypeId) (base n c : Nat) (ys : List α) (hown : w.ownsRow base e k (.slice (some ⟨g, 0, none⟩) n c) n (sCl V ys)) (i p : Nat) (z u : α) (hi : ys[i]? = some z) (hq : q = i * k + p) (hpl : p + vs.length ≤ k) (hu : V u = (V z).take p ++ vs ++ (V z).drop (p + vs.length))
    (h : ∀ w', w'.ownsRow base e k (.slice (some ⟨g, 0, none⟩) n c) n (sCl V (ys.set i u)) → TurnB w w' g → K (a.put o.dst undef) w') :
    if Region.wanted o (yielded ops a.tmps) = true then Oper.wp P o a w K Q else E := by
  have hw : Region.wanted o (yielded ops a.tmps) = true := by simp [Region.wanted, hgd]
  rw [if_pos hw]
  obtain ⟨w', hrun, k1, k2⟩ := run_store_s (P := P) T g q vs hs h1 hV h0 e base n c ys hown i p z u hi hq hpl hu
  unfold Oper.wp execOp
  simp only [ho, hx, hy, Instr.storeAt, Instr.sureAddr, Sem.run_bind, Sem.run_pure, Result.andThen_ok, hrun]
  exact h _ k1 k2
end
end Go.Proofs.YthcbiohmghaobaaDoor
/-
  Layer 19: the file system behind a store into an inode; behind a name more. Nothing of the program's text.
-/
namespace Go.Proofs.YthcbiohmghaobaaDoor.Vfs
open Go.RowKit Go.MapKept Go.Proofs.YthcbiohmghaobaaDoor.Pnm

theorem load_sl {P : Program} {w : World} {T e : TypeId} {a : Addr} {v : Value} (hT : P.underlying T = some (.slice e)) (hs : (P.info? T).map (·.size) = some 1) (hc : w.cell? a = some v) : (loadVar T a).run P w = .ok v w := by
  have hA : (isAgg T).run P w = .ok false w := by
    unfold isAgg
    rw [Sem.run_bind, run_underlying hT w]; simp
  cases hq : P.info? T with
  | none => simp [hq] at hs
  | some j =>
    have hj : j.size = 1 := by simpa [hq] using hs
    simp [loadVar, Sem.run_bind, hA, sizeOf, typeInfo, hq, hj, hc]
/-- a row's block is no struct's -/
theorem not_obj {w : World} {base n size g : Nat} {e T : TypeId} {v : Value} {xs vs : List Value} (h : w.ownsRow base e size v n xs) (hg : ObjAt w g T vs) (hne : e ≠ T) : v.ownBlock ≠ some g := by
  rintro hk
  rcases h.2 with ⟨h', _⟩ | ⟨g', cap', cur, hv, _, hh, _⟩
  · rw [h'] at hk; cases hk
  · rw [hv] at hk
    obtain rfl : g' = g := by simpa [Value.ownBlock] using hk
    rw [ObjAt, hh] at hg
    injection hg with hg
    injection hg with _ hg _
    exact hne hg
theorem own_cell1 {w : World} {base n size : Nat} {e : TypeId} {v : Value} {xs : List Value} (h : w.ownsRow base e size v n xs) : v.oneCell' = true := by
  rcases h.2 with ⟨h', _⟩ | ⟨_, _, _, hv, _⟩
  · rw [h']; rfl
  · rw [hv]; rfl
theorem set_self {α : Type} {l : List α} {i : Nat} {y : α} (h : l[i]? = some y) : l.set i y = l := by
  apply List.ext_getElem?
  intro k
  by_cases e : i = k
  · subst e; rw [List.getElem?_set_self (List.getElem?_eq_some_iff.1 h).1, h]
  · rw [List.getElem?_set_ne e]
theorem only_turn {U : Nat → Prop} {w0 w w' : World} {g : Nat} (h : Only U w0 w) (t : TurnB w w' g) (hg : U g ∨ w0.heap.size ≤ g) : Only U w0 w' :=
  ⟨(t.below (Nat.zero_le _)).os.trans h.os, (t.below (Nat.zero_le _)).tape.trans h.tape, (t.below (Nat.zero_le _)).output.trans h.output, by rw [t.size]; exact h.size,
    fun k hk hu => (t.other fun e => by subst e; rcases hg with c | c; exact hu c; omega).trans (h.block k hk hu)⟩
theorem only_below {U : Nat → Prop} {w0 w w' : World} (h : Only U w0 w) (b : Below w.heap.size w w') : Only U w0 w' := h.trans (Only.of_below b (Nat.le_refl _))
theorem only_only {U V : Nat → Prop} {w0 w w' : World} (h : Only U w0 w) (k : Only V w w') (hV : ∀ k, V k → U k ∨ w0.heap.size ≤ k) : Only U w0 w' :=
  ⟨k.os.trans h.os, k.tape.trans h.tape, k.output.trans h.output, Nat.le_trans h.size k.size, fun i hi hu => (k.block i (Nat.lt_of_lt_of_le hi h.size) fun c => by rcases hV i c with c | c; exact hu c; omega).trans (h.block i hi hu)⟩
section
variable {N : Nat} {F S : Int} {R : List Int} {W D : Nat → Prop} {w w' w6 w7 : World} {f : Nat} {s : St} {mp nm : Nat} {ra : Option Addr} {rc : Nat} {M : List InM}
/-- an inode's cells turned, its data and names as they were -/
theorem InP.turn {x x' : Ino} {y : InM} (h : InP W D w x y) (hwd : ∀ k, W k → ¬ D k) (ht : TurnB w w' y.g) (ho : ObjAt w' y.g 80 (inoV x' y)) (hd : x'.d = x.d) (hn : x'.ns = x.ns) : InP W D w' x' y := by
  refine ⟨ho, h.wg, ?_, by rw [hd]; exact h.dl, h.dm, by rw [hd]; exact h.db, ?_, h.nw⟩
  · rw [hd]
    by_cases h0 : x.d = []
    · exact .inl h0
    · exact h.d.block (Nat.le_of_eq ht.size.symm) fun a ha hl => ht.other fun e => hwd y.g h.wg (by rw [← e]; exact h.db a ha h0)
  · rw [hn]
    exact own_keepS h.n fun g hg _ => ht.other fun e => not_obj h.n h.o (by decide) (by rw [hg, e])
theorem FsP.cel (h : FsP N F S R W D w f s mp nm ra rc M) {i : Nat} {x' : Ino} {y : InM} (hy : M[i]? = some y) (ht : TurnB w w' y.g) (ho : ObjAt w' y.g 80 (inoV x' y)) (hd : x'.d = (s.at i).d) (hn : x'.ns = (s.at i).ns) (hwf : Wf N (setI s i x')) :
    FsP N F S R W D w' f (setI s i x') mp nm ra rc M := by
  have hl : i < s.is.length := by rw [← h.ml]; exact (List.getElem?_eq_some_iff.1 hy).1
  have hI := h.e i _ _ (at_some hl) hy
  have := h.ino (y' := y) hy rfl (Nat.le_of_eq ht.size.symm) (fun k _ _ hk _ => ht.other hk) (fun _ h => h) (fun _ h => .inl h) (hI.turn h.wd ht ho hd hn) (fun k hk => .inl hk) hwf
  rwa [set_self hy] at this
/-- a name more -/
theorem FsP.nam (h : FsP N F S R W D w f s mp nm ra rc M) {j n : Nat} {y : InM} {b : ByteArray} {v : Value} (hy : M[j]? = some y) (o6 : w6.ownsRow 0 9 1 v n (ssC ((s.at j).ns ++ [b])))
    (k6 : ∀ k, k < w.heap.size → some k ≠ y.nv.ownBlock → w6.heap[k]? = w.heap[k]?) (e6 : v.ownBlock = y.nv.ownBlock ∨ v.ownBlock = some w.heap.size) (z6 : w.heap.size ≤ w6.heap.size)
    (g7 : ObjAt w7 y.g 80 (inoV { s.at j with ns := (s.at j).ns ++ [b] } { y with nv := v })) (t7 : TurnB w6 w7 y.g) (hwf : Wf N (namI s j b)) :
    FsP N F S R (fun k => W k ∨ (w.heap.size ≤ k ∧ k < w7.heap.size)) D w7 f (namI s j b) mp nm ra rc (M.set j { y with nv := v }) := by
  have hl : j < s.is.length := by rw [← h.ml]; exact (List.getElem?_eq_some_iff.1 hy).1
  have hI := h.e j _ _ (at_some hl) hy
  have o6l : ∀ k, v.ownBlock = some k → k < w6.heap.size := fun k hk => (own_under o6 k hk).2
  have hn : n = ((s.at j).ns ++ [b]).length := by have := o6.1; simpa using this.symm
  have ho6 : ObjAt w6 y.g 80 (inoV (s.at j) y) := (k6 _ hI.o.lt fun e => not_obj hI.n hI.o (by decide) e.symm).trans hI.o
  refine h.ino hy rfl (by rw [t7.size]; exact z6) (fun k hk _ h1 h2 => (t7.other h1).trans (k6 k hk fun e => h2 e.symm)) (fun _ h => .inl h) (fun _ h => h) ?_ ?_ hwf
  · refine ⟨g7, .inl hI.wg, ?_, hI.dl, hI.dm, hI.db, ?_, ?_⟩
    · by_cases h0 : (s.at j).d = []
      · exact .inl h0
      · refine hI.d.block (by rw [t7.size]; exact z6) fun a ha hla => ?_
        have hD := hI.db a ha h0
        exact (t7.other fun e => h.wd y.g hI.wg (by rw [← e]; exact hD)).trans (k6 _ hla fun e => h.wd _ (hI.nw _ e.symm) hD)
    · show w7.ownsRow 0 9 1 v ((s.at j).ns ++ [b]).length _
      rw [← hn]
      exact own_keepS o6 fun g hg _ => t7.other fun e => not_obj o6 ho6 (by decide) (by rw [hg, e])
    · intro k hk
      have hk : v.ownBlock = some k := hk
      rcases e6 with e | e
      · exact .inl (hI.nw k (by rw [← e]; exact hk))
      · obtain rfl := Option.some.inj (hk.symm.trans e)
        exact .inr ⟨Nat.le_refl _, by rw [t7.size]; exact o6l _ hk⟩
  · intro k hk
    have hk : v.ownBlock = some k := hk
    rcases e6 with e | e
    · exact .inl (by rw [← e]; exact hk)
    · obtain rfl := Option.some.inj (hk.symm.trans e)
      exact .inr (Nat.le_refl _)
end
end Go.Proofs.YthcbiohmghaobaaDoor.Vfs
/-
  Layer 19: a file system while another block turns. Nothing of the program's text.
-/
namespace Go.Proofs.YthcbiohmghaobaaDoor.Vfs
open Go.RowKit Go.MapKept Go.Proofs.YthcbiohmghaobaaDoor.Pnm

theorem tb {w w' : World} {g : Nat} (t : Turned w w' g) : TurnB w w' g := ⟨fun hB => t.below hB, fun hk => t.other hk, t.size⟩
section
variable {N : Nat} {F S : Int} {R : List Int} {w w' : World} {f : Nat} {s : St}
theorem FsS.turn {T : Nat → Prop} {g : Nat} (h : FsS N F S R T w f s) (t : TurnB w w' g) (hg : ¬ T g) : FsS N F S R T w' f s :=
  h.only (U := fun k => k = g) (only_turn (Only.refl _ w) t (.inl rfl)) fun k hk e => hg (by rw [← e]; exact hk)
end
end Go.Proofs.YthcbiohmghaobaaDoor.Vfs
