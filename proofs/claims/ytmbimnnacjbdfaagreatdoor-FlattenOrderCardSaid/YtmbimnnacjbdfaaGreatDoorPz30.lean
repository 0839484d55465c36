/-
  Layer 13: a row of nodes of the call's own, stored into; what stays; the numbers of classes as a map.
-/
import Derived.Test.YtmbimnnacjbdfaaGreatDoorPz26
import Derived.Test.YtmbimnnacjbdfaaGreatDoorPz05
import Derived.Test.YtmbimnnacjbdfaaGreatDoorPz29
namespace Go.Proofs.YtmbimnnacjbdfaaGreatDoor.Tre
open Go.RowKit Go.MapKept Go.Proofs.YtmbimnnacjbdfaaGreatDoor.Fit

theorem NdsAt.setAt {w : World} {g off : Nat} {us : List NdS} (h : NdsAt w g off us) {i : Nat} {y : NdS} (hi : us[i]? = some y) (z : NdS) (k : Nat) (v : Value) (hv : (ndV z)[k]? = some v)
    (hk : ∀ j u, j ≠ k → (ndV z)[j]? = some u → (ndV y)[j]? = some u) : NdsAt (w.setCell ⟨g, off + i * 6 + k, none⟩ v) g off (us.set i z) := fun i' y' hi' j u hu => by
  have hk6 : k < 6 := by have := (List.getElem?_eq_some_iff.mp hv).1; simpa using this
  have hj6 : j < 6 := by have := (List.getElem?_eq_some_iff.mp hu).1; simpa using this
  have hil : i < us.length := (List.getElem?_eq_some_iff.mp hi).1
  by_cases e : i' = i
  · subst e
    rw [List.getElem?_set_self hil] at hi'
    obtain rfl := Option.some.inj hi'
    by_cases ej : j = k
    · subst ej
      obtain rfl : v = u := Option.some.inj (hv.symm.trans hu)
      have hy : j < (ndV y).length := by simpa using hj6
      exact World.cell?_setCell_same (h := h i' y hi j _ (List.getElem?_eq_getElem hy)) ..
    · rw [World.cell?_setCell_other (h := by intro h; injection h with _ h; omega) ..]
      exact h i' y hi j u (hk j u ej hu)
  · rw [List.getElem?_set_ne (fun h => e h.symm)] at hi'
    rw [World.cell?_setCell_other (h := by intro h; injection h with _ h; omega) ..]
    exact h i' y' hi' j u hu
theorem keepD (n : Nd) (a a' : Option Addr) (c c' : Nat) : ∀ j u, j ≠ 4 → (ndV ⟨n, a', c'⟩)[j]? = some u → (ndV ⟨n, a, c⟩)[j]? = some u := by
  intro j u hj hu
  rcases j with _ | _ | _ | _ | _ | _ | j
  · exact hu
  · exact hu
  · exact hu
  · exact hu
  · exact absurd rfl hj
  · exact hu
  · simp at hu
theorem keepC (n : Nd) (a : Option Addr) (c : Nat) (x : Int) : ∀ j u, j ≠ 5 → (ndV ⟨{ n with c := x }, a, c⟩)[j]? = some u → (ndV ⟨n, a, c⟩)[j]? = some u := by
  intro j u hj hu
  rcases j with _ | _ | _ | _ | _ | _ | j
  · exact hu
  · exact hu
  · exact hu
  · exact hu
  · exact hu
  · exact absurd rfl hj
  · simp at hu
theorem frz_block {w w' : World} {g : Nat} (h : ∀ k, w.frozen? ⟨g, k, none⟩ = false) (e : w'.heap[g]? = w.heap[g]?) : ∀ k, w'.frozen? ⟨g, k, none⟩ = false := fun k => by
  have := h k
  unfold World.frozen? at this ⊢
  rw [e]; exact this

section
variable {P : Program} {w : World} {ops : Array Oper} {rest : List Oper} {o : Oper} {a : Act} {Q : Exit → Act → World → Prop}
theorem wpList_store_nd (hgd : o.guard = none) (T : TypeId) (x y : Operand) (ho : o.op = .store T x y) (g q : Nat) (hx : a.eval x = .pointer (some ⟨g, q, none⟩))
    (v : Value) (hy : a.eval y = v) (h1 : v.oneCell' = true) (hs : (P.info? T).map (·.size) = some 1) (us : List NdS) (i k : Nat) (z z' : NdS) (hq : q = i * 6 + k) (hi : us[i]? = some z) (hat : NdsAt w g 0 us) (hf : ∀ j, w.frozen? ⟨g, j, none⟩ = false)
    (hv : (ndV z')[k]? = some v) (hk : ∀ j u, j ≠ k → (ndV z')[j]? = some u → (ndV z)[j]? = some u)
    (K : ∀ w', NdsAt w' g 0 (us.set i z') → (∀ j, w'.frozen? ⟨g, j, none⟩ = false) → TurnB w w' g → wpList P ops Q rest (a.put o.dst undef) w') : wpList P ops Q (o :: rest) a w := by
  subst hq
  have hk6 : k < (ndV z).length := by have := (List.getElem?_eq_some_iff.mp hv).1; simpa using this
  have hc : w.cell? ⟨g, i * 6 + k, none⟩ = some (ndV z)[k] := by
    have := hat i z hi k _ (List.getElem?_eq_getElem hk6)
    rw [Nat.zero_add] at this
    exact this
  have hset : NdsAt (w.setCell ⟨g, i * 6 + k, none⟩ v) g 0 (us.set i z') := by
    have := hat.setAt hi z' k v hv hk
    rw [Nat.zero_add] at this
    exact this
  refine wpList_plain hgd fun K' hK => ?_
  have hv1 : v.cells = #[v] := by cases v <;> first | rfl | (simp [Value.oneCell'] at h1)
  cases hq : P.info? T with
  | none => simp [hq] at hs
  | some j =>
    have hj : j.size = 1 := by simpa [hq] using hs
    have ha : (⟨g, i * 6 + k, none⟩ : Addr).add 0 = ⟨g, i * 6 + k, none⟩ := add_plain' g _ 0
    have hrun : (storeVar T ⟨g, i * 6 + k, none⟩ v).run P w = .ok () (w.setCell ⟨g, i * 6 + k, none⟩ v) := by
      simp [storeVar, sizeOf, typeInfo, hq, hj, hv1, storeCells, run_store P w _ v _ h1, ha, hc, hf (i * 6 + k)]
    unfold Oper.wp execOp
    simp only [ho, hx, hy, Instr.storeAt, Instr.sureAddr, Sem.run_bind, Sem.run_pure, Result.andThen_ok, hrun]
    exact hK _ _ (K _ hset (fun j => by rw [World.frozen?_setCell]; exact hf j) ⟨fun hB => (Below.refl _ _).setCell hB v, fun hk => Below.heap_setCell _ _ _ _ hk, by simp [World.setCell]⟩)
end

/-- a node whose data the call laid itself -/
def Frs (B : Nat) (w : World) (y : NdS) : Prop := w.ownsRow B 5 1 (.slice y.a y.n.d.length y.cap) y.n.d.length (y.n.d.map (.int .u8))
/-- what stays while row g and map m are turned -/
structure Kp (C B g m : Nat) (w w' : World) : Prop where
  fr : ∀ u, Frs B w u → Frs B w' u
  blk : ∀ k, k < B → k ≠ g → k ≠ m → w'.heap[k]? = w.heap[k]?
  bel : Below C w w'
  sz : w.heap.size ≤ w'.heap.size
theorem Kp.refl (C B g m : Nat) (w : World) : Kp C B g m w w := ⟨fun _ h => h, fun _ _ _ _ => rfl, Below.refl _ _, Nat.le_refl _⟩
theorem Kp.trans {C B g m : Nat} {a b c : World} (h : Kp C B g m a b) (k : Kp C B g m b c) : Kp C B g m a c :=
  ⟨fun u hu => k.fr u (h.fr u hu), fun i h1 h2 h3 => (k.blk i h1 h2 h3).trans (h.blk i h1 h2 h3), h.bel.trans k.bel, Nat.le_trans h.sz k.sz⟩
theorem Kp.of_below {C B g m : Nat} {w w' : World} (h : Below w.heap.size w w') (hB : B ≤ w.heap.size) (hC : C ≤ w.heap.size) : Kp C B g m w w' :=
  ⟨fun _ hu => own_stay' hu h (Nat.le_refl _), fun k hk _ _ => h.block k (by omega), h.mono hC, h.size⟩
theorem Kp.of_row {C B g m : Nat} {w w' : World} (h : TurnB w w' g) (hB : g < B) (hC : C ≤ g) : Kp C B g m w w' :=
  ⟨fun _ hu => own_turnB hu h hB, fun _ _ h1 _ => h.other h1, h.below hC, Nat.le_of_eq h.size.symm⟩
theorem Kp.of_map {C B g m : Nat} {w w' : World} (h : TurnB w w' m) (hB : m < B) (hC : C ≤ m) : Kp C B g m w w' :=
  ⟨fun _ hu => own_turnB hu h hB, fun _ _ _ h2 => h.other h2, h.below hC, Nat.le_of_eq h.size.symm⟩

/-- the numbers given so far -/
def Nums (F : Value → Option Value) (S : List Int) (j : Nat) : Prop := ∀ c : Int, F (.int .i64 c) = if c ∈ clsU S j then some (.int .i64 (num S c)) else none
theorem Nums.stay {F : Value → Option Value} {S : List Int} {j : Nat} (h : Nums F S j) (hj : j < S.length) (hn : ¬ Many S S[j] ∨ S[j] ∈ clsU S j) : Nums F S (j + 1) ∧ clsU S (j + 1) = clsU S j := by
  have e : clsU S (j + 1) = clsU S j := by
    rw [clsU_step hj, if_neg]
    rintro ⟨h1, h2⟩
    exact hn.elim (fun h => h h1) h2
  exact ⟨fun c => by rw [e]; exact h c, e⟩
theorem Nums.more {F : Value → Option Value} {S : List Int} {j : Nat} (h : Nums F S j) (hj : j < S.length) (hm : Many S S[j]) (hn : S[j] ∉ clsU S j) :
    Nums (upd F (.int .i64 S[j]) (.int .i64 (((clsU S j).length : Int) + 1))) S (j + 1) ∧ (clsU S (j + 1)).length = (clsU S j).length + 1 := by
  have e : clsU S (j + 1) = clsU S j ++ [S[j]] := by rw [clsU_step hj, if_pos ⟨hm, hn⟩]
  refine ⟨fun c => ?_, by rw [e]; simp⟩
  rw [e]
  by_cases ec : c = S[j]
  · subst ec
    rw [upd_same, if_pos (by simp), num_new hj hm hn]
  · rw [upd_ne (fun h => ec (by injection h)), h c]
    by_cases h1 : c ∈ clsU S j
    · rw [if_pos h1, if_pos (by simp [h1])]
    · rw [if_neg h1, if_neg (by simp [h1, ec])]

/-- Canon's row before node j: those before are renumbered and their data are the call's own -/
structure CSt (B : Nat) (zs us : List NdS) (j : Nat) (w : World) : Prop where
  len : us.length = zs.length
  done : ∀ i z, i < j → zs[i]? = some z → ∃ u, us[i]? = some u ∧ u.n = ren (nds zs) z.n ∧ Frs B w u
  rest : ∀ i, j ≤ i → us[i]? = zs[i]?
theorem CSt.next {C B g m : Nat} {zs us : List NdS} {j : Nat} {w w' : World} (h : CSt B zs us j w) (k : Kp C B g m w w') {z u : NdS} (hz : zs[j]? = some z) (hu : u.n = ren (nds zs) z.n) (hf : Frs B w' u) (vs : List NdS) (hvl : vs.length = us.length) (hvj : vs[j]? = some u) (hvo : ∀ i, i ≠ j → vs[i]? = us[i]?) : CSt B zs vs (j + 1) w' := by
  refine ⟨hvl.trans h.len, fun i y hi hy => ?_, fun i hi => by rw [hvo i (by omega)]; exact h.rest i (by omega)⟩
  by_cases e : i = j
  · subst e
    obtain rfl : z = y := Option.some.inj (hz.symm.trans hy)
    exact ⟨u, hvj, hu, hf⟩
  · obtain ⟨v, h1, h2, h3⟩ := h.done i y (by omega) hy
    exact ⟨v, (hvo i e).trans h1, h2, k.fr v h3⟩
theorem CSt.end_ {B : Nat} {zs us : List NdS} {w : World} (h : CSt B zs us zs.length w) : nds us = (nds zs).map (ren (nds zs)) ∧ ∀ u ∈ us, Frs B w u ∧ ∃ z ∈ zs, u.n = ren (nds zs) z.n := by
  constructor
  · refine List.ext_getElem? fun i => ?_
    by_cases hi : i < zs.length
    · have hz : zs[i]? = some zs[i] := List.getElem?_eq_getElem hi
      obtain ⟨u, h1, h2, _⟩ := h.done i _ hi hz
      rw [nds_at h1, List.getElem?_map, nds_at hz, h2]; rfl
    · rw [List.getElem?_eq_none (by rw [nds_len, h.len]; omega), List.getElem?_eq_none (by rw [List.length_map, nds_len]; omega)]
  · intro u hu
    obtain ⟨i, hi, rfl⟩ := List.getElem_of_mem hu
    have hl : i < zs.length := by rw [← h.len]; exact hi
    obtain ⟨v, h1, h2, h3⟩ := h.done i _ hl (List.getElem?_eq_getElem hl)
    obtain rfl : us[i] = v := Option.some.inj ((List.getElem?_eq_getElem hi).symm.trans h1)
    exact ⟨h3, _, List.getElem_mem hl, h2⟩
/-- what the call laid itself, as it is told of -/
theorem NdF.fresh {B : Nat} {w w0 : World} {z u : NdS} {S : List Nd} (h : NdF w0 z) (e : u.n = ren S z.n) (hf : Frs B w u) (hn : num (cs S) z.n.c ≤ 1000000) : NdF w u := by
  obtain ⟨un, ua, uc⟩ := u
  obtain rfl : un = ren S z.n := e
  obtain ⟨b, cap, hv, hi, hc, hm, hl, hx⟩ := own_any hf
  injection hv with e1 _ e3
  obtain rfl : ua = b := e1
  obtain rfl : uc = cap := e3
  refine ⟨h.k, h.p, h.m, h.t, ⟨rfl, hc, hm, h.d.2.2.2.1, ?_⟩, h.l, ?_⟩
  · rcases Nat.eq_zero_or_pos z.n.d.length with h0 | h0
    · exact .inl h0
    · obtain ⟨b', off, rfl, hlt⟩ := hi.plain h0
      exact .inr ⟨b', off, rfl, hlt, fun i hi' => hi.get i hi'⟩
  · have := num_nonneg (cs S) z.n.c
    show (Lit.int .i64 (num (cs S) z.n.c)).wf = true
    have hn' := hn
    have e1 : IntKind.i64.min = -9223372036854775808 := by decide
    have e2 : IntKind.i64.max = 9223372036854775807 := by decide
    simp [Lit.wf]
    omega
theorem cls_len (l : List Int) : (cls l).length ≤ l.length := by
  unfold cls
  have h : ∀ (t s : List Int), (dd s t).length ≤ s.length + t.length := by
    intro t
    induction t with
    | nil => intro s; exact Nat.le_refl _
    | cons c t ih =>
      intro s
      unfold dd
      have := ih (if c ∈ s then s else s ++ [c])
      rw [List.length_cons]
      by_cases e : c ∈ s
      · rw [if_pos e] at this ⊢; omega
      · rw [if_neg e] at this ⊢; rw [List.length_append, List.length_singleton] at this; omega
  have h3 := h (l.filter fun c => decide (Many l c)) []
  have h4 : (l.filter fun c => decide (Many l c)).length ≤ l.length := List.length_filter_le _ _
  simp only [List.length_nil, Nat.zero_add] at h3
  omega
theorem clsU_len {l : List Int} {n : Nat} (hn : n ≤ l.length) : (clsU l n).length ≤ l.length := by
  obtain ⟨r, hr⟩ := clsU_pre (l := l) hn (Nat.le_refl _)
  have h := cls_len l
  rw [← clsU_end, hr, List.length_append] at h
  omega
theorem num_le (l : List Int) (c : Int) : num l c ≤ l.length := by
  unfold num
  split
  · rename_i h
    have h1 : (cls l).idxOf c < (cls l).length := List.idxOf_lt_length_iff.mpr (cls_mem.mpr h)
    have h2 := cls_len l
    omega
  · omega
end Go.Proofs.YtmbimnnacjbdfaaGreatDoor.Tre
/-
  Layer 13: the program's Canon.
-/
namespace Go.Proofs.YtmbimnnacjbdfaaGreatDoor.Tre
open Go.RowKit Go.MapKept Go.Proofs.YtmbimnnacjbdfaaGreatDoor.Fit

/-- what Canon hands back: the canonical nodes, in memory of its own -/
def CanP (w : World) (n : Nat) (ys : List NdS) (e : Ending) (w' : World) : Prop :=
  ∃ a c zs, e = .returned (.slice a n c) ∧ ArgNds w' a n c zs ∧ nds zs = canon (nds ys) ∧ (∀ z ∈ zs, Frs w.heap.size w' z) ∧ (∀ x, a = some x → w.heap.size ≤ x.block ∧ x.off = 0 ∧ ∀ k, w'.frozen? ⟨x.block, k, none⟩ = false) ∧ Below w.heap.size w w'
theorem own_at {w : World} {base n : Nat} {e : TypeId} {v : Value} {ys : List NdS} (h : w.ownsRow base e 6 v n (ndCells ys)) (h0 : n ≠ 0) :
    ∃ g c, v = .slice (some ⟨g, 0, none⟩) n c ∧ n ≤ c ∧ c ≤ maxLen ∧ base ≤ g ∧ g < w.heap.size ∧ NdsAt w g 0 ys ∧ ∀ k, w.frozen? ⟨g, k, none⟩ = false := by
  obtain ⟨a, c, hv, hn, hc, hm, hi, hx⟩ := NdsIn.of_own h
  obtain ⟨_, h2⟩ := h
  rcases h2 with ⟨_, h2⟩ | ⟨g, cap, cur, hv', hb, hh, _⟩
  · exact absurd h2 h0
  · subst hv
    injection hv' with e1 _ e3
    subst e1; subst e3
    refine ⟨g, c, rfl, hc, hm, hb, (hx _ rfl).2, ?_, fun k => by unfold World.frozen?; rw [hh]; simp⟩
    rcases hi with rfl | ⟨b, off, hb', _, hat⟩
    · exact absurd hn h0
    · injection hb' with hb'; injection hb' with e1 e2
      subst e1; subst e2
      exact hat
theorem own_frz {w : World} {base n c : Nat} {e : TypeId} {a : Option Addr} {xs : List Value} (h : w.ownsRow base e 6 (.slice a n c) n xs) :
    ∀ x, a = some x → base ≤ x.block ∧ x.off = 0 ∧ x.block < w.heap.size ∧ ∀ k, w.frozen? ⟨x.block, k, none⟩ = false := by
  rintro x rfl
  rcases h.2 with ⟨hv, _⟩ | ⟨g, cap, cur, hv, hb, hh, _⟩
  · cases hv
  · injection hv with e1 _ _
    injection e1 with e1
    subst e1
    exact ⟨hb, rfl, (Array.getElem?_eq_some_iff.1 hh).1, fun k => by unfold World.frozen?; rw [hh]; simp⟩

set_option maxRecDepth 100000 in
set_option maxHeartbeats 4000000 in
theorem canon_nil (a : Option Addr) (cap : Nat) (w : World) : Calls Tryz.prog 19 #[.slice a 0 cap] w (CanP w 0 []) := by
  have NC := Lib.hid (nclone_any a 0 cap [] w (.inl rfl) rfl (by omega))
  go_enter Tryz.func19, Tryz.ntmps19
  go_wp2_with fail
  refine NC.out.mono ?_; rintro e w1 ⟨v, rfl, ho, b1⟩
  obtain ⟨g, c, rfl, hn, hc, hm, hi, hx⟩ := NdsIn.of_own ho
  have FZ := Lib.hid (own_frz ho); have HC := Lib.hid hc; have HM := Lib.hid hm; have B1 := Lib.hid b1
  clear ho b1 hn hc hm hi hx NC
  go_wp2_with fail
  refine (sort_nil g c w1).mono ?_; rintro e w2 ⟨rfl, rfl⟩
  go_wp2_with fail
  refine (count_any g 0 c [] w2 (.inl rfl) rfl (by omega)).mono ?_; rintro e w3 ⟨mS, NS, FS, rfl, hS, hC, hb, b3⟩
  have B3 := Lib.hid b3
  clear hS hC hb b3
  go_wp2_with (first | (refine wpList_make_mapF rfl _ rfl (.int .i64) ?_; intro w4 m4 b4; have B4 := Lib.hid (belT B3.out b4); clear m4 b4))
  go_loopw [19] (fun i wr => i = .int .i64 0 ∧ wr = w4) (fun _ _ => 0)
  case atStart => exact ⟨rfl, rfl⟩
  case round =>
    obtain ⟨rfl, rfl⟩ := hrel
    go_wp2
    go_ret
    refine ⟨g, c, [], rfl, ⟨rfl, HC.out, HM.out, .inl rfl, (fun _ h => by cases h)⟩, rfl, (fun _ h => by cases h), (fun x hx => ?_), belT B1.out B4.out⟩
    obtain ⟨h1, h2, h3, h4⟩ := FZ.out x hx
    exact ⟨h1, h2, frz_block h4 (B4.out.block _ h3)⟩

set_option maxRecDepth 100000 in
set_option maxHeartbeats 16000000 in
theorem canon_any (a : Option Addr) (n cap : Nat) (ys : List NdS) (w : World) (ha : ArgNds w a n cap ys) (h40 : n ≤ 40) : Calls Tryz.prog 19 #[.slice a n cap] w (CanP w n ys) := by
  by_cases h0 : n = 0
  · subst h0
    obtain rfl : ys = [] := List.length_eq_zero_iff.1 ha.n
    exact canon_nil a cap w
  have HN := Lib.hid ha.n
  have HS := Lib.hid ha.s
  have NZ := Lib.hid zNd
  have NO := Lib.hid ndT
  have ZI : Hid ((Tryz.prog.info? 3).map (·.zero) = some (some (.int .i64 0))) := by show _ = _; kernel_rfl
  have S1 : Hid ((Tryz.prog.info? 3).map (·.size) = some 1) := by show _ = _; kernel_rfl
  have S30 : Hid ((Tryz.prog.info? 25).map (·.size) = some 1) := by show _ = _; kernel_rfl
  have UM := Lib.hid Tryz.underlying77
  have UK := Lib.hid Tryz.underlying3
  have NC := Lib.hid (nclone_any a n cap ys w ha.r ha.n (by omega))
  have H40 := Lib.hid h40
  have H0 := Lib.hid h0
  clear ha h0
  go_enter Tryz.func19, Tryz.ntmps19
  go_wp2_with fail
  refine NC.out.mono ?_; rintro e w1 ⟨v, rfl, ho, b1⟩
  obtain ⟨g, gc, rfl, hc, hm, hg, hgl, hat1, hfz1⟩ := own_at ho H0.out
  have GC := Lib.hid hc; have GM := Lib.hid hm; have GW := Lib.hid hg; have B1 := Lib.hid b1
  have SO := Lib.hid (sort_any g n gc ys w1 hat1 hfz1 hgl HN.out H40.out)
  have GL1 := Lib.hid hgl
  clear ho b1 NC hc hm hg hat1 hfz1 hgl
  go_wp2_with fail
  refine SO.out.mono ?_; rintro e w2 ⟨rfl, zs, hz, hzm, hzl, hat2, hfz2, on2⟩
  have ZS := Lib.hid hz; have ZM := Lib.hid hzm; have ZL := Lib.hid hzl; have AT2 := Lib.hid hat2; have FZ2 := Lib.hid hfz2
  have B2 := Lib.hid (B1.out.trans (on2.below (fun k hk => by rw [hk]; exact GW.out) B1.out.size))
  have GL2 : Hid (g < w2.heap.size) := Nat.lt_of_lt_of_le GL1.out on2.size
  have CN := Lib.hid (count_any (some ⟨g, 0, none⟩) n gc zs w2 (.inr ⟨g, 0, rfl, GL2.out, hat2⟩) hzl (by omega))
  clear hz hzm hzl hat2 hfz2 on2 SO
  go_wp2_with fail
  refine CN.out.mono ?_; rintro e w3 ⟨mS, NS, FS, rfl, hS, hC, hb, b3⟩
  have S3 := Lib.hid hS; have SC := Lib.hid hC; have SG : Hid (g ≠ mS) := by have := GL2.out; show _ ≠ _; omega
  have SL3 := Lib.hid hS.lt
  have AT3 := Lib.hid (AT2.out.below b3 GL2.out)
  have FZ3 := Lib.hid (frz_block FZ2.out (b3.block g GL2.out))
  have B3 := Lib.hid (belT B2.out b3)
  have GL3 : Hid (g < w3.heap.size) := Nat.lt_of_lt_of_le GL2.out b3.size
  clear hS hC hb b3 CN
  go_wp2_with (first | (refine wpList_make_mapF rfl _ rfl (.int .i64) ?_; intro w4 m4 b4; have M4 := Lib.hid m4; have S4 := Lib.hid (S3.out.below b4 SL3.out); have AT4 := Lib.hid (AT3.out.below b4 GL3.out); have FZ4 := Lib.hid (frz_block FZ3.out (b4.block g GL3.out)); have B4 := Lib.hid (belT B3.out b4); have ML4 := Lib.hid m4.lt; clear m4 b4))
  obtain ⟨mN, hmN⟩ : ∃ mN, mN = w3.heap.size := ⟨_, rfl⟩
  obtain ⟨B, hBB⟩ := named w4.heap.size
  have GN : Hid (g ≠ mN) := by have := GL3.out; show _ ≠ _; omega
  have SN : Hid (mS ≠ mN) := by have := SL3.out; show _ ≠ _; omega
  have NB : Hid (mN < B) := by have := ML4.out; have := hBB.out; show _ < _; omega
  have GB : Hid (g < B) := by have := GL3.out; have := ML4.out; have := hBB.out; show _ < _; omega
  have SB : Hid (mS < B) := by have := SL3.out; have := ML4.out; have := hBB.out; show _ < _; omega
  have CW : Hid (w.heap.size ≤ mN) := by have := B3.out.size; show _ ≤ _; omega
  rw [← hmN] at M4 ⊢
  obtain ⟨S, hSS⟩ : ∃ S, S = cs (nds zs) := ⟨_, rfl⟩
  have SLN : Hid (S.length = n) := by show _ = _; rw [hSS]; unfold cs; rw [List.length_map, nds_len, ZL.out]
  have SS := Lib.hid hSS
  clear hmN hSS AT3 FZ3 S3 AT2 FZ2 B1 B2 B3 GL1 GL2 GL3 SL3 ML4
  go_loopw [19] (fun i wr => ∃ (j N : Nat) (F : Value → Option Value) (us : List NdS), i = .int .i64 j ∧ j ≤ n ∧ CSt B zs us j wr ∧ NdsAt wr g 0 us ∧ (∀ k, wr.frozen? ⟨g, k, none⟩ = false) ∧ MapF wr mN (.int .i64) N F ∧ N = (clsU S j).length ∧ Nums F S j ∧ Kp w.heap.size B g mN w4 wr) (fun i _ => n - (intOf i).toNat)
  case atStart => exact ⟨0, 0, _, zs, rfl, Nat.zero_le _, ⟨rfl, fun i _ h => by omega, fun _ _ => rfl⟩, AT4.out, FZ4.out, M4.out, rfl, fun c => rfl, Kp.refl _ _ _ _ _⟩
  case round =>
    obtain ⟨j, N, F, us, rfl, hj, hst, hat, hfz, hM, hNN, hNu, hK⟩ := hrel
    by_cases hjn : j < n
    · have hlt : j < zs.length := by rw [ZL.out]; exact hjn
      obtain ⟨y, ey⟩ : ∃ y, y = zs[j] := ⟨_, rfl⟩
      have hz : zs[j]? = some y := by rw [ey]; exact List.getElem?_eq_getElem hlt
      have hu : us[j]? = some y := by rw [hst.rest j (Nat.le_refl _)]; exact hz
      have hym : y ∈ ys := ZM.out y (List.mem_of_getElem? hz)
      have hy := HS.out y hym
      have SJ : Hid (∃ h : j < S.length, S[j] = y.n.c) := List.getElem?_eq_some_iff.mp (by rw [SS.out]; unfold cs; rw [List.getElem?_map, nds_at hz]; rfl)
      have CTJ : Hid (cnt zs n y.n.c = S.count y.n.c) := by show _ = _; rw [cnt_all ZL.out, SS.out]
      have HZ := Lib.hid hz; have HU := Lib.hid hu; have ST := Lib.hid hst; have AT := Lib.hid hat; have FZ := Lib.hid hfz; have HM := Lib.hid hM; have HNN := Lib.hid hNN; have HNu := Lib.hid hNu; have KK := Lib.hid hK
      have UL : Hid (j < us.length) := by rw [hst.len]; exact hlt
      have BW : Hid (Below w.heap.size w wr) := B4.out.trans hK.bel
      have BC : Hid (∀ w', Below w.heap.size w w' → Calls Tryz.prog 37 #[.slice y.a y.n.d.length y.cap] w' fun e w'' => ∃ v, e = .returned v ∧ w''.ownsRow w'.heap.size 5 1 v y.n.d.length (y.n.d.map (.int .u8)) ∧ Below w'.heap.size w' w'') := fun w' hb => bclone _ _ _ _ _ (hy.d.inK.below hb) rfl hy.l
      have FSC := Lib.hid (SC.out y.n.c)
      have WB : Hid (B ≤ wr.heap.size) := by have := hBB.out; have := hK.sz; show _ ≤ _; omega
      obtain ⟨c0, c1, c2, c3, c4, c5⟩ := hat.c hu
      clear hst hat hfz hM hNN hNu hK hlt ey hz hu hym hy
      obtain ⟨⟨k, p, m, t, d, c⟩, x, xc⟩ := y
      obtain ⟨L, hL⟩ := named d.length
      obtain ⟨M, hM⟩ := named (cnt zs n c)
      have BC : Hid (∀ w', Below w.heap.size w w' → Calls Tryz.prog 37 #[.slice x L xc] w' fun e w'' => ∃ v, e = .returned v ∧ w''.ownsRow w'.heap.size 5 1 v L (d.map (.int .u8)) ∧ Below w'.heap.size w' w'') := by rw [hL.out]; exact BC
      have FSC : Hid ((FS (.int .i64 c)).getD (.int .i64 0) = .int .i64 M) := by rw [hM.out]; exact FSC
      have CTJ : Hid (M = S.count c) := hM.out.trans CTJ.out
      have SJ : Hid (∃ h : j < S.length, S[j] = c) := SJ
      have c4' : wr.cell? ⟨g, 0 + j * 6 + 4, none⟩ = some (.slice x L xc) := by rw [hL.out]; exact c4
      simp only [Nat.zero_add] at c0 c1 c2 c3 c4' c5
      clear c4 hM
      have j1 : (j : Int) < n := by omega
      have gcj : (n : Int) ≤ gc := by have := GC.out; omega
      clear hjn
      go_wp2_with (first | (refine wpList_alloc_obj rfl 50 rfl (ndL 0 emp 0 emp none 0 0 0) NZ.out ?_; intro w5 g5 b5; have G5 := Lib.hid g5; have B5 := Lib.hid b5; clear g5 b5 c0 c1 c2 c3 c4' c5) | (refine wpList_store_obj rfl 50 _ _ rfl wr.heap.size rfl (ndL k p m t x L xc c) (ndL 0 emp 0 emp none 0 0 0) rfl 50 G5.out NO.out.2 rfl (nd_one _ _ _ _ _ _ _ _) ?_; intro w6 g6 t6; have G6 := Lib.hid g6; have B6 := Lib.hid (B5.out.trans (t6.below (Nat.le_refl _))); have c4 := g6.get 4 rfl; clear g6 t6))
      have K6 := Lib.hid (Kp.of_below (C := w.heap.size) (B := B) (g := g) (m := mN) B6.out WB.out (by have := BW.out.size; omega))
      have GR : Hid (g < wr.heap.size) := Nat.lt_of_lt_of_le GB.out WB.out
      have M6 := Lib.hid (HM.out.below B6.out HM.out.lt)
      have AT6 := Lib.hid (AT.out.below B6.out GR.out)
      have FZ6 := Lib.hid (frz_block FZ.out (B6.out.block g GR.out))
      have GR6 : Hid (g < w6.heap.size) := Nat.lt_of_lt_of_le GR.out B6.out.size
      refine (BC.out w6 (BW.out.trans K6.out.bel)).mono ?_; rintro e w7 ⟨v7, rfl, o7, b7⟩
      obtain ⟨x7, xc7, rfl, _, _, _, _, _⟩ := own_any o7
      have K7 := Lib.hid (K6.out.trans (Kp.of_below b7 (by have := WB.out; have := B6.out.size; omega) (by have := BW.out.size; have := B6.out.size; omega)))
      have FR7 : Hid (∀ c', Frs B w7 ⟨⟨k, p, m, t, d, c'⟩, x7, xc7⟩) := fun c' => by
        unfold Frs
        show w7.ownsRow B _ 1 (.slice x7 d.length xc7) d.length (d.map (.int .u8))
        rw [← hL.out]
        exact own_base o7 (by have := WB.out; have := B6.out.size; omega)
      have AT7 := Lib.hid (AT6.out.below b7 GR6.out)
      have FZ7 := Lib.hid (frz_block FZ6.out (b7.block g GR6.out))
      have M7 := Lib.hid (M6.out.below b7 M6.out.lt)
      have G7 := Lib.hid (G6.out.below b7 G6.out.lt)
      clear o7 b7 c4 BC AT M6 AT6 FZ6 FZ HM
      by_cases hc : c ≤ 0
      · have NM : Hid (¬ Many S c) := fun h => by have := h.1; omega
        have R0 : Hid (num S c = 0) := by show _ = _; unfold num; rw [if_neg NM.out]
        go_wp2_with (first | (refine wpList_store_nd rfl 25 _ _ rfl g _ rfl (.slice x7 L xc7) rfl rfl S30.out us j 4 ⟨⟨k, p, m, t, d, c⟩, x, xc⟩ ⟨⟨k, p, m, t, d, c⟩, x7, xc7⟩ (by omega) HU.out AT7.out FZ7.out (by rw [hL.out]; rfl) (keepD _ _ _ _ _) ?_; intro w8 a8 f8 t8; have AT8 := Lib.hid a8; have FZ8 := Lib.hid f8; have K8 := Lib.hid (K7.out.trans (Kp.of_row t8 GB.out GW.out)); have G8 := Lib.hid (G7.out.turnB t8 (Nat.ne_of_gt GR.out)); have M8 := Lib.hid (M7.out.block (t8.other (Ne.symm GN.out))); have FR8 : Hid (∀ c', Frs B w8 ⟨⟨k, p, m, t, d, c'⟩, x7, xc7⟩) := fun c' => own_turnB (FR7.out c') t8 GB.out; clear a8 f8 t8) | (refine wpList_store_nd rfl 3 _ _ rfl g _ rfl (.int .i64 0) rfl rfl S1.out (us.set j ⟨⟨k, p, m, t, d, c⟩, x7, xc7⟩) j 5 ⟨⟨k, p, m, t, d, c⟩, x7, xc7⟩ ⟨⟨k, p, m, t, d, 0⟩, x7, xc7⟩ (by omega) (List.getElem?_set_self UL.out) AT8.out FZ8.out rfl (keepC ⟨k, p, m, t, d, c⟩ x7 xc7 0) ?_; intro w9 a9 f9 t9; rw [List.set_set] at a9; have AT9 := Lib.hid a9; have FZ9 := Lib.hid f9; have K9 := Lib.hid (K8.out.trans (Kp.of_row t9 GB.out GW.out)); have G9 := Lib.hid (G8.out.turnB t9 (Nat.ne_of_gt GR.out)); have M9 := Lib.hid (M8.out.block (t9.other (Ne.symm GN.out))); have c5 := G9.out.get 5 rfl; have FR9 : Hid (∀ c', Frs B w9 ⟨⟨k, p, m, t, d, c'⟩, x7, xc7⟩) := fun c' => own_turnB (FR8.out c') t9 GB.out; clear a9 f9 t9))
        go_round
        case rel =>
          have hs := HNu.out.stay SJ.out.1 (.inl (by rw [SJ.out.2]; exact NM.out))
          exact ⟨j + 1, N, F, _, by go_num, by omega, ST.out.next K9.out HZ.out (by show (⟨k, p, m, t, d, 0⟩ : Nd) = ⟨k, p, m, t, d, num _ c⟩; rw [← SS.out, R0.out]) (FR9.out 0) _ (List.length_set ..) (List.getElem?_set_self UL.out) (fun i hi => List.getElem?_set_ne (Ne.symm hi)), AT9.out, FZ9.out, M9.out, by rw [hs.2]; exact HNN.out, hs.1, KK.out.trans K9.out⟩
        case measure => simp [intOf]; omega
      · have CP : Hid (0 < c) := by show _ < _; omega
        by_cases hm1 : M = 1
        · subst hm1
          have NM : Hid (¬ Many S c) := fun h => by have := h.2; have := CTJ.out; omega
          have R0 : Hid (num S c = 0) := by show _ = _; unfold num; rw [if_neg NM.out]
          go_wp2_with (first | (refine wpList_store_nd rfl 25 _ _ rfl g _ rfl (.slice x7 L xc7) rfl rfl S30.out us j 4 ⟨⟨k, p, m, t, d, c⟩, x, xc⟩ ⟨⟨k, p, m, t, d, c⟩, x7, xc7⟩ (by omega) HU.out AT7.out FZ7.out (by rw [hL.out]; rfl) (keepD _ _ _ _ _) ?_; intro w8 a8 f8 t8; have AT8 := Lib.hid a8; have FZ8 := Lib.hid f8; have K8 := Lib.hid (K7.out.trans (Kp.of_row t8 GB.out GW.out)); have G8 := Lib.hid (G7.out.turnB t8 (Nat.ne_of_gt GR.out)); have M8 := Lib.hid (M7.out.block (t8.other (Ne.symm GN.out))); have FR8 : Hid (∀ c', Frs B w8 ⟨⟨k, p, m, t, d, c'⟩, x7, xc7⟩) := fun c' => own_turnB (FR7.out c') t8 GB.out; clear a8 f8 t8) | (refine wpList_store_nd rfl 3 _ _ rfl g _ rfl (.int .i64 0) rfl rfl S1.out (us.set j ⟨⟨k, p, m, t, d, c⟩, x7, xc7⟩) j 5 ⟨⟨k, p, m, t, d, c⟩, x7, xc7⟩ ⟨⟨k, p, m, t, d, 0⟩, x7, xc7⟩ (by omega) (List.getElem?_set_self UL.out) AT8.out FZ8.out rfl (keepC ⟨k, p, m, t, d, c⟩ x7 xc7 0) ?_; intro w9 a9 f9 t9; rw [List.set_set] at a9; have AT9 := Lib.hid a9; have FZ9 := Lib.hid f9; have K9 := Lib.hid (K8.out.trans (Kp.of_row t9 GB.out GW.out)); have G9 := Lib.hid (G8.out.turnB t9 (Nat.ne_of_gt GR.out)); have M9 := Lib.hid (M8.out.block (t9.other (Ne.symm GN.out))); have c5 := G9.out.get 5 rfl; have FR9 : Hid (∀ c', Frs B w9 ⟨⟨k, p, m, t, d, c'⟩, x7, xc7⟩) := fun c' => own_turnB (FR8.out c') t9 GB.out; clear a9 f9 t9; obtain ⟨_, qs⟩ := run_lookF (P := Tryz.prog) (w := w9) 77 3 3 UM.out (.int .i64) UK.out (.int .i64 0) ZI.out mS NS (.int .i64 c) (show IsKey (.int .i64) (.int .i64 c) from rfl) FS (S4.out.block ((KK.out.trans K9.out).blk mS SB.out (Ne.symm SG.out) SN.out)); rw [FSC.out] at qs))
          go_round
          case rel =>
            have hs := HNu.out.stay SJ.out.1 (.inl (by rw [SJ.out.2]; exact NM.out))
            exact ⟨j + 1, N, F, _, by go_num, by omega, ST.out.next K9.out HZ.out (by show (⟨k, p, m, t, d, 0⟩ : Nd) = ⟨k, p, m, t, d, num _ c⟩; rw [← SS.out, R0.out]) (FR9.out 0) _ (List.length_set ..) (List.getElem?_set_self UL.out) (fun i hi => List.getElem?_set_ne (Ne.symm hi)), AT9.out, FZ9.out, M9.out, by rw [hs.2]; exact HNN.out, hs.1, KK.out.trans K9.out⟩
          case measure => simp [intOf]; omega
        · have nm1 : ¬ (M : Int) = 1 := by omega
          have nm2 : ((M : Int) == 1) = false := by simpa using nm1
          have MN : Hid (Many S c) := ⟨CP.out, by
            have h1 : 0 < S.count c := List.count_pos_iff.mpr (by obtain ⟨h, e⟩ := SJ.out; rw [← e]; exact List.getElem_mem h)
            have := CTJ.out
            omega⟩
          clear hm1
          by_cases hin : c ∈ clsU S j
          · obtain ⟨Z, hZ⟩ : ∃ Z, Z = num S c := ⟨_, rfl⟩
            have FNC : Hid (F (.int .i64 c) = some (.int .i64 Z)) := by show _ = _; rw [HNu.out c, if_pos hin, hZ]
            have HZN := Lib.hid hZ; have IN := Lib.hid hin
            clear hZ hin
            go_wp2_with (first | (refine wpList_store_nd rfl 25 _ _ rfl g _ rfl (.slice x7 L xc7) rfl rfl S30.out us j 4 ⟨⟨k, p, m, t, d, c⟩, x, xc⟩ ⟨⟨k, p, m, t, d, c⟩, x7, xc7⟩ (by omega) HU.out AT7.out FZ7.out (by rw [hL.out]; rfl) (keepD _ _ _ _ _) ?_; intro w8 a8 f8 t8; have AT8 := Lib.hid a8; have FZ8 := Lib.hid f8; have K8 := Lib.hid (K7.out.trans (Kp.of_row t8 GB.out GW.out)); have G8 := Lib.hid (G7.out.turnB t8 (Nat.ne_of_gt GR.out)); have M8 := Lib.hid (M7.out.block (t8.other (Ne.symm GN.out))); have FR8 : Hid (∀ c', Frs B w8 ⟨⟨k, p, m, t, d, c'⟩, x7, xc7⟩) := fun c' => own_turnB (FR7.out c') t8 GB.out; clear a8 f8 t8) | (refine wpList_store_nd rfl 3 _ _ rfl g _ rfl (.int .i64 0) rfl rfl S1.out (us.set j ⟨⟨k, p, m, t, d, c⟩, x7, xc7⟩) j 5 ⟨⟨k, p, m, t, d, c⟩, x7, xc7⟩ ⟨⟨k, p, m, t, d, 0⟩, x7, xc7⟩ (by omega) (List.getElem?_set_self UL.out) AT8.out FZ8.out rfl (keepC ⟨k, p, m, t, d, c⟩ x7 xc7 0) ?_; intro w9 a9 f9 t9; rw [List.set_set] at a9; have AT9 := Lib.hid a9; have FZ9 := Lib.hid f9; have K9 := Lib.hid (K8.out.trans (Kp.of_row t9 GB.out GW.out)); have G9 := Lib.hid (G8.out.turnB t9 (Nat.ne_of_gt GR.out)); have M9 := Lib.hid (M8.out.block (t9.other (Ne.symm GN.out))); have c5 := G9.out.get 5 rfl; have FR9 : Hid (∀ c', Frs B w9 ⟨⟨k, p, m, t, d, c'⟩, x7, xc7⟩) := fun c' => own_turnB (FR8.out c') t9 GB.out; clear a9 f9 t9; obtain ⟨_, qs⟩ := run_lookF (P := Tryz.prog) (w := w9) 77 3 3 UM.out (.int .i64) UK.out (.int .i64 0) ZI.out mS NS (.int .i64 c) (show IsKey (.int .i64) (.int .i64 c) from rfl) FS (S4.out.block ((KK.out.trans K9.out).blk mS SB.out (Ne.symm SG.out) SN.out)); rw [FSC.out] at qs; obtain ⟨qn1, qn2⟩ := run_lookF (P := Tryz.prog) (w := w9) 77 3 3 UM.out (.int .i64) UK.out (.int .i64 0) ZI.out mN N (.int .i64 c) (show IsKey (.int .i64) (.int .i64 c) from rfl) F M9.out; rw [FNC.out] at qn1 qn2; simp only [Option.getD_some, Option.isSome_some] at qn1 qn2) | (refine wpList_store_nd rfl 3 _ _ rfl g _ rfl (.int .i64 Z) rfl rfl S1.out (us.set j ⟨⟨k, p, m, t, d, 0⟩, x7, xc7⟩) j 5 ⟨⟨k, p, m, t, d, 0⟩, x7, xc7⟩ ⟨⟨k, p, m, t, d, Z⟩, x7, xc7⟩ (by omega) (List.getElem?_set_self UL.out) AT9.out FZ9.out rfl (keepC ⟨k, p, m, t, d, 0⟩ x7 xc7 Z) ?_; intro w12 a12 f12 t12; rw [List.set_set] at a12; have AT12 := Lib.hid a12; have FZ12 := Lib.hid f12; have K12 := Lib.hid (K9.out.trans (Kp.of_row t12 GB.out GW.out)); have M12 := Lib.hid (M9.out.block (t12.other (Ne.symm GN.out))); have FR12 : Hid (∀ c', Frs B w12 ⟨⟨k, p, m, t, d, c'⟩, x7, xc7⟩) := fun c' => own_turnB (FR9.out c') t12 GB.out; clear a12 f12 t12))
            go_round
            case rel =>
              have hs := HNu.out.stay SJ.out.1 (.inr (by rw [SJ.out.2]; exact IN.out))
              exact ⟨j + 1, N, F, _, by go_num, by omega, ST.out.next K12.out HZ.out (by show (⟨k, p, m, t, d, Z⟩ : Nd) = ⟨k, p, m, t, d, num _ c⟩; rw [← SS.out, HZN.out]) (FR12.out Z) _ (List.length_set ..) (List.getElem?_set_self UL.out) (fun i hi => List.getElem?_set_ne (Ne.symm hi)), AT12.out, FZ12.out, M12.out, by rw [hs.2]; exact HNN.out, hs.1, KK.out.trans K12.out⟩
            case measure => simp [intOf]; omega
          · obtain ⟨Z, hZ⟩ : ∃ Z : Int, Z = (N : Int) + 1 := ⟨_, rfl⟩
            have FNC : Hid (F (.int .i64 c) = none) := by show _ = _; rw [HNu.out c, if_neg hin]
            have NL : (N : Int) ≤ 40 := by have h := clsU_len (l := S) (n := j) (by rw [SLN.out]; omega); rw [← HNN.out, SLN.out] at h; have := H40.out; omega
            have HZN := Lib.hid hZ; have IN := Lib.hid hin
            have RN : Hid (wr.heap.size ≠ mN) := by have := NB.out; have := WB.out; show _ ≠ _; omega
            clear hin hZ
            go_wp2_with (first | (refine wpList_store_nd rfl 25 _ _ rfl g _ rfl (.slice x7 L xc7) rfl rfl S30.out us j 4 ⟨⟨k, p, m, t, d, c⟩, x, xc⟩ ⟨⟨k, p, m, t, d, c⟩, x7, xc7⟩ (by omega) HU.out AT7.out FZ7.out (by rw [hL.out]; rfl) (keepD _ _ _ _ _) ?_; intro w8 a8 f8 t8; have AT8 := Lib.hid a8; have FZ8 := Lib.hid f8; have K8 := Lib.hid (K7.out.trans (Kp.of_row t8 GB.out GW.out)); have G8 := Lib.hid (G7.out.turnB t8 (Nat.ne_of_gt GR.out)); have M8 := Lib.hid (M7.out.block (t8.other (Ne.symm GN.out))); have FR8 : Hid (∀ c', Frs B w8 ⟨⟨k, p, m, t, d, c'⟩, x7, xc7⟩) := fun c' => own_turnB (FR7.out c') t8 GB.out; clear a8 f8 t8) | (refine wpList_store_nd rfl 3 _ _ rfl g _ rfl (.int .i64 0) rfl rfl S1.out (us.set j ⟨⟨k, p, m, t, d, c⟩, x7, xc7⟩) j 5 ⟨⟨k, p, m, t, d, c⟩, x7, xc7⟩ ⟨⟨k, p, m, t, d, 0⟩, x7, xc7⟩ (by omega) (List.getElem?_set_self UL.out) AT8.out FZ8.out rfl (keepC ⟨k, p, m, t, d, c⟩ x7 xc7 0) ?_; intro w9 a9 f9 t9; rw [List.set_set] at a9; have AT9 := Lib.hid a9; have FZ9 := Lib.hid f9; have K9 := Lib.hid (K8.out.trans (Kp.of_row t9 GB.out GW.out)); have G9 := Lib.hid (G8.out.turnB t9 (Nat.ne_of_gt GR.out)); have M9 := Lib.hid (M8.out.block (t9.other (Ne.symm GN.out))); have c5 := G9.out.get 5 rfl; have FR9 : Hid (∀ c', Frs B w9 ⟨⟨k, p, m, t, d, c'⟩, x7, xc7⟩) := fun c' => own_turnB (FR8.out c') t9 GB.out; clear a9 f9 t9; obtain ⟨_, qs⟩ := run_lookF (P := Tryz.prog) (w := w9) 77 3 3 UM.out (.int .i64) UK.out (.int .i64 0) ZI.out mS NS (.int .i64 c) (show IsKey (.int .i64) (.int .i64 c) from rfl) FS (S4.out.block ((KK.out.trans K9.out).blk mS SB.out (Ne.symm SG.out) SN.out)); rw [FSC.out] at qs; obtain ⟨qn1, _⟩ := run_lookF (P := Tryz.prog) (w := w9) 77 3 3 UM.out (.int .i64) UK.out (.int .i64 0) ZI.out mN N (.int .i64 c) (show IsKey (.int .i64) (.int .i64 c) from rfl) F M9.out; rw [FNC.out] at qn1; simp only [Option.getD_none, Option.isSome_none] at qn1; (have ql : (Builtin.len_ #[77] 3 #[.map (some mN)]).run Tryz.prog w9 = .ok (.int .i64 (N : Int)) w9 := run_lenF 77 3 3 3 UM.out (.int .i64) mN N F M9.out)) | (refine wpList_update_map rfl 77 _ _ _ rfl 3 3 UM.out (.int .i64) UK.out mN rfl (.int .i64 c) rfl (show IsKey (.int .i64) (.int .i64 c) from rfl) (.int .i64 ((N : Int) + 1)) rfl N F M9.out ?_; intro w10 m10 t10; rw [if_pos FNC.out, ← HZN.out] at m10; clear c5 qs qn1 ql; have M10 := Lib.hid m10; have AT10 := Lib.hid (AT9.out.block (t10.other GN.out)); have FZ10 := Lib.hid (frz_block FZ9.out (t10.other GN.out)); have K10 := Lib.hid (K9.out.trans (Kp.of_map t10 NB.out CW.out)); have FR10 : Hid (∀ c', Frs B w10 ⟨⟨k, p, m, t, d, c'⟩, x7, xc7⟩) := (fun c' => own_turnB (FR9.out c') t10 NB.out); have c5 := (G9.out.turnB t10 RN.out).get 5 rfl; obtain ⟨_, qq⟩ := run_lookF (P := Tryz.prog) (w := w10) 77 3 3 UM.out (.int .i64) UK.out (.int .i64 0) ZI.out mN _ (.int .i64 c) (show IsKey (.int .i64) (.int .i64 c) from rfl) _ m10; rw [upd_same] at qq; simp only [Option.getD_some] at qq; clear m10 t10) | (refine wpList_store_nd rfl 3 _ _ rfl g _ rfl (.int .i64 Z) rfl rfl S1.out (us.set j ⟨⟨k, p, m, t, d, 0⟩, x7, xc7⟩) j 5 ⟨⟨k, p, m, t, d, 0⟩, x7, xc7⟩ ⟨⟨k, p, m, t, d, Z⟩, x7, xc7⟩ (by omega) (List.getElem?_set_self UL.out) AT10.out FZ10.out rfl (keepC ⟨k, p, m, t, d, 0⟩ x7 xc7 Z) ?_; intro w12 a12 f12 t12; rw [List.set_set] at a12; have AT12 := Lib.hid a12; have FZ12 := Lib.hid f12; have K12 := Lib.hid (K10.out.trans (Kp.of_row t12 GB.out GW.out)); have M12 := Lib.hid (M10.out.block (t12.other (Ne.symm GN.out))); have FR12 : Hid (∀ c', Frs B w12 ⟨⟨k, p, m, t, d, c'⟩, x7, xc7⟩) := fun c' => own_turnB (FR10.out c') t12 GB.out; clear a12 f12 t12))
            go_round
            case rel =>
              have hs := HNu.out.more SJ.out.1 (by rw [SJ.out.2]; exact MN.out) (by rw [SJ.out.2]; exact IN.out)
              have hnn : num S c = Z := by
                have := num_new SJ.out.1 (by rw [SJ.out.2]; exact MN.out) (by rw [SJ.out.2]; exact IN.out)
                rw [SJ.out.2, ← HNN.out, ← HZN.out] at this
                exact this
              rw [SJ.out.2, ← HNN.out, ← HZN.out] at hs
              exact ⟨j + 1, N + 1, _, _, by go_num, by omega, ST.out.next K12.out HZ.out (by show (⟨k, p, m, t, d, Z⟩ : Nd) = ⟨k, p, m, t, d, num _ c⟩; rw [← SS.out, hnn]) (FR12.out Z) _ (List.length_set ..) (List.getElem?_set_self UL.out) (fun i hi => List.getElem?_set_ne (Ne.symm hi)), AT12.out, FZ12.out, M12.out, hs.2.symm, hs.1, KK.out.trans K12.out⟩
            case measure => simp [intOf]; omega
    · obtain rfl : j = n := by omega
      have EN := Lib.hid hst; have AT := Lib.hid hat; have FZ := Lib.hid hfz; have KK := Lib.hid hK
      clear hst hat hfz hM hNN hNu hK
      go_wp2
      go_ret
      have hen := EN.out
      have hzl := ZL.out
      subst hzl
      obtain ⟨e1, e2⟩ := hen.end_
      refine ⟨some ⟨g, 0, none⟩, gc, us, rfl, ⟨hen.len, GC.out, GM.out, .inr ⟨g, 0, rfl, ?_, AT.out⟩, fun u hu => ?_⟩, ?_, fun u hu => ?_, fun x hx => ?_, B4.out.trans KK.out.bel⟩
      · have := GB.out; have := hBB.out; have := KK.out.sz; omega
      · obtain ⟨h1, z, h2, h3⟩ := e2 u hu
        refine (HS.out z (ZM.out z h2)).fresh h3 h1 ?_
        have := num_le (cs (nds zs)) z.n.c
        have hl : (cs (nds zs)).length = zs.length := by unfold cs; rw [List.length_map, nds_len]
        have := H40.out
        omega
      · rw [e1, ZS.out]; rfl
      · exact own_base (e2 u hu).1 (by have := CW.out; have := NB.out; omega)
      · cases hx
        exact ⟨GW.out, rfl, FZ.out⟩
end Go.Proofs.YtmbimnnacjbdfaaGreatDoor.Tre
