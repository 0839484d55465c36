/-
  Layer 19: the reference's file system in memory.
-/
import Derived.Test.YthcbiohmghaobaaDoorPz05
import Derived.Test.YthcbiohmghaobaaDoorPz10
import Derived.Test.YthcbiohmghaobaaDoorPz02
namespace Go.Proofs.YthcbiohmghaobaaDoor.Vfs
open Go.RowKit Go.MapKept Go.Proofs.YthcbiohmghaobaaDoor.Pnm Flt

/-- an inode of the reference: it has no number of links and no names -/
def str (x : Ino) : Ino := { x with l := 0, ns := [] }
structure RiS where
  x : Ino
  a : Option Addr
  c : Nat
abbrev rinL (k m num : Int) (a : Option Addr) (n c : Nat) (t : ByteArray) (u mt : Int) : List Value := [.int .i64 k, .int .i64 m, .int .i64 num, .slice a n c, .string t, .int .i64 u, .int .i64 mt]
abbrev rinV (y : RiS) : List Value := rinL y.x.k y.x.m y.x.num y.a y.x.d.length y.c y.x.t y.x.u y.x.mt
abbrev ptV (q : ByteArray × Nat) : List Value := [.string q.1, .int .i64 (q.2 : Int)]
abbrev rfL (F S : Int) (ra : Option Addr) (rn rc : Nat) (vi vp : Value) (ls : Int) : List Value := [.int .i64 F, .int .i64 S, .slice ra rn rc, vi, vp, .int .i64 ls]
theorem rinV_len : ∀ y, (rinV y).length = 7 := fun _ => rfl
theorem ptV_len : ∀ q, (ptV q).length = 2 := fun _ => rfl
/-- THE REFERENCE's file system at block g -/
structure RfP (N : Nat) (F S : Int) (R : List Int) (W D : Nat → Prop) (w : World) (g : Nat) (s : St) (ra : Option Addr) (rc : Nat) (vi vp : Value) (xs : List RiS) : Prop where
  o : ObjAt w g 88 (rfL F S ra R.length rc vi vp (s.ls : Int))
  i : w.ownsRow 0 90 7 vi xs.length (sCl rinV xs)
  p : w.ownsRow 0 92 2 vp s.ps.length (sCl ptV s.ps)
  x : xs.map (·.x) = s.is.map str
  d : ∀ y ∈ xs, BytesIn w y.a y.x.d ∧ y.x.d.length ≤ y.c ∧ y.c ≤ maxLen ∧ ∀ a, y.a = some a → y.x.d ≠ [] → D a.block
  r : InK .i64 w ra R
  rl : R.length ≤ rc
  rd : ∀ a, ra = some a → R ≠ [] → D a.block
  rz : ∀ z ∈ R, 0 ≤ z
  wf : Wf N s
  wg : W g
  wi : ∀ k, vi.ownBlock = some k → W k
  wp : ∀ k, vp.ownBlock = some k → W k
  wd : ∀ k, W k → ¬ D k
  lt : ∀ k, W k ∨ D k → k < w.heap.size
  b : 1 ≤ F ∧ F ≤ 1000000 ∧ 1 ≤ S ∧ S ≤ 1000000
def RfS (N : Nat) (F S : Int) (R : List Int) (T : Nat → Prop) (w : World) (g : Nat) (s : St) : Prop :=
  ∃ W D ra rc vi vp xs, RfP N F S R W D w g s ra rc vi vp xs ∧ (∀ k, W k ∨ D k → T k) ∧ ∀ k, T k → k < w.heap.size
section
variable {N : Nat} {F S : Int} {R : List Int} {W D T U : Nat → Prop} {w w' : World} {g : Nat} {s : St} {ra : Option Addr} {rc : Nat} {vi vp : Value} {xs : List RiS}
theorem RfP.keep (h : RfP N F S R W D w g s ra rc vi vp xs) (hs : w.heap.size ≤ w'.heap.size) (hk : ∀ k, k < w.heap.size → W k ∨ D k → w'.heap[k]? = w.heap[k]?) : RfP N F S R W D w' g s ra rc vi vp xs := by
  refine ⟨h.o.block (hk _ h.o.lt (.inl h.wg)), own_keepS h.i fun k hk' hl => hk k hl (.inl (h.wi k hk')), own_keepS h.p fun k hk' hl => hk k hl (.inl (h.wp k hk')), h.x, fun y hy => ?_, ?_, h.rl, h.rd, h.rz, h.wf, h.wg, h.wi, h.wp, h.wd, fun k hk' => Nat.lt_of_lt_of_le (h.lt k hk') hs, h.b⟩
  · obtain ⟨d1, d2, d3, d4⟩ := h.d y hy
    refine ⟨?_, d2, d3, d4⟩
    by_cases h0 : y.x.d = []
    · exact .inl h0
    · exact d1.block hs fun a ha hl => hk _ hl (.inr (d4 a ha h0))
  · by_cases h0 : R = []
    · exact .inl (by rw [h0])
    · exact h.r.block hs fun a ha hl => hk _ hl (.inr (h.rd a ha h0))
theorem RfS.only (h : RfS N F S R T w g s) (ho : Only U w w') (hd : ∀ k, T k → ¬ U k) : RfS N F S R T w' g s := by
  obtain ⟨W, D, ra, rc, vi, vp, xs, h1, h2, h3⟩ := h
  exact ⟨W, D, ra, rc, vi, vp, xs, h1.keep ho.size fun k hk hw => ho.block k hk (hd k (h2 k hw)), h2, fun k hk => Nat.lt_of_lt_of_le (h3 k hk) ho.size⟩
theorem RfS.below (h : RfS N F S R T w g s) (hb : Below w.heap.size w w') : RfS N F S R T w' g s := h.only (U := fun _ => False) (Only.of_below hb (Nat.le_refl _)) fun _ _ c => c
theorem RfS.wide (h : RfS N F S R T w g s) (hT : ∀ k, T k → U k) (hl : ∀ k, U k → k < w.heap.size) : RfS N F S R U w g s := by
  obtain ⟨W, D, ra, rc, vi, vp, xs, h1, h2, h3⟩ := h
  exact ⟨W, D, ra, rc, vi, vp, xs, h1, fun k hk => hT k (h2 k hk), hl⟩
theorem RfS.lt (h : RfS N F S R T w g s) : ∀ k, T k → k < w.heap.size := by
  obtain ⟨W, D, ra, rc, vi, vp, xs, h1, h2, h3⟩ := h
  exact h3
theorem RfS.turn {k : Nat} (h : RfS N F S R T w g s) (t : TurnB w w' k) (hg : ¬ T k) : RfS N F S R T w' g s :=
  h.only (U := fun q => q = k) (only_turn (Only.refl _ w) t (.inl rfl)) fun q hq e => hg (by rw [← e]; exact hq)
theorem RfS.stay (h : RfS N F S R T w g s) (hb : Below w.heap.size w w') : Only T w w' ∧ RfS N F S R (Grow T w w') w' g s :=
  ⟨Only.of_below hb (Nat.le_refl _), (h.below hb).wide (fun _ hk => .inl hk) (grow_lt h.lt hb.size)⟩
end
/-- a literal's row -/
theorem own_litS {w : World} {g k : Nat} {e : TypeId} {vs : List Value} (h : ObjAt w g e vs) (hk : vs.length = k) (base : Nat) (hb : base ≤ g) : w.ownsRow base e k (.slice (some ⟨g, 0, none⟩) 1 1) 1 vs := by
  refine ⟨by rw [Nat.one_mul]; exact hk, .inr ⟨g, 1, vs.toArray, rfl, hb, h, Nat.le_refl _, by unfold maxLen; omega, by rw [Nat.one_mul]; simpa using hk, ?_⟩⟩
  rw [Nat.one_mul, List.toList_toArray]
  exact List.take_of_length_le (Nat.le_of_eq hk)
theorem run_lit_7 {P : Program} {w : World} (t e : TypeId) (ht : P.underlying t = some (.slice e)) (z : Value) (hI : (P.info? e).map (fun i => (i.zero, i.size)) = some (some z, 7)) (u0 u1 u2 u3 u4 u5 u6 : Value) :
    (Instr.buildSlice t 1 #[(0, .agg #[u0, u1, u2, u3, u4, u5, u6])]).run P w = .ok (.slice (some ⟨w.heap.size, 0, none⟩) 1 1) (w.alloc (.cells #[u0, u1, u2, u3, u4, u5, u6] e)) := by
  cases hq : P.info? e with
  | none => simp [hq] at hI
  | some i =>
    simp [hq] at hI
    simp [Instr.buildSlice, run_underlying ht, sizeOf, typeInfo, zeroValue, hq, hI.1, hI.2, Instr.fill, newRow, Value.cells]
    rw [show Array.range 7 = #[0, 1, 2, 3, 4, 5, 6] by decide]; simp
theorem run_lit_2 {P : Program} {w : World} (t e : TypeId) (ht : P.underlying t = some (.slice e)) (z : Value) (hI : (P.info? e).map (fun i => (i.zero, i.size)) = some (some z, 2)) (u0 u1 : Value) :
    (Instr.buildSlice t 1 #[(0, .agg #[u0, u1])]).run P w = .ok (.slice (some ⟨w.heap.size, 0, none⟩) 1 1) (w.alloc (.cells #[u0, u1] e)) := by
  cases hq : P.info? e with
  | none => simp [hq] at hI
  | some i =>
    simp [hq] at hI
    simp [Instr.buildSlice, run_underlying ht, sizeOf, typeInfo, zeroValue, hq, hI.1, hI.2, Instr.fill, newRow, Value.cells]
    rw [show Array.range 2 = #[0, 1] by decide]; simp
end Go.Proofs.YthcbiohmghaobaaDoor.Vfs
/-
  Layer 19: the statements' own Options.
-/
namespace Go.Proofs.YthcbiohmghaobaaDoor.Vfs
open Go.RowKit Go.MapKept Go.Proofs.YthcbiohmghaobaaDoor.Pnm Flt

theorem run_lit_i1 {P : Program} {w : World} (t e : TypeId) (ht : P.underlying t = some (.slice e)) (z : Value) (hI : (P.info? e).map (fun i => (i.zero, i.size)) = some (some z, 1)) (v : Int) (k : IntKind) :
    (Instr.buildSlice t 1 #[(0, .int k v)]).run P w = .ok (.slice (some ⟨w.heap.size, 0, none⟩) 1 1) (w.alloc (.cells [Value.int k v].toArray e)) := by
  cases hq : P.info? e with
  | none => simp [hq] at hI
  | some i =>
    simp [hq] at hI
    simp [Instr.buildSlice, run_underlying ht, sizeOf, typeInfo, zeroValue, hq, hI.1, hI.2, Instr.fill, newRow, Value.cells]
    rw [show Array.range 1 = #[0] by decide]; simp
theorem obj_ink {w : World} {g : Nat} {e : TypeId} {k : IntKind} {v : Int} (h : ObjAt w g e [.int k v]) : InK k w (some ⟨g, 0, none⟩) [v] := .inr ⟨g, 0, rfl, h.lt, fun i hi => by
  obtain rfl : i = 0 := by simp at hi; exact hi
  exact h.get 0 rfl⟩
set_option maxRecDepth 100000 in
set_option maxHeartbeats 4000000 in
theorem opts_any (f0 s0 : Int) (hf : 0 ≤ f0 ∧ f0 ≤ 65535) (hs : 0 ≤ s0 ∧ s0 ≤ 65535) (a : Option Addr) (n c : Nat) (zs : List Int) (w : World) (ha : InK .u8 w a zs) (hl : zs.length = n) (hnc : n ≤ c) (hz : Bytes zs) (hn : n ≤ 1000000) :
    Calls Tryd.prog 11 #[.int .u16 f0, .int .u16 s0, .slice a n c] w fun e w' => ∃ a' c', e = .returned (.agg (opL (1 + f0) (1 + s0) a' n c').toArray) ∧ InK .i64 w' a' zs ∧ Below w.heap.size w w' := by
  have HA := Lib.hid ha; have HL := Lib.hid hl; have HZ := Lib.hid hz
  have hn' : (n : Int) ≤ 1000000 := by omega
  have hnc' : (n : Int) ≤ c := by omega
  have w1 : IntKind.i64.wrap (1 + f0) = 1 + f0 := wrapP (by omega) (by omega)
  have w2 : IntKind.i64.wrap (1 + s0) = 1 + s0 := wrapP (by omega) (by omega)
  have w3 : IntKind.i64.wrap f0 = f0 := wrapP (by omega) (by omega)
  have w4 : IntKind.i64.wrap s0 = s0 := wrapP (by omega) (by omega)
  have OT : Hid (ObjT Tryd.prog 30 3) := ⟨⟨_, Tryd.underlying30⟩, by kernel_rfl⟩
  have ZO : Hid ((Tryd.prog.info? 30).map (·.zero) = some (some (.agg (opL 0 0 none 0 0).toArray))) := by show _ = _; kernel_rfl
  have LI : Hid ((Tryd.prog.info? 3).map (fun i => (i.zero, i.size)) = some (some (.int .i64 0), 1)) := by show _ = _; kernel_rfl
  have SS : Hid ((Tryd.prog.info? 28).map (·.size) = some 1) := by show _ = _; kernel_rfl
  have HE := Lib.hid i64T
  obtain ⟨F, hF⟩ := named (1 + f0); obtain ⟨S, hS⟩ := named (1 + s0)
  rw [← hF.out, ← hS.out]
  replace w1 : IntKind.i64.wrap (1 + f0) = F := by rw [hF.out]; exact w1
  replace w2 : IntKind.i64.wrap (1 + s0) = S := by rw [hS.out]; exact w2
  have HF := Lib.hid hF.out; have HS := Lib.hid hS.out
  clear ha hl hz hn hnc hf hs hF hS
  go_enter Tryd.func11, Tryd.ntmps11
  go_wp2_with (first | (refine wpList_alloc_obj rfl 30 rfl _ ZO.out ?_; intro wb hb2 bb2; have R2 := Lib.hid (R1.out.below bb2 R1.out.lt); have O2 := Lib.hid hb2; have BB := Lib.hid (belT BA.out bb2); have LA := Lib.hid (Nat.le_refl wa.heap.size); clear hb2 bb2) | (refine wpList_alloc_obj rfl 30 rfl _ ZO.out ?_; intro wa ha1 ba1; have R1 := Lib.hid ha1; have BA := Lib.hid ba1; clear ha1 ba1) | (refine wpList_store_obj rfl 30 _ _ rfl wa.heap.size rfl (opL F S none 0 0) (opL 0 0 none 0 0) rfl 30 O2.out OT.out.2 rfl (by simp [Value.oneCell']) ?_; intro wc gc tc; have O3 := Lib.hid gc; have T3 := Lib.hid tc; clear gc tc))
  have BC : Hid (Below w.heap.size w wc) := BB.out.trans (T3.out.below BA.out.size)
  have O4 : Hid (ObjAt wc wa.heap.size 30 (opL F S none 0 0)) := O3.out
  have R4 : Hid (ObjAt wc w.heap.size 30 (opL 0 0 none 0 0)) := R2.out.turnB (tb T3.out) (Nat.ne_of_lt R1.out.lt)
  have GA : Hid (w.heap.size < wa.heap.size ∧ wa.heap.size < wc.heap.size) := ⟨R1.out.lt, O3.out.lt⟩
  clear O2 O3 R1 R2 BA BB LA T3 ZO
  go_loopw [9, 19] (fun _ i wr => ∃ (j : Nat) (b : Option Addr) (cp : Nat), j ≤ n ∧ i = .int .i64 j ∧ ObjAt wr wa.heap.size 30 (opL F S b j cp) ∧ ObjAt wr w.heap.size 30 (opL 0 0 none 0 0) ∧ wr.ownsRow wc.heap.size 3 1 (.slice b j cp) j ((zs.take j).map (.int .i64)) ∧ Below w.heap.size w wr ∧ wc.heap.size ≤ wr.heap.size) (fun _ i _ => n - (intOf i).toNat)
  case atStart => exact ⟨0, none, 0, Nat.zero_le _, rfl, O4.out, R4.out, ⟨rfl, .inl ⟨rfl, rfl⟩⟩, BC.out, Nat.le_refl _⟩
  case round =>
    obtain ⟨j, b, cp, hj, rfl, ho, hr, hw, hb, hsz⟩ := hrel
    have HO := Lib.hid ho; have HR := Lib.hid hr; have HW := Lib.hid hw; have HB := Lib.hid hb; have HSZ := Lib.hid hsz; have JN := Lib.hid hj
    clear ho hr hw hb hsz hj
    by_cases hlt : j < n
    · have hlt' : (j : Int) < n := by omega
      obtain ⟨g, off, rfl, hg⟩ := HA.out.plain (by rw [HL.out]; omega)
      obtain ⟨d, hd⟩ := named (zs.getD j 0)
      have hj2 : (j : Int) < c := by omega
      have hcell : wr.cell? ⟨g, off + j, none⟩ = some (.int .u8 d) := by
        rw [hd.out]
        exact (World.cell?_of_block (HB.out.block g hg)).trans (HA.out.get j (by rw [HL.out]; exact hlt))
      have hdb := HZ.out.getD j
      rw [← hd.out] at hdb
      have wd : IntKind.i64.wrap d = d := wrapP (by omega) (by omega)
      have c2 := HO.out.get 2 rfl
      have TK : Hid (zs.take (j + 1) = zs.take j ++ [d]) := by
        show _ = _
        rw [List.take_add_one, hd.out, List.getD_eq_getElem?_getD, List.getElem?_eq_getElem (by rw [HL.out]; exact hlt)]; rfl
      have TL : Hid ((zs.take j).length = j) := by show _ = _; rw [List.length_take, HL.out]; omega
      have HLT := Lib.hid hlt
      clear hd hdb hg hlt
      go_wp2_with (first | (at_builtin; refine wpList_append_k rfl _ _ 28 rfl wc.heap.size 3 .i64 8 Tryd.underlying28 HE.out (.slice b j cp) j (zs.take j) rfl W1.out (some ⟨wr.heap.size, 0, none⟩) 1 1 [d] rfl (obj_ink G1.out) rfl (by have := HLT.out; unfold maxLen; omega) (by have := HLT.out; omega) (Nat.le_trans HSZ.out B1.out.size) ?_; intro v2 w2 h2 b2; have O2 := Lib.hid h2; have B2 := Lib.hid b2; have Q2 := Lib.hid (Q1.out.below b2 GA.out.2); have S2 := Lib.hid (S1.out.below b2 (Nat.lt_trans GA.out.1 GA.out.2)); have V2 := Lib.hid (own_slice h2); clear h2 b2) | (refine wpList_lit_run rfl 28 3 _ rfl (.int .i64 d) rfl [.int .i64 d] (run_lit_i1 _ _ Tryd.underlying28 _ LI.out _ _) ?_; intro w1 g1 b1; have G1 := Lib.hid g1; have B1 := Lib.hid b1; have W1 := Lib.hid (own_stay' HW.out b1 (Nat.le_refl _)); have Q1 := Lib.hid (HO.out.below b1 HO.out.lt); have S1 := Lib.hid (HR.out.below b1 HR.out.lt); clear g1 b1) | (obtain ⟨a2, c3, rfl, _, _⟩ := V2.out; refine wpList_store_cell rfl 28 _ _ rfl wa.heap.size 2 rfl (.slice a2 (j + 1) c3) rfl rfl SS.out 30 _ Q2.out (by show 2 < 3; omega) ?_; intro w3 g3 t3; have Q3 : Hid (ObjAt w3 wa.heap.size 30 (opL F S a2 (j + 1) c3)) := g3; have T3 := Lib.hid t3; clear g3 t3))
      go_roundw
      case rel =>
        have g := GA.out; have s1 := B1.out.size; have s2 := B2.out.size; have s0 := HSZ.out
        refine ⟨j + 1, a2, c3, HLT.out, by go_num, Q3.out, S2.out.turnB T3.out (Nat.ne_of_lt g.1), ?_, ?_, by rw [T3.out.size]; omega⟩
        · rw [TK.out]
          exact own_turnB O2.out T3.out g.2
        · exact ((HB.out.trans (B1.out.mono HB.out.size)).trans (B2.out.mono (by omega))).trans (T3.out.below (by omega))
      case measure => simp [intOf]; have := HLT.out; omega
    · obtain rfl : j = n := by have := JN.out; omega
      have FW : Hid (wr.ownsRow wc.heap.size 3 1 (.slice b j cp) j (zs.map (.int .i64))) := by
        have := HW.out
        rwa [List.take_of_length_le (by rw [HL.out]; exact Nat.le_refl _)] at this
      clear hlt
      go_wp2_with (first | (refine wpList_load_obj rfl 30 3 OT.out _ rfl wa.heap.size rfl _ _ HO.out rfl ?_) | (refine wpList_store_obj rfl 30 _ _ rfl w.heap.size rfl (opL F S b j cp) (opL 0 0 none 0 0) rfl 30 HR.out OT.out.2 rfl (by simp [Value.oneCell']) ?_; intro w4 g4 t4; have R5 := Lib.hid g4; have T5 := Lib.hid t4; clear g4 t4))
      refine bodyPost_ret (results_obj Tryd.results11 OT.out _ w.heap.size rfl _ (opL F S b j cp) R5.out rfl) rfl ?_
      have o := own_turnB FW.out (tb T5.out) (Nat.lt_trans GA.out.1 GA.out.2)
      obtain ⟨b', cap', hv, q1, _⟩ := own_any o
      simp only [Value.slice.injEq, true_and] at hv
      obtain ⟨rfl, rfl⟩ := hv
      exact ⟨b, cp, rfl, q1, HB.out.trans (T5.out.below (Nat.le_refl _))⟩
end Go.Proofs.YthcbiohmghaobaaDoor.Vfs
/-
  Layer 19: the reference's New.
-/
namespace Go.Proofs.YthcbiohmghaobaaDoor.Vfs
open Go.RowKit Go.MapKept Go.Proofs.YthcbiohmghaobaaDoor.Pnm Flt

theorem optE_bad {F S : Int} {R : List Int} (h : ¬ (numOk F ∧ numOk S ∧ ∀ z ∈ R, 0 ≤ z)) : optE F S R = 2 := if_neg h
theorem optE_good {F S : Int} {R : List Int} (h : numOk F ∧ numOk S ∧ ∀ z ∈ R, 0 ≤ z) : optE F S R = 0 := if_pos h
/-- what New answers -/
def RetRn (N : Nat) (F S : Int) (R : List Int) (w : World) (e : Ending) (w' : World) : Prop :=
  (optE F S R = 2 ∧ e = .returned (.tuple #[.pointer none, .int .i64 2]) ∧ Below w.heap.size w w') ∨
  (optE F S R = 0 ∧ ∃ g, e = .returned (.tuple #[.pointer (some ⟨g, 0, none⟩), .int .i64 0]) ∧ RfS N F S R (fun k => w.heap.size ≤ k ∧ k < w'.heap.size) w' g (st0 F) ∧ Below w.heap.size w w')
set_option maxRecDepth 100000 in
set_option maxHeartbeats 4000000 in
theorem rnew_any (N : Nat) (hN : 0 < N) (F S : Int) (a : Option Addr) (n c : Nat) (R : List Int) (w : World) (hi : InK .i64 w a R) (hl : R.length = n) (hnc : n ≤ c) (hn : n ≤ 17592186044416) :
    Calls Tryd.prog 13 #[.int .i64 F, .int .i64 S, .slice a n c] w (RetRn N F S R w) := by
  have HI := Lib.hid hi; have HL := Lib.hid hl; have HNN := Lib.hid hN
  have hn' : (n : Int) ≤ 17592186044416 := by omega
  have hnc' : (n : Int) ≤ c := by omega
  have HN := Lib.hid hn
  clear hi hl hn hnc hN
  by_cases f1 : F < 1
  · have hb := Lib.hid (optE_bad (F := F) (S := S) (R := R) (fun h => by have := h.1.1; omega))
    go_enter Tryd.func13, Tryd.ntmps13
    go_wp2_with fail
    go_ret2
    exact .inl ⟨hb.out, rfl, Below.refl _ _⟩
  by_cases f2 : 1000000 < F
  · have hb := Lib.hid (optE_bad (F := F) (S := S) (R := R) (fun h => by have := h.1.2; omega))
    go_enter Tryd.func13, Tryd.ntmps13
    go_wp2_with fail
    go_ret2
    exact .inl ⟨hb.out, rfl, Below.refl _ _⟩
  by_cases s1 : S < 1
  · have hb := Lib.hid (optE_bad (F := F) (S := S) (R := R) (fun h => by have := h.2.1.1; omega))
    go_enter Tryd.func13, Tryd.ntmps13
    go_wp2_with fail
    go_ret2
    exact .inl ⟨hb.out, rfl, Below.refl _ _⟩
  by_cases s2 : 1000000 < S
  · have hb := Lib.hid (optE_bad (F := F) (S := S) (R := R) (fun h => by have := h.2.1.2; omega))
    go_enter Tryd.func13, Tryd.ntmps13
    go_wp2_with fail
    go_ret2
    exact .inl ⟨hb.out, rfl, Below.refl _ _⟩
  have KF : Hid (numOk F) := by show numOk F; unfold numOk; omega
  have KS : Hid (numOk S) := by show numOk S; unfold numOk; omega
  have E1 : Hid ((Tryd.prog.info? 3).map (·.size) = some 1) := by show _ = _; obtain ⟨i, h1, _, h2, _⟩ := i64T; simp [h1, h2]
  have HE := Lib.hid i64T
  have L7 : Hid ((Tryd.prog.info? 90).map (fun i => (i.zero, i.size)) = some (some (.agg #[.int .i64 0, .int .i64 0, .int .i64 0, .slice none 0 0, .string ⟨#[]⟩, .int .i64 0, .int .i64 0]), 7)) := by show _ = _; kernel_rfl
  have L2 : Hid ((Tryd.prog.info? 92).map (fun i => (i.zero, i.size)) = some (some (.agg #[.string ⟨#[]⟩, .int .i64 0]), 2)) := by show _ = _; kernel_rfl
  have SI : Hid ((Tryd.prog.info? 85).map (·.size) = some 1) := by show _ = _; kernel_rfl
  have SP : Hid ((Tryd.prog.info? 86).map (·.size) = some 1) := by show _ = _; kernel_rfl
  go_enter Tryd.func13, Tryd.ntmps13
  go_wp2_with fail
  go_loopw [8] (fun i wr => ∃ j : Nat, i = .int .i64 j ∧ wr = w ∧ j ≤ n ∧ Hid (∀ k, k < j → 0 ≤ R.getD k 0)) (fun i _ => n - (intOf i).toNat)
  case atStart => exact ⟨0, rfl, rfl, Nat.zero_le _, fun k hk => absurd hk (Nat.not_lt_zero k)⟩
  case round =>
    obtain ⟨j, rfl, rfl, hj, HP⟩ := hrel
    by_cases hlt : j < n
    · have hlt' : (j : Int) < n := by omega
      have hj2 : (j : Int) < c := by omega
      obtain ⟨b, off, rfl, _⟩ := HI.out.plain (by rw [HL.out]; omega)
      obtain ⟨d, hd⟩ := named (R.getD j 0)
      have hcell := HI.out.get j (by rw [HL.out]; exact hlt)
      rw [← hd.out] at hcell
      by_cases h0 : d < 0
      · have hb := Lib.hid (optE_bad (F := F) (S := S) (R := R) (fun h => by
          have := h.2.2 d (by rw [hd.out, List.getD_eq_getElem?_getD, List.getElem?_eq_getElem (by rw [HL.out]; exact hlt)]; exact List.getElem_mem _)
          omega))
        clear hd
        go_wp2_with fail
        go_ret2
        exact .inl ⟨hb.out, rfl, Below.refl _ _⟩
      · have HP2 : Hid (∀ k, k < j + 1 → 0 ≤ R.getD k 0) := fun k hk => by
          by_cases e : k < j
          · exact HP.out k e
          · obtain rfl : k = j := by omega
            rw [← hd.out]; omega
        clear hd
        go_wp2_with fail
        go_roundw
        case rel => exact ⟨j + 1, by go_num, by simp, by omega, HP2⟩
        case measure => simp [intOf]; omega
    · obtain rfl : j = n := by omega
      have RZ : Hid (∀ z ∈ R, 0 ≤ z) := fun z hz => by
        obtain ⟨i, hi, rfl⟩ := List.getElem_of_mem hz
        have := HP.out i (by rw [← HL.out]; exact hi)
        rwa [List.getD_eq_getElem?_getD, List.getElem?_eq_getElem hi] at this
      have hg := Lib.hid (optE_good (F := F) (S := S) (R := R) ⟨KF.out, KS.out, RZ.out⟩)
      clear HP hlt
      go_wp2_with (first | (refine wpList_lit_k rfl 28 3 .i64 rfl Tryd.underlying28 E1.out ?_; intro w1 h1 b1; have O1 := Lib.hid h1; have B1 := Lib.hid b1; clear h1 b1) | (at_builtin; refine wpList_append_k rfl _ _ 28 rfl wr.heap.size 3 .i64 8 Tryd.underlying28 HE.out (.slice (some ⟨wr.heap.size, 0, none⟩) 0 0) 0 [] rfl O1.out a j c R rfl (HI.out.below B1.out) HL.out (by have := HN.out; unfold maxLen; omega) (by have := HN.out; omega) B1.out.size ?_; intro v2 w2 h2 b2; rw [Nat.zero_add, List.nil_append] at h2; obtain ⟨a2, c2, rfl, _, _⟩ := own_slice h2; have O2 := Lib.hid h2; have B2 : Hid (Below wr.heap.size wr w2) := B1.out.trans b2; clear h2 b2) | (refine wpList_box_obj rfl 88 _ rfl (rfL F S a2 j c2 (.slice none 0 0) (.slice none 0 0) 0) rfl ?_; intro w3 h3 b3; have G3 := Lib.hid h3; have B3 := Lib.hid (belT B2.out b3); have O3 := Lib.hid (own_stay' O2.out b3 (Nat.le_refl _)); clear h3 b3) | (refine wpList_lit_run rfl 85 90 _ rfl (.agg #[.int .i64 0, .int .i64 493, .int .i64 F, .slice none 0 0, .string ⟨#[]⟩, .int .i64 0, .int .i64 0]) rfl [.int .i64 0, .int .i64 493, .int .i64 F, .slice none 0 0, .string ⟨#[]⟩, .int .i64 0, .int .i64 0] (run_lit_7 _ _ Tryd.underlying85 _ L7.out _ _ _ _ _ _ _) ?_; intro w4 h4 b4; have I4 := Lib.hid h4; have B4 := Lib.hid (belT B3.out b4); have O4 := Lib.hid (own_stay' O3.out b4 (Nat.le_refl _)); have G4 := Lib.hid (G3.out.below b4 G3.out.lt); clear h4 b4) | (refine wpList_store_cell rfl 85 _ _ rfl w2.heap.size 3 rfl (.slice (some ⟨w3.heap.size, 0, none⟩) 1 1) rfl rfl SI.out 88 _ G4.out (by show 3 < 6; omega) ?_; intro w5 g5 t5; have G5 : Hid (ObjAt w5 w2.heap.size 88 (rfL F S a2 j c2 (.slice (some ⟨w3.heap.size, 0, none⟩) 1 1) (.slice none 0 0) 0)) := g5; have T5 := Lib.hid t5; clear g5 t5) | (refine wpList_lit_run rfl 86 92 _ rfl (.agg #[.string ⟨#[]⟩, .int .i64 0]) rfl [.string ⟨#[]⟩, .int .i64 0] (run_lit_2 _ _ Tryd.underlying86 _ L2.out _ _) ?_; intro w6 h6 b6; have P6 := Lib.hid h6; have B6 := Lib.hid b6; have G6 := Lib.hid (G5.out.below b6 G5.out.lt); clear h6 b6) | (refine wpList_store_cell rfl 86 _ _ rfl w2.heap.size 4 rfl (.slice (some ⟨w5.heap.size, 0, none⟩) 1 1) rfl rfl SP.out 88 _ G6.out (by show 4 < 6; omega) ?_; intro w7 g7 t7; have G7 : Hid (ObjAt w7 w2.heap.size 88 (rfL F S a2 j c2 (.slice (some ⟨w3.heap.size, 0, none⟩) 1 1) (.slice (some ⟨w5.heap.size, 0, none⟩) 1 1) 0)) := g7; have T7 := Lib.hid t7; clear g7 t7))
      go_ret2
      have q1 := B1.out.size; have q2 := B2.out.size; have q3 := G3.out.lt; have q4 := I4.out.lt; have q5 := T5.out.size; have q6 := P6.out.lt; have q7 := T7.out.size
      have z3 := B3.out.size; have z6 := B6.out.size
      have i5 : ObjAt w5 w3.heap.size _ _ := I4.out.turnB T5.out (by omega)
      have i6 := i5.below B6.out i5.lt
      have i7 : ObjAt w7 w3.heap.size _ _ := i6.turnB T7.out (by omega)
      have p7 : ObjAt w7 w5.heap.size _ _ := P6.out.turnB T7.out (by omega)
      have r5 := own_keepS O4.out (w' := w5) fun k hk hl => T5.out.other fun e => not_obj O4.out G4.out (by decide) (by rw [hk, e])
      have r6 := own_stay' r5 B6.out (Nat.le_refl _)
      have r7 := own_keepS r6 (w' := w7) fun k hk hl => T7.out.other fun e => not_obj r6 G6.out (by decide) (by rw [hk, e])
      obtain ⟨b', cap', hv, rin, rc1, rc2, _, rad⟩ := own_any r7
      simp only [Value.slice.injEq, true_and] at hv
      obtain ⟨rfl, rfl⟩ := hv
      have bel : Below wr.heap.size wr w7 := ((B4.out.trans (T5.out.below q2)).trans (B6.out.mono (by omega))).trans (T7.out.below q2)
      have hne : ∀ x, a2 = some x → x.block ≠ w2.heap.size ∧ x.block ≠ w3.heap.size ∧ x.block ≠ w5.heap.size := fun x hx => by
        have e : (Value.slice a2 j c2).ownBlock = some x.block := by rw [hx]; rfl
        exact ⟨fun c => not_obj r7 G7.out (by decide) (by rw [e, c]), fun c => not_obj r7 i7 (by decide) (by rw [e, c]), fun c => not_obj r7 p7 (by decide) (by rw [e, c])⟩
      refine .inr ⟨hg.out, w2.heap.size, rfl, ⟨fun k => k = w2.heap.size ∨ k = w3.heap.size ∨ k = w5.heap.size, fun k => ∃ x, a2 = some x ∧ x.block = k, a2, c2, _, _, [⟨⟨0, 493, F, 0, [], ⟨#[]⟩, 0, 0, []⟩, none, 0⟩], ⟨?_, own_litS i7 rfl 0 (Nat.zero_le _), own_litS p7 rfl 0 (Nat.zero_le _), rfl, ?_, rin, by rw [HL.out]; exact rc1, fun x hx _ => ⟨x, hx, rfl⟩, RZ.out, (gd0 N F S HNN.out).wf, .inl rfl, ?_, ?_, ?_, ?_, ⟨KF.out.1, KF.out.2, KS.out.1, KS.out.2⟩⟩, ?_, fun k hk => hk.2⟩, bel⟩
      · rw [HL.out]; exact G7.out
      · intro y hy
        obtain rfl : y = _ := by simpa using hy
        exact ⟨.inl rfl, Nat.le_refl _, Nat.zero_le _, fun a ha => by cases ha⟩
      · intro k hk
        obtain rfl : w3.heap.size = k := Option.some.inj hk
        exact .inr (.inl rfl)
      · intro k hk
        obtain rfl : w5.heap.size = k := Option.some.inj hk
        exact .inr (.inr rfl)
      · rintro k hk ⟨x, hx, rfl⟩
        obtain ⟨n1, n2, n3⟩ := hne x hx
        rcases hk with c | c | c
        · exact n1 c
        · exact n2 c
        · exact n3 c
      · rintro k ((rfl | rfl | rfl) | ⟨x, hx, rfl⟩)
        · omega
        · omega
        · omega
        · exact (rad x hx).2.1
      · rintro k ((rfl | rfl | rfl) | ⟨x, hx, rfl⟩)
        · exact ⟨by omega, by omega⟩
        · exact ⟨by omega, by omega⟩
        · exact ⟨by omega, by omega⟩
        · exact ⟨(rad x hx).1, (rad x hx).2.1⟩
end Go.Proofs.YthcbiohmghaobaaDoor.Vfs
