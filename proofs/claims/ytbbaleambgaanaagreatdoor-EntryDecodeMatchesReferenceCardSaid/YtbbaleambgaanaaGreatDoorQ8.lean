/- PxrRz RecRow StepObj Switch FitDefs UstKn CstSmall CstFormat UstChk -/
import Derived.Test.YtbbaleambgaanaaGreatDoorQ7
import Derived.Test.YtbbaleambgaanaaGreatDoorQ5
import Derived.Laws.OwnMore
import Derived.Deep.RegionHeld3
import Derived.Test.YtbbaleambgaanaaGreatDoorQ2
import Derived.Test.YtbbaleambgaanaaGreatDoorQ3
import Derived.Test.YtbbaleambgaanaaGreatDoorRows
namespace Go.Proofs.YtbbaleambgaanaaGreatDoor.Pxr
open Go.RowKit
def rz : List Value := [.string { data := #[] }, .string { data := #[] }]
theorem recZ : (Tryz.prog.info? 107).map (·.zero) = some (some (.agg rz.toArray)) := by kernel_rfl
theorem recO : ObjT Tryz.prog 107 2 := ⟨⟨_, Tryz.underlying107⟩, by kernel_rfl⟩
theorem rz_one : ∀ v ∈ rz, v.oneCell' = true := by simp [rz, Value.oneCell']
theorem rec_one (k v : ByteArray) : ∀ x ∈ [Value.string k, Value.string v], x.oneCell' = true := by simp [Value.oneCell']
theorem get_some {rs : List Rec} {j : Nat} (h : j < rs.length) : ∃ r, rs[j]? = some r := ⟨rs[j], List.getElem?_eq_getElem h⟩
theorem recI : ∃ i0, Hid (Tryz.prog.info? 107 = some i0 ∧ i0.zero = some (.agg rz.toArray) ∧ i0.size = 2 ∧ i0.bytes = 32 ∧ (Value.agg rz.toArray).cells.size = 2) := by
  have h : (Tryz.prog.info? 107).map (fun i => (i.zero, i.size, i.bytes)) = some (some (.agg rz.toArray), 2, 32) := by kernel_rfl
  cases hq : Tryz.prog.info? 107 with
  | none => simp [hq] at h
  | some i => simp [hq] at h; exact ⟨i, rfl, h.1, h.2.1, h.2.2, rfl⟩
theorem recJ : (Tryz.prog.info? 107).map (fun i => (i.zero, i.size)) = some (some (.agg rz.toArray), 2) := by kernel_rfl
end Go.Proofs.YtbbaleambgaanaaGreatDoor.Pxr
namespace Go.Proofs.YtbbaleambgaanaaGreatDoor.Pxr
open Go.RowKit
def recCells (rs : List Rec) : List Value := rs.flatMap fun r => [Value.string r.1, Value.string r.2]
theorem recCells_len : ∀ rs : List Rec, (recCells rs).length = rs.length * 2
  | [] => rfl
  | r :: rs => by
    have := recCells_len rs
    unfold recCells at this ⊢
    rw [List.flatMap_cons, List.length_append, this, List.length_cons]; simp; omega
theorem recCells_snoc (rs : List Rec) (r : Rec) : recCells (rs ++ [r]) = recCells rs ++ [Value.string r.1, Value.string r.2] := by unfold recCells; simp
theorem recCells_at : ∀ (rs : List Rec) (i : Nat) (r : Rec), rs[i]? = some r → (recCells rs)[i * 2]? = some (.string r.1) ∧ (recCells rs)[i * 2 + 1]? = some (.string r.2)
  | [], i, r, h => by simp at h
  | q :: rs, i, r, h => by
    have e : recCells (q :: rs) = Value.string q.1 :: Value.string q.2 :: recCells rs := by unfold recCells; rw [List.flatMap_cons]; rfl
    rw [e]
    cases i with
    | zero => simp at h; subst h; exact ⟨rfl, rfl⟩
    | succ i =>
      have := recCells_at rs i r (by simpa using h)
      rw [show (i + 1) * 2 = i * 2 + 1 + 1 by omega]
      simpa using this
theorem RecsIn.of_own {w : World} {base n : Nat} {e : TypeId} {v : Value} {rs : List Rec} (h : w.ownsRow base e 2 v n (recCells rs)) :
    ∃ a c, v = .slice a n c ∧ n = rs.length ∧ n ≤ c ∧ c ≤ maxLen ∧ RecsIn w a rs ∧ (∀ x, a = some x → base ≤ x.block ∧ x.block < w.heap.size) := by
  have hl := h.1
  rw [recCells_len] at hl
  have hn : n = rs.length := by omega
  rcases h.2 with ⟨hv, h0⟩ | ⟨g, cap, cur, hv, hb, hh, hc, hm, hs, ht⟩
  · subst h0
    exact ⟨none, 0, hv, hn, Nat.le_refl _, Nat.zero_le _, .inl (List.length_eq_zero_iff.1 hn.symm), fun x hx => by cases hx⟩
  · have hlt : g < w.heap.size := (Array.getElem?_eq_some_iff.1 hh).1
    refine ⟨some ⟨g, 0, none⟩, cap, hv, hn, hc, hm, .inr ⟨g, 0, rfl, hlt, fun i r hi => ?_⟩, fun x hx => by cases hx; exact ⟨hb, hlt⟩⟩
    obtain ⟨c0, c1⟩ := recCells_at rs i r hi
    have hir : i < rs.length := (List.getElem?_eq_some_iff.1 hi).1
    have get : ∀ j u, j < n * 2 → (recCells rs)[j]? = some u → w.cell? ⟨g, j, none⟩ = some u := fun j u hj hu => by
      rw [← ht, List.getElem?_take, if_pos hj] at hu
      rw [World.cell?, hh]
      simpa using hu
    rw [Nat.zero_add]
    exact ⟨get _ _ (by omega) c0, get _ _ (by omega) c1⟩
theorem own_block2 {w : World} {base n size : Nat} {e : TypeId} {v : Value} {xs : List Value} (h : w.ownsRow base e size v n xs) : ∀ k, v.ownBlock = some k → base ≤ k := by
  intro k hk
  rcases h.2 with ⟨h', _⟩ | ⟨g', cap', cur, hv, hb', _⟩
  · rw [h'] at hk; cases hk
  · rw [hv] at hk
    obtain rfl : g' = k := by simpa [Value.ownBlock] using hk
    exact hb'
theorem own_stay {w w' : World} {base B n size : Nat} {e : TypeId} {v : Value} {xs : List Value} (h : w.ownsRow base e size v n xs) (hb : Below B w w') (hB : w.heap.size ≤ B) : w'.ownsRow base e size v n xs := by
  obtain ⟨h1, h2⟩ := h
  refine ⟨h1, ?_⟩
  rcases h2 with h2 | ⟨g', cap', cur, hv, hb', hh, r⟩
  · exact Or.inl h2
  · have hlt : g' < w.heap.size := (Array.getElem?_eq_some_iff.1 hh).1
    exact Or.inr ⟨g', cap', cur, hv, hb', by rw [hb.block g' (by omega)]; exact hh, r⟩
section
variable {P : Program} {w : World} {ops : Array Oper} {rest : List Oper} {o : Oper} {a : Act} {Q : Exit → Act → World → Prop}
theorem wpList_lit_rec (hgd : o.guard = none) (t e : TypeId) (x : Operand) (ho : o.op = .buildSlice t 1 #[(0, x)]) (ht : P.underlying t = some (.slice e)) (z : Value) (hI : (P.info? e).map (fun i => (i.zero, i.size)) = some (some z, 2))
    (k v : ByteArray) (hx : a.eval x = .agg #[.string k, .string v])
    (K : ∀ w', w'.heap[w.heap.size]? = some (.cells #[.string k, .string v] e (0, 0)) → Below w.heap.size w w' → wpList P ops Q rest (a.put o.dst (.slice (some ⟨w.heap.size, 0, none⟩) 1 1)) w') : wpList P ops Q (o :: rest) a w := by
  refine wpList_plain hgd fun K' hK => ?_
  cases hq : P.info? e with
  | none => simp [hq] at hI
  | some i =>
    simp [hq] at hI
    have hrun : (Instr.buildSlice t 1 #[(0, .agg #[.string k, .string v])]).run P w = .ok (.slice (some ⟨w.heap.size, 0, none⟩) 1 1) (w.alloc (.cells #[.string k, .string v] e)) := by
      simp [Instr.buildSlice, run_underlying ht, sizeOf, typeInfo, zeroValue, hq, hI.1, hI.2, Instr.fill, newRow, Value.cells]
      rw [show Array.range 2 = #[0, 1] by decide]; simp
    unfold Oper.wp
    simp [execOp, ho, hx, hrun, Result.andThen]
    exact hK _ _ (K _ (heap_alloc_new w _) ((Below.refl _ _).alloc (Nat.le_refl _) _))
theorem wpList_append_rec (hgd : o.guard = none) (s x : Operand) (t : TypeId) (ho : o.op = .call { callee := .builtin .append, args := #[s, x], argTypes := #[t, t] })
    (base : Nat) (e : TypeId) (i0 : TypeInfo) (z : Value) (hT : P.underlying t = some (.slice e)) (hI : Hid (P.info? e = some i0 ∧ i0.zero = some z ∧ i0.size = 2 ∧ i0.bytes = 32 ∧ z.cells.size = 2))
    (v : Value) (n : Nat) (rs : List Rec) (hs : a.eval s = v) (hown : w.ownsRow base e 2 v n (recCells rs))
    (b : Nat) (r : Rec) (hx : a.eval x = .slice (some ⟨b, 0, none⟩) 1 1) (hb : w.heap[b]? = some (.cells #[.string r.1, .string r.2] e (0, 0))) (h47 : n ≤ 1000000) (hbase : base ≤ w.heap.size)
    (K : ∀ v' w', w'.ownsRow base e 2 v' (n + 1) (recCells (rs ++ [r])) → Below base w w' → (∀ k, k < w.heap.size → some k ≠ v.ownBlock → w'.heap[k]? = w.heap[k]?) → wpList P ops Q rest (a.put o.dst v') w') : wpList P ops Q (o :: rest) a w := by
  refine wpList_append_own _ hgd s x t ho base e i0 z 2 32 hT hI.out.1 hI.out.2.1 hI.out.2.2.1 hI.out.2.2.2.1 hI.out.2.2.2.2 (by decide) v n _ hs hown ⟨b, 0, none⟩ 1 1 [.string r.1, .string r.2] hx rfl ?_ ?_ (by unfold maxLen; omega) (by omega) hbase ?_
  · intro j u hj
    rw [add_plain', Nat.zero_add, World.cell?, hb]
    match j, hj with
    | 0, hj => simpa using hj
    | 1, hj => simpa using hj
    | j + 2, hj => simp at hj
  · intro u hu
    simp at hu
    rcases hu with rfl | rfl <;> rfl
  · intro v' w' h1 h2 _
    exact K v' w' (by rw [recCells_snoc]; exact h1) ((Below.refl _ _).grown h2 hbase (own_block2 hown)) (fun k hk hr => h2.block k hk hr)
end
end Go.Proofs.YtbbaleambgaanaaGreatDoor.Pxr
namespace Go.Proofs.YtbbaleambgaanaaGreatDoor
open Go.RowKit
section
variable {P : Program} {w : World} {ops : Array Oper} {o : Oper} {a : Act} {Q : Exit → Act → World → Prop} {K : Act → World → Prop} {E : Prop}
theorem step_alloc_obj (hgd : o.guard = none) (T : TypeId) (ho : o.op = .alloc T) (vs : List Value) (hz : (P.info? T).map (·.zero) = some (some (.agg vs.toArray)))
    (k : ∀ w', ObjAt w' w.heap.size T vs → Below w.heap.size w w' → K (a.put o.dst (.pointer (some ⟨w.heap.size, 0, none⟩))) w') :
    if Region.wanted o (yielded ops a.tmps) = true then Oper.wp P o a w K Q else E := by
  have hw : Region.wanted o (yielded ops a.tmps) = true := by simp [Region.wanted, hgd]
  rw [if_pos hw]
  cases hq : P.info? T with
  | none => simp [hq] at hz
  | some i =>
    simp [hq] at hz
    unfold Oper.wp
    simp [execOp, ho, Instr.alloc, zeroValue, typeInfo, hq, hz, newVar, newRow, Result.andThen, Value.cells]
    exact k _ (heap_alloc_new w _) ((Below.refl _ _).alloc (Nat.le_refl _) _)
theorem step_store_obj (hgd : o.guard = none) (T : TypeId) (x y : Operand) (ho : o.op = .store T x y) (g : Nat) (hx : a.eval x = .pointer (some ⟨g, 0, none⟩))
    (vs old : List Value) (hy : a.eval y = .agg vs.toArray) (T' : TypeId) (hg : ObjAt w g T' old) (hs : (P.info? T).map (·.size) = some vs.length) (hl : old.length = vs.length) (h1 : ∀ v ∈ vs, v.oneCell' = true)
    (k : ∀ w', ObjAt w' g T' vs → Turned w w' g → K (a.put o.dst undef) w') :
    if Region.wanted o (yielded ops a.tmps) = true then Oper.wp P o a w K Q else E := by
  have hw : Region.wanted o (yielded ops a.tmps) = true := by simp [Region.wanted, hgd]
  rw [if_pos hw]
  refine wp_store_row T x y ho g vs.toArray hx hy T' old.toArray hg (by simpa using hs) (by simpa using hl) ?_ ?_
  · rw [Array.all_eq_true_iff_forall_mem]
    intro u hu
    exact h1 u (by simpa using hu)
  · exact k _ (setRow_heap w g _ _ T' _ hg) ⟨_, rfl⟩
end
end Go.Proofs.YtbbaleambgaanaaGreatDoor
namespace Go.Proofs.YtbbaleambgaanaaGreatDoor
open Go
theorem wpAnyH_switch {P : Program} {md : Region.Mode} {ops : Array Oper} {Q : Exit → Act → World → Prop} {S S2 : World → Prop} (hs : ∀ w, S2 w → S w) :
    ∀ {fuel : Nat} {listed : Array Bool} {a : Act} {w : World}, wpAnyH P md ops Q S2 fuel listed a w → wpAnyH P md ops Q S fuel listed a w
  | 0, _, _, _, h => h
  | _ + 1, _, _, _, h => ⟨h.1, fun i hi => wpOp_mono (fun _ _ h' => ⟨hs _ h'.1, wpAnyH_switch hs h'.2⟩) (h.2 i hi)⟩
end Go.Proofs.YtbbaleambgaanaaGreatDoor
namespace Go.Proofs.YtbbaleambgaanaaGreatDoor.Fit
open Go.RowKit Pxr Pnm
abbrev enV (k : Int) (p : ByteArray) (m : Int) (t : ByteArray) (s : Int) : List Value := [.int .i64 k, .string p, .int .i64 m, .string t, .int .i64 s]
theorem enT : ObjT Tryz.prog 23 5 := ⟨⟨_, Tryz.underlying23⟩, by kernel_rfl⟩
theorem hdTp : ObjT Tryz.prog 56 6 := ⟨⟨_, Tryz.underlying56⟩, by kernel_rfl⟩
theorem hdTr : ObjT Tryz.prog 67 6 := ⟨⟨_, Tryz.underlying67⟩, by kernel_rfl⟩
theorem hd_one (T : Int) (a b c : ByteArray) (m z : Int) : ∀ v ∈ Ust.hdV T a b c m z, v.oneCell' = true := by simp [Value.oneCell']
theorem en_one (k : Int) (p : ByteArray) (m : Int) (t : ByteArray) (s : Int) : ∀ v ∈ enV k p m t s, v.oneCell' = true := by simp [Value.oneCell']
theorem zHp : (Tryz.prog.info? 56).map (·.zero) = some (some (.agg (Ust.hd0).toArray)) := by kernel_rfl
theorem zHr : (Tryz.prog.info? 67).map (·.zero) = some (some (.agg (Ust.hd0).toArray)) := by kernel_rfl
theorem zEn : (Tryz.prog.info? 23).map (·.zero) = some (some (.agg (enV 0 emp 0 emp 0).toArray)) := by kernel_rfl
theorem sStr : (Tryz.prog.info? 9).map (·.size) = some 1 := by kernel_rfl
theorem sI64 : (Tryz.prog.info? 2).map (·.size) = some 1 := by kernel_rfl
theorem sInt : (Tryz.prog.info? 3).map (·.size) = some 1 := by kernel_rfl
def RetPl (T : Int) (nm pf lk : ByteArray) (md sz : Int) (L : List Rec) (E : Int) (w : World) (e : Ending) (w' : World) : Prop :=
  ∃ b n c, e = .returned (.tuple #[.agg (Ust.hdV T nm pf lk md sz).toArray, .slice b n c, .int .i64 E]) ∧ L.length = n ∧ n ≤ c ∧ c ≤ maxLen ∧ RecsIn w' b L ∧ Below w.heap.size w w'
theorem RetPl.nil {T : Int} {nm pf lk : ByteArray} {md sz : Int} {E : Int} {w w' : World} (h : Below w.heap.size w w') : RetPl T nm pf lk md sz [] E w (.returned (.tuple #[.agg (Ust.hdV T nm pf lk md sz).toArray, .slice none 0 0, .int .i64 E])) w' :=
  ⟨none, 0, 0, rfl, rfl, Nat.le_refl _, Nat.zero_le _, .inl rfl, h⟩
theorem RetPl.own {T : Int} {nm pf lk : ByteArray} {md sz : Int} {E : Int} {L : List Rec} {w w' : World} {base n : Nat} {e : TypeId} {v : Value} (h : w'.ownsRow base e 2 v n (recCells L)) (hb : Below w.heap.size w w') :
    RetPl T nm pf lk md sz L E w (.returned (.tuple #[.agg (Ust.hdV T nm pf lk md sz).toArray, v, .int .i64 E])) w' := by
  obtain ⟨a, c, rfl, hn, hc, hm, hR, _⟩ := RecsIn.of_own h
  exact ⟨a, n, c, rfl, hn.symm, hc, hm, hR, hb⟩
theorem results_obj_two {P : Program} {w : World} {fn : Func} {p q r : Tmp} {T : TypeId} {n : Nat} (h : fn.results = #[.cell p T, .tmp q, .tmp r]) (hT : ObjT P T n) (tmps : Array Value) (g : Nat) (hp : tmps.getD p undef = .pointer (some ⟨g, 0, none⟩))
    (T' : TypeId) (vs : List Value) (hg : ObjAt w g T' vs) (hl : vs.length = n) : (results fn tmps).run P w = .ok (.tuple #[.agg vs.toArray, tmps.getD q undef, tmps.getD r undef]) w := by
  have hp' : tmps[p]?.getD undef = .pointer (some ⟨g, 0, none⟩) := by simpa using hp
  simp [results, h, hp', asAddr, run_load_obj hT g T' vs hg hl]
end Go.Proofs.YtbbaleambgaanaaGreatDoor.Fit
namespace Go.Proofs.YtbbaleambgaanaaGreatDoor.Ust
open Go.RowKit
open Oct Cst Chk
theorem known_not {T : Int} (h : ¬ known T) : (T == 48) = false ∧ (T == 49) = false ∧ (T == 50) = false ∧ (T == 53) = false ∧ (T == 120) = false := by
  unfold known at h
  simp only [not_or] at h
  obtain ⟨h1, h2, h3, h4, h5⟩ := h
  simp [h1, h2, h3, h4, h5]
end Go.Proofs.YtbbaleambgaanaaGreatDoor.Ust
namespace Go.Proofs.YtbbaleambgaanaaGreatDoor.Cst
open Go.RowKit
def vwB (n : Int) : Bool := decide (1 ≤ n ∧ n ≤ 256)
set_option maxHeartbeats 400000 in
theorem valid_any (n : Int) (w : World) :
    Calls Tryz.prog 171 #[.int .i64 n] w fun e w' => e = .returned (.bool (vwB n)) ∧ w = w' := by
  by_cases h1 : 1 ≤ n
  · by_cases h2 : n ≤ 256
    · have h : vwB n = true := by unfold vwB; simp [h1, h2]
      rw [h]; clear h
      go_enter Tryz.func171, Tryz.ntmps171
      go_wp2
      go_ret
      exact ⟨rfl, rfl⟩
    · have h : vwB n = false := by unfold vwB; simp [h2]
      rw [h]; clear h
      go_enter Tryz.func171, Tryz.ntmps171
      go_wp2
      go_ret
      exact ⟨rfl, rfl⟩
  · have h : vwB n = false := by unfold vwB; simp [h1]
    rw [h]; clear h
    go_enter Tryz.func171, Tryz.ntmps171
    go_wp2
    go_ret
    exact ⟨rfl, rfl⟩
theorem vwB_true {n : Int} (h1 : 1 ≤ n) (h2 : n ≤ 256) : vwB n = true := by unfold vwB; simp [h1, h2]
theorem vwB_false {n : Int} (h : n < 1 ∨ 256 < n) : vwB n = false := by unfold vwB; simp; omega
set_option maxRecDepth 20000 in
set_option maxHeartbeats 1000000 in
theorem idx_any (s : ByteArray) (w : World) :
    Calls Tryz.prog 89 #[.string s, .int .u8 0] w fun e w' => e = .returned (.int .i64 (Lib.indexByte s.data.toList 0)) ∧ w = w' := by
  go_enter Tryz.func89, Tryz.ntmps89
  go_wp2
  rw [run_callFunc_extern Tryz.func163 (by kernel_rfl) (by kernel_rfl) (by kernel_rfl) (e := Extern.BytealgIndexByte.indexByte) (by kernel_rfl), Lib.run_indexByteString s 0 w]
  simp only [Result.andThen]
  rw [Oper.upon_value]
  go_wp2
  go_ret
  exact ⟨rfl, rfl⟩
set_option maxHeartbeats 1000000 in
theorem check_any (s : ByteArray) (wd : Int) (w : World) :
    Calls Tryz.prog 170 #[.string s, .int .i64 wd] w fun e w' => e = .returned (.int .i64 (ceF (numsOf s) wd)) ∧ w = w' := by
  have hl := numsOf_length s
  by_cases h1 : wd < 1 ∨ 256 < wd
  · have hv := vwB_false h1
    have he : ceF (numsOf s) wd = 2 := by unfold ceF; rw [if_pos h1]
    rw [he]; clear h1 he
    go_enter Tryz.func170, Tryz.ntmps170
    go_wp2_with (go_at_call 171; refine (valid_any _ _).mono ?_; rintro e w' ⟨rfl, rfl⟩)
    go_ret
    exact ⟨rfl, rfl⟩
  · have hv := vwB_true (n := wd) (by omega) (by omega)
    obtain ⟨k, HK⟩ := named (Lib.indexByte s.data.toList 0)
    have hk := idx_str s
    rw [← HK.out] at hk
    by_cases h2 : (0 : Int) ∈ numsOf s
    · have hp := hk.2 h2
      have he : ceF (numsOf s) wd = 6 := by unfold ceF; rw [if_neg h1, if_pos h2]
      rw [he]; clear h1 he hk h2
      go_enter Tryz.func170, Tryz.ntmps170
      go_wp2_with (first | (go_at_call 171; refine (valid_any _ _).mono ?_; rintro e w' ⟨rfl, rfl⟩) | (go_at_call 89; refine (idx_any _ _).mono ?_; rintro e w' ⟨rfl, rfl⟩; rw [← HK.out]))
      go_ret
      exact ⟨rfl, rfl⟩
    · have hp : ¬ 0 ≤ k := fun h => h2 (hk.1 h)
      by_cases h3 : wd < s.size
      · have he : ceF (numsOf s) wd = 7 := by unfold ceF; rw [if_neg h1, if_neg h2, if_pos (by omega)]
        rw [he]; clear h1 he hk h2 hl
        go_enter Tryz.func170, Tryz.ntmps170
        go_wp2_with (first | (go_at_call 171; refine (valid_any _ _).mono ?_; rintro e w' ⟨rfl, rfl⟩) | (go_at_call 89; refine (idx_any _ _).mono ?_; rintro e w' ⟨rfl, rfl⟩; rw [← HK.out]))
        go_ret
        exact ⟨rfl, rfl⟩
      · have he : ceF (numsOf s) wd = 0 := by unfold ceF; rw [if_neg h1, if_neg h2, if_neg (by omega)]
        rw [he]; clear h1 he hk h2 hl
        go_enter Tryz.func170, Tryz.ntmps170
        go_wp2_with (first | (go_at_call 171; refine (valid_any _ _).mono ?_; rintro e w' ⟨rfl, rfl⟩) | (go_at_call 89; refine (idx_any _ _).mono ?_; rintro e w' ⟨rfl, rfl⟩; rw [← HK.out]))
        go_ret
        exact ⟨rfl, rfl⟩
end Go.Proofs.YtbbaleambgaanaaGreatDoor.Cst
namespace Go.Proofs.YtbbaleambgaanaaGreatDoor.Cst
open Go.RowKit
theorem made_u8 (m : Nat) : (madeCells (Value.int .u8 0).cells (m * 1)).toList = (List.replicate m (0 : Int)).map (.int .u8) := by
  apply List.ext_getElem?
  intro i
  by_cases h : i < m <;> simp [madeCells, Value.cells, h, Nat.mod_one]
theorem Tryz.info5 : (Tryz.prog.info? 5).map (fun i => (i.zero, i.size, i.bytes)) = some (some (.int .u8 0), 1, 1) := by kernel_rfl
set_option maxHeartbeats 400000 in
theorem fmt_bad (s : ByteArray) (wd : Int) (w : World) (h : (ceF (numsOf s) wd != 0) = true) :
    Calls Tryz.prog 148 #[.string s, .int .i64 wd] w fun e w' => e = .returned (.tuple #[.slice none 0 0, .int .i64 (ceF (numsOf s) wd)]) ∧ w = w' := by
  obtain ⟨E, HE⟩ := named (ceF (numsOf s) wd)
  rw [← HE.out] at h ⊢
  go_enter Tryz.func148, Tryz.ntmps148
  go_wp2_with (go_at_call 170; refine (check_any _ _ _).mono ?_; rintro e w' ⟨rfl, rfl⟩; rw [← HE.out])
  go_ret2
  exact ⟨rfl, rfl⟩
set_option maxHeartbeats 400000 in
theorem fmt_cap (s : ByteArray) (k : Nat) (w : World) (h : ceF (numsOf s) k = 0) :
    Calls Tryz.prog 148 #[.string s, .int .i64 k] w (RetB (fldS (numsOf s) k) k 0 w) := by
  obtain ⟨h1, h2, _, h4⟩ := ceF_zero.1 h
  rw [numsOf_length] at h4
  have HN := Lib.hid h; clear h
  obtain ⟨i0, HI⟩ := info_u8 Tryz.info5
  go_enter Tryz.func148, Tryz.ntmps148
  go_wp2_with (first | (go_at_call 170; refine (check_any _ _ _).mono ?_; rintro e w' ⟨rfl, rfl⟩; rw [HN.out]) | (at_make; refine wpList_make_full _ rfl _ _ 24 rfl w.heap.size 5 i0 (.int .u8 0) 1 Tryz.underlying24 HI.out.1 HI.out.2.1 HI.out.2.2.1 .i64 .i64 _ _ k rfl rfl rfl rfl (by rw [HI.out.2.2.2]; omega) (by unfold maxLen; omega) (Nat.le_refl _) ?_; intro w1 hown1 hgrow1; rw [made_u8] at hown1) | (refine wpList_copy_string rfl _ _ 24 9 rfl w.heap.size 5 i0 Tryz.underlying24 HI w.heap.size k k (List.replicate k 0) rfl hown1 s rfl (by omega) ?_; intro w2 hown2 hb2))
  go_ret2
  have hb1 : Below w.heap.size w w1 := (Below.refl _ _).grown hgrow1 (Nat.le_refl _) (fun _ h => by cases h)
  have e : numsOf s ++ List.drop s.size (List.replicate k 0) = fldS (numsOf s) k := by unfold fldS; rw [List.drop_replicate, numsOf_length]
  rw [e] at hown2
  exact ⟨_, _, rfl, .of_own hown2 (fldS_bd _ _ (numsOf_bd s)), (own_lt hown2).2, hb1.trans hb2, Nat.le_refl _, by unfold maxLen; omega⟩
theorem fmt_ok (s : ByteArray) (k : Nat) (w : World) (h : ceF (numsOf s) k = 0) :
    Calls Tryz.prog 148 #[.string s, .int .i64 k] w (RetBytes (fldS (numsOf s) k) k 0 w) :=
  (fmt_cap s k w h).mono fun _ _ h => h.ret
end Go.Proofs.YtbbaleambgaanaaGreatDoor.Cst
namespace Go.Proofs.YtbbaleambgaanaaGreatDoor.Ust
open Go.RowKit
open Oct Cst Chk
set_option maxHeartbeats 1000000 in
theorem known_any (T : Int) (w : World) : Calls Tryz.prog 73 #[.int .u8 T] w fun e w' => e = .returned (.bool (decide (known T))) ∧ w = w' := by
  by_cases h : known T
  · rw [decide_eq_true h]
    rcases h with rfl | rfl | rfl | rfl | rfl
    all_goals
      go_enter Tryz.func73, Tryz.ntmps73
      go_wp2
      go_ret
      exact ⟨rfl, rfl⟩
  · rw [decide_eq_false h]
    obtain ⟨h1, h2, h3, h4, h5⟩ := known_not h
    clear h
    go_enter Tryz.func73, Tryz.ntmps73
    go_wp2
    go_ret
    exact ⟨rfl, rfl⟩
set_option maxHeartbeats 1000000 in
theorem ctext_any (s : ByteArray) (wd : Int) (k : Nat) (w : World) (hk : wd = (k : Int)) :
    Calls Tryz.prog 99 #[.string s, .int .i64 wd] w fun e w' => e = .returned (.int .i64 (ceF (numsOf s) wd)) ∧ Below w.heap.size w w' := by
  by_cases h : ceF (numsOf s) wd = 0
  · have HF := Lib.hid (Cst.fmt_cap s k w (hk ▸ h))
    rw [← hk] at HF
    rw [h]; clear h hk
    go_enter Tryz.func99, Tryz.ntmps99
    go_wp2_with fail
    refine HF.out.mono ?_; rintro e w1 ⟨b, c, rfl, _, _, hb, _, _⟩
    have B := Lib.hid hb; clear hb
    go_wp2
    go_ret
    exact ⟨rfl, B.out⟩
  · have HF := Lib.hid (Cst.fmt_bad s wd w (by simp [h]))
    obtain ⟨E, HE⟩ := named (ceF (numsOf s) wd)
    rw [← HE.out] at HF ⊢
    clear h hk
    go_enter Tryz.func99, Tryz.ntmps99
    go_wp2_with fail
    refine HF.out.mono ?_; rintro e w1 ⟨rfl, rfl⟩
    go_wp2
    go_ret
    exact ⟨rfl, Below.refl _ _⟩
set_option maxHeartbeats 4000000 in
theorem check_any (T : Int) (nm pf lk : ByteArray) (md sz : Int) (w : World) (hn : nm.size ≤ maxLen) (hp : pf.size ≤ maxLen) (hk : lk.size ≤ maxLen) (_hT : 0 ≤ T ∧ T ≤ 255) :
    Calls Tryz.prog 54 #[.agg (hdV T nm pf lk md sz).toArray] w fun e w' => e = .returned (.int .i64 (ckH T nm pf lk md sz)) ∧ Below w.heap.size w w' := by
  clear _hT
  obtain ⟨kb, hkb⟩ := named (decide (known T))
  obtain ⟨e1, he1⟩ := named (ceF (numsOf nm) 100)
  obtain ⟨e2, he2⟩ := named (ceF (numsOf lk) 100)
  obtain ⟨e3, he3⟩ := named (ceF (numsOf pf) 155)
  have hck : ckH T nm pf lk md sz = if kb = false then 8 else if e1 ≠ 0 then e1 else if e2 ≠ 0 then e2 else if e3 ≠ 0 then e3 else if md < 0 ∨ 4095 < md then 16 else if sz < 0 ∨ 8589934591 < sz then 3 else 0 := by
    rw [hkb.out, he1.out, he2.out, he3.out]; unfold ckH; simp only [decide_eq_false_iff_not]
  obtain ⟨R, hR⟩ := named (ckH T nm pf lk md sz)
  have HR : Hid (R = if kb = false then 8 else if e1 ≠ 0 then e1 else if e2 ≠ 0 then e2 else if e3 ≠ 0 then e3 else if md < 0 ∨ 4095 < md then 16 else if sz < 0 ∨ 8589934591 < sz then 3 else 0) := by show _ = _; rw [hR.out]; exact hck
  rw [← hR.out]
  clear hck hR
  have HN := Lib.hid hn; have HP := Lib.hid hp; have HK := Lib.hid hk
  clear hn hp hk
  go_enter Tryz.func54, Tryz.ntmps54
  go_wp2_with (first | (refine wpList_box_obj rfl 56 _ rfl (hdV T nm pf lk md sz) rfl ?_; intro w1 h1 b1; have H1 := Lib.hid h1; have B1 := Lib.hid b1; have c0 := h1.get 0 rfl; clear h1 b1))
  refine (known_any T w1).mono ?_; rintro e w2 ⟨rfl, rfl⟩
  rw [← hkb.out]
  cases kb with
  | false =>
    go_wp2_with fail
    go_ret
    exact ⟨by have hr := HR.out; simp at hr; subst hr; rfl, B1.out⟩
  | true =>
    have c1 := H1.out.get 1 rfl
    clear c0
    go_wp2_with fail
    refine (ctext_any nm 100 100 w1 rfl).mono ?_; rintro e w2 ⟨rfl, b2⟩
    rw [← he1.out]
    have H2 := Lib.hid (H1.out.below b2 H1.out.lt); have B2 := Lib.hid (B1.out.trans (b2.mono B1.out.size))
    clear b2 c1
    by_cases z1 : e1 = 0
    · subst z1
      have c3 := H2.out.get 3 rfl
      go_wp2_with fail
      refine (ctext_any lk 100 100 w2 rfl).mono ?_; rintro e w3 ⟨rfl, b3⟩
      rw [← he2.out]
      have H3 := Lib.hid (H2.out.below b3 H2.out.lt); have B3 := Lib.hid (B2.out.trans (b3.mono B2.out.size))
      clear b3 c3
      by_cases z2 : e2 = 0
      · subst z2
        have c2 := H3.out.get 2 rfl
        go_wp2_with fail
        refine (ctext_any pf 155 155 w3 rfl).mono ?_; rintro e w4 ⟨rfl, b4⟩
        rw [← he3.out]
        have H4 := Lib.hid (H3.out.below b4 H3.out.lt); have B4 := Lib.hid (B3.out.trans (b4.mono B3.out.size))
        clear b4 c2
        by_cases z3 : e3 = 0
        · subst z3
          have c4 := H4.out.get 4 rfl
          have c5 := H4.out.get 5 rfl
          by_cases m0 : md < 0
          · go_wp2_with fail
            go_ret
            exact ⟨by have hr := HR.out; simp [m0] at hr; subst hr; rfl, B4.out⟩
          · by_cases m1 : 4095 < md
            · go_wp2_with fail
              go_ret
              exact ⟨by have hr := HR.out; simp [m1] at hr; subst hr; rfl, B4.out⟩
            · by_cases s0 : sz < 0
              · go_wp2_with fail
                go_ret
                exact ⟨by have hr := HR.out; simp at hr; rw [if_neg (by omega), if_pos (.inl s0)] at hr; subst hr; rfl, B4.out⟩
              · by_cases s1 : 8589934591 < sz
                · go_wp2_with fail
                  go_ret
                  exact ⟨by have hr := HR.out; simp at hr; rw [if_neg (by omega), if_pos (.inr s1)] at hr; subst hr; rfl, B4.out⟩
                · go_wp2_with fail
                  go_ret
                  exact ⟨by have hr := HR.out; simp at hr; rw [if_neg (by omega), if_neg (by omega)] at hr; subst hr; rfl, B4.out⟩
        · have n3 : (e3 != 0) = true := by simp [z3]
          go_wp2_with fail
          go_ret
          exact ⟨by have hr := HR.out; simp [z3] at hr; subst hr; rfl, B4.out⟩
      · have n2 : (e2 != 0) = true := by simp [z2]
        go_wp2_with fail
        go_ret
        exact ⟨by have hr := HR.out; simp [z2] at hr; subst hr; rfl, B3.out⟩
    · have n1 : (e1 != 0) = true := by simp [z1]
      go_wp2_with fail
      go_ret
      exact ⟨by have hr := HR.out; simp [z1] at hr; subst hr; rfl, B2.out⟩
end Go.Proofs.YtbbaleambgaanaaGreatDoor.Ust
