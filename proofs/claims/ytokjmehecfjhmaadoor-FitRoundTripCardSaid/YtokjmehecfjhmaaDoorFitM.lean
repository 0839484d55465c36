/-
  A map keyed by strings, known whole: made, filled, asked. Nothing of the program.
-/
import Derived.Test.YtokjmehecfjhmaaDoorFitA
import Derived.Test.YtokjmehecfjhmaaDoorStrNum
import Derived.MapKept
import Derived.Test.YtokjmehecfjhmaaDoorFitB
import Derived.Deep.CutRange
namespace Go.Proofs.YtokjmehecfjhmaaDoor
open Go.RowKit Go.MapKept

/-- block g is a map of just these entries -/
def MapAt (w : World) (g : Nat) (es : List (ByteArray × Value)) : Prop :=
  ∃ (xs : Array MapEntry) (clk : Nat), w.heap[g]? = some (.map xs clk) ∧ xs.toList.map (fun e => (e.key, e.val)) = es.map (fun e => (.string e.1, e.2))
theorem MapAt.lt {w : World} {g : Nat} {es : List (ByteArray × Value)} (h : MapAt w g es) : g < w.heap.size := by
  obtain ⟨xs, clk, h, _⟩ := h
  exact (Array.getElem?_eq_some_iff.1 h).1
theorem MapAt.block {w w' : World} {g : Nat} {es : List (ByteArray × Value)} (h : MapAt w g es) (e : w'.heap[g]? = w.heap[g]?) : MapAt w' g es := by
  obtain ⟨xs, clk, h, h2⟩ := h
  exact ⟨xs, clk, e.trans h, h2⟩
theorem MapAt.below {w w' : World} {B g : Nat} {es : List (ByteArray × Value)} (h : MapAt w g es) (hb : Below B w w') (hg : g < B) : MapAt w' g es := h.block (hb.block g hg)

/-- the entry at a key -/
def lookS (es : List (ByteArray × Value)) (k : ByteArray) : Option Value := (es.find? fun e => decide (e.1 = k)).map (·.2)

theorem eq_str (k s : ByteArray) : (k == s) = decide (k = s) := by
  by_cases h : k = s
  · rw [decide_eq_true h]; exact (bytes_beq _ _).2 h
  · rw [decide_eq_false h]
    cases h' : (k == s) with
    | true => exact absurd ((bytes_beq _ _).1 h') h
    | false => rfl
theorem find_str (k : ByteArray) : ∀ (xs : List MapEntry) (es : List (ByteArray × Value)) (i : Nat), xs.map (fun e => (e.key, e.val)) = es.map (fun e => (.string e.1, e.2)) →
    ∃ r, Instr.findNow .string (.string k) xs i = some r ∧ r.map (·.2) = lookS es k
  | [], [], _, _ => ⟨none, rfl, rfl⟩
  | [], _ :: _, _, h => by cases h
  | _ :: _, [], _, h => by cases h
  | x :: xs, e :: es, i, h => by
    simp only [List.map_cons, List.cons.injEq, Prod.mk.injEq] at h
    obtain ⟨⟨h1, h2⟩, h3⟩ := h
    unfold Instr.findNow
    rw [h1]
    simp only [Instr.sameNow, eq_str]
    by_cases hk : k = e.1
    · subst hk
      rw [decide_eq_true rfl]
      exact ⟨_, rfl, by unfold lookS; rw [List.find?_cons_of_pos (by simp)]; simp [h2]⟩
    · rw [decide_eq_false hk]
      obtain ⟨r, r1, r2⟩ := find_str k xs es (i + 1) h3
      refine ⟨r, r1, ?_⟩
      rw [r2]
      unfold lookS
      rw [List.find?_cons_of_neg (by simp; exact fun e => hk e.symm)]

section
variable {P : Program} {w : World} {ops : Array Oper} {rest : List Oper} {o : Oper} {a : Act} {Q : Exit → Act → World → Prop}

theorem wpList_make_map (hgd : o.guard = none) (T : TypeId) (ho : o.op = .makeMap T none)
    (K : ∀ w', MapAt w' w.heap.size [] → Below w.heap.size w w' → wpList P ops Q rest (a.put o.dst (.map (some w.heap.size))) w') : wpList P ops Q (o :: rest) a w := by
  refine wpList_plain hgd fun K' hK => ?_
  unfold Oper.wp
  simp [execOp, ho, run_makeMap, Result.andThen]
  exact hK _ _ (K _ ⟨#[], 0, heap_alloc_new w _, rfl⟩ ((Below.refl _ _).alloc (Nat.le_refl _) _))

theorem wpList_insert_map (hgd : o.guard = none) (T : TypeId) (m k x : Operand) (ho : o.op = .insert T m k x) (kt et : TypeId) (hT : P.underlying T = some (.map kt et)) (hk : P.underlying kt = some .string)
    (g : Nat) (hm : a.eval m = .map (some g)) (ks : ByteArray) (hks : a.eval k = .string ks) (v : Value) (hv : a.eval x = v) (es : List (ByteArray × Value)) (hg : MapAt w g es) (hnew : lookS es ks = none)
    (K : ∀ w', MapAt w' g (es ++ [(ks, v)]) → TurnB w w' g → wpList P ops Q rest (a.put o.dst undef) w') : wpList P ops Q (o :: rest) a w := by
  refine wpList_plain hgd fun K' hK => ?_
  obtain ⟨xs, clk, h1, h2⟩ := hg
  obtain ⟨r, r1, r2⟩ := find_str ks xs.toList es 0 h2
  rw [hnew] at r2
  obtain rfl : r = none := by cases r with
    | none => rfl
    | some z => cases r2
  have hrun : (Instr.mapUpdate T (.map (some g)) (.string ks) v).run P w = .ok () { w with heap := w.heap.setIfInBounds g (.map (xs.push { key := .string ks, val := v, born := clk }) (clk + 1)) } := by
    simp [Instr.mapUpdate, run_underlying hT, Go.MapKept.run_getObj_map h1, run_checkKey (w := w) hk (show IsKey .string (.string ks) from trivial), run_findKey (w := w) hk r1, Go.MapKept.run_setObj_map _ h1, Result.andThen]
  have hlt : g < w.heap.size := (Array.getElem?_eq_some_iff.1 h1).1
  unfold Oper.wp
  simp [execOp, ho, hm, hks, hv, hrun, Result.andThen]
  refine hK _ _ (K _ ⟨xs.push { key := .string ks, val := v, born := clk }, clk + 1, by simp [hlt], by simp [h2]⟩ ⟨fun hB => ⟨rfl, rfl, rfl, by simp, fun i hi => ?_⟩, fun {k} hkg => ?_, by simp⟩)
  · show (w.heap.setIfInBounds g _)[i]? = w.heap[i]?
    rw [Array.getElem?_setIfInBounds_ne (by omega)]
  · show (w.heap.setIfInBounds g _)[k]? = w.heap[k]?
    rw [Array.getElem?_setIfInBounds_ne (by omega)]

theorem run_look (T kt et : TypeId) (hT : P.underlying T = some (.map kt et)) (hk : P.underlying kt = some .string) (z : Value) (hz : (P.info? et).map (·.zero) = some (some z))
    (g : Nat) (ks : ByteArray) (es : List (ByteArray × Value)) (hg : MapAt w g es) (B : Bool) (v : Value) (hv : (match lookS es ks with | some u => (u, true) | none => (z, false)) = (v, B)) :
    (Instr.lookup T (.map (some g)) (.string ks) true).run P w = .ok (.tuple #[v, .bool B]) w := by
  obtain ⟨xs, clk, h1, h2⟩ := hg
  obtain ⟨r, r1, r2⟩ := find_str ks xs.toList es 0 h2
  cases hq : P.info? et with
  | none => simp [hq] at hz
  | some j =>
    have hj : j.zero = some z := by simpa [hq] using hz
    rw [← r2] at hv
    cases r with
    | none =>
      simp at hv
      obtain ⟨rfl, rfl⟩ := hv
      simp [Instr.lookup, run_underlying hT, Go.MapKept.run_getObj_map h1, run_checkKey (w := w) hk (show IsKey .string (.string ks) from trivial), run_findKey (w := w) hk r1, zeroValue, typeInfo, hq, hj, Result.andThen]
    | some x =>
      obtain ⟨i, u⟩ := x
      simp at hv
      obtain ⟨rfl, rfl⟩ := hv
      simp [Instr.lookup, run_underlying hT, Go.MapKept.run_getObj_map h1, run_checkKey (w := w) hk (show IsKey .string (.string ks) from trivial), run_findKey (w := w) hk r1, Result.andThen]
end
end Go.Proofs.YtokjmehecfjhmaaDoor
/-
  Layer 10: strconv.ParseInt; the setters of a draft; kindOf.
-/
namespace Go.Proofs.YtokjmehecfjhmaaDoor.Fit
open Go.RowKit Pxr Pnm

/-- strconv.ParseInt(s, 10, 64): the number that it hands back -/
theorem pint_any (s : ByteArray) (w : World) (V : MVars w) (hs : s.size ≤ 281474976710656) : Calls Tryd.prog 62 #[.string s, .int .i64 10, .int .i64 64] w fun e w' => ∃ x, e = .returned (.tuple #[.int .i64 (pzI s), x]) ∧ Below w.heap.size w w' := by
  obtain ⟨_, ⟨tp, p, h1⟩, ⟨tq, q, h2⟩⟩ := V
  cases h : Lib.parseIntB 64 s.data.toList
  case ok v =>
    have e : pzI s = v := by unfold pzI; rw [h]
    rw [e]
    refine (Tryd.strconv_ParseInt_10_at64_ok s (by omega) v h w).mono ?_
    rintro e w' ⟨rfl, hw⟩
    refine ⟨_, rfl, ?_⟩
    rcases hw with rfl | ⟨t, rfl⟩
    · exact Below.refl _ _
    · exact Lib.bytesWorld_below _ _ _
  case range =>
    have e : pzI s = Lib.intSat 64 s.data.toList := by unfold pzI; rw [h]
    rw [e]
    refine (Tryd.strconv_ParseInt_10_at64_range_var s hs h tq q w h2).mono ?_
    rintro e w' ⟨N, rfl, _, _, hb⟩
    exact ⟨_, rfl, hb⟩
  all_goals
    have e : pzI s = 0 := by unfold pzI; rw [h]
    rw [e]
    refine (Tryd.strconv_ParseInt_10_at64_syntax_var s hs h tp p w h1).mono ?_
    rintro e w' ⟨N, rfl, _, _, hb⟩
    exact ⟨_, rfl, hb⟩

/-- the draft at block g holds vs now; of the rest nothing has turned -/
def SetD (g : Nat) (vs : List Value) (w : World) (e : Ending) (w' : World) : Prop := e = .returned (.tuple #[]) ∧ ObjAt w' g 80 vs ∧ Out g (g + 1) w w'
theorem set_outD {w : World} {g : Nat} (i : Nat) (v : Value) : Out g (g + 1) w (w.setCell ⟨g, i, none⟩ v) := Out.setCell (p := ⟨g, i, none⟩) (Out.refl g (g + 1) w) (Nat.le_refl _) (Nat.lt_succ_self _) v

set_option maxHeartbeats 1000000 in
theorem st_target (g : Nat) (k : Int) (p : ByteArray) (m : Int) (t : ByteArray) (s : Int) (v : ByteArray) (w : World) (hh : ObjAt w g 80 (enV k p m t s)) :
    Calls Tryd.prog 47 #[.pointer (some ⟨g, 0, none⟩), .string v] w (SetD g (enV k p m v s) w) := by
  have H := Lib.hid hh; have c0 := hh.get 3 rfl; have f0 := hh.frozen 3
  clear hh
  go_enter Tryd.func47, Tryd.ntmps47
  go_wp2
  go_end0
  exact ⟨rfl, H.out.set 3 _, set_outD _ _⟩
set_option maxHeartbeats 1000000 in
theorem st_path (g : Nat) (k : Int) (p : ByteArray) (m : Int) (t : ByteArray) (s : Int) (v : ByteArray) (w : World) (hh : ObjAt w g 80 (enV k p m t s)) :
    Calls Tryd.prog 48 #[.pointer (some ⟨g, 0, none⟩), .string v] w (SetD g (enV k v m t s) w) := by
  have H := Lib.hid hh; have c0 := hh.get 1 rfl; have f0 := hh.frozen 1
  clear hh
  go_enter Tryd.func48, Tryd.ntmps48
  go_wp2
  go_end0
  exact ⟨rfl, H.out.set 1 _, set_outD _ _⟩
set_option maxHeartbeats 1000000 in
theorem st_size (g : Nat) (k : Int) (p : ByteArray) (m : Int) (t : ByteArray) (s : Int) (v : ByteArray) (w : World) (V : MVars w) (hv : v.size ≤ 281474976710656) (hh : ObjAt w g 80 (enV k p m t s)) :
    Calls Tryd.prog 49 #[.pointer (some ⟨g, 0, none⟩), .string v] w (SetD g (enV k p m t (pzI v)) w) := by
  have H := Lib.hid hh
  have HP := Lib.hid (pint_any v w V hv)
  obtain ⟨z, hz⟩ := named (pzI v)
  rw [← hz.out] at HP ⊢
  clear hh hz V hv
  go_enter Tryd.func49, Tryd.ntmps49
  go_wp2_with fail
  refine HP.out.mono ?_; rintro e w1 ⟨x, rfl, b1⟩
  have H1 := Lib.hid (H.out.below b1 H.out.lt)
  have c0 := H1.out.get 4 rfl; have f0 := H1.out.frozen 4
  have O1 := Lib.hid (Out.of_below (lo := g) (hi := g + 1) b1 (Nat.le_refl _))
  clear b1
  go_wp2
  go_end0
  exact ⟨rfl, H1.out.set 4 _, O1.out.trans (set_outD _ _)⟩

/-- where the loop over the types stands -/
def KindRel (T : Int) (i : Value) : Prop := ∃ j : Nat, i = .int .i64 j ∧ j ≤ 4 ∧ ∀ q : Nat, q < j → tyZ q ≠ T
theorem idx_tys (w : World) (xs : Array Value) (i : Nat) (hi : i < 4) (z : Int) (hx : xs[i]? = some (.int .u8 z)) : (Instr.index 59 (.agg xs) (.int .i64 (i : Int))).run Tryd.prog w = .ok (.int .u8 z) w := by
  have he : (Tryd.prog.info? 5).map (·.size) = some 1 := by kernel_rfl
  cases hq : Tryd.prog.info? 5 with
  | none => simp [hq] at he
  | some j =>
    have hs : j.size = 1 := by simpa [hq] using he
    simp [Instr.index, asIntOf, run_underlying Tryd.underlying59, hi, sizeOf, typeInfo, hq, hs, part, hx]
theorem tys_nat (j : Nat) (h : j < 4) : (#[.int .u8 53, .int .u8 48, .int .u8 50, .int .u8 49] : Array Value)[j]? = some (.int .u8 (tyZ j)) := by
  rcases (show j = 0 ∨ j = 1 ∨ j = 2 ∨ j = 3 by omega) with rfl | rfl | rfl | rfl <;> rfl
theorem kd_hit {T : Int} {j : Nat} (h : j < 4) (he : tyZ j = T) : kdZ T = j := by
  rw [← he]; exact kd_ty (by omega) (by omega)
theorem kd_miss {T : Int} (h : ∀ q : Nat, q < 4 → tyZ q ≠ T) : kdZ T = -1 := by
  have h0 := h 0 (by decide); have h1 := h 1 (by decide); have h2 := h 2 (by decide); have h3 := h 3 (by decide)
  have e0 : (53 : Int) ≠ T := h0
  have e1 : (48 : Int) ≠ T := h1
  have e2 : (50 : Int) ≠ T := h2
  have e3 : (49 : Int) ≠ T := h3
  unfold kdZ
  rw [if_neg (fun e => e0 e.symm), if_neg (fun e => e1 e.symm), if_neg (fun e => e2 e.symm), if_neg (fun e => e3 e.symm)]

set_option maxHeartbeats 2000000 in
set_option maxRecDepth 100000 in
theorem kind_any (T : Int) (w : World) (V : FVars w) : Calls Tryd.prog 45 #[.int .u8 T] w fun e w' => e = .returned (.int .i64 (kdZ T)) ∧ w = w' := by
  obtain ⟨R, hR⟩ := named (kdZ T)
  rw [← hR.out]
  have hc := V.tys.cell gTys
  have c0 : w.cell? ⟨0, 0, none⟩ = some (.int .u8 53) := hc 0 (by decide)
  have c1 : w.cell? ⟨0, 1, none⟩ = some (.int .u8 48) := hc 1 (by decide)
  have c2 : w.cell? ⟨0, 2, none⟩ = some (.int .u8 50) := hc 2 (by decide)
  have c3 : w.cell? ⟨0, 3, none⟩ = some (.int .u8 49) := hc 3 (by decide)
  clear V hc
  go_enter Tryd.func45, Tryd.ntmps45
  go_wp2_with fail
  clear c0 c1 c2 c3
  go_loop [6] (fun i => KindRel T i) (fun i => 4 - (intOf i).toNat)
  case atStart => exact ⟨0, rfl, by decide, fun q hq => by omega⟩
  case round =>
    obtain ⟨j, rfl, hj, hd⟩ := hrel
    have HD := Lib.hid hd
    clear hd
    by_cases hlt : j < 4
    · obtain ⟨z, hz⟩ := named (tyZ j)
      have hix := idx_tys w #[.int .u8 53, .int .u8 48, .int .u8 50, .int .u8 49] j hlt z (by rw [hz.out]; exact tys_nat j hlt)
      have HZ := hz
      clear hz
      have j1 : (j : Int) < 4 := by omega
      by_cases he : z = T
      · subst he
        have e := hR.out; rw [kd_hit hlt HZ.out.symm] at e; subst e
        clear hR
        go_wp2
        go_ret
        exact ⟨rfl, rfl⟩
      · have n1 : (z == T) = false := by simpa using he
        have HE := Lib.hid he
        clear he
        go_wp2
        go_round
        case rel => exact ⟨j + 1, by go_num, by omega, fun q hq => by
          by_cases h' : q < j
          · exact HD.out q h'
          · obtain rfl : q = j := by omega
            rw [← HZ.out]; exact HE.out⟩
        case measure => simp [intOf]; omega
    · obtain rfl : j = 4 := by omega
      have e := hR.out; rw [kd_miss HD.out] at e; subst e
      clear hR
      go_wp2
      go_ret
      exact ⟨rfl, rfl⟩
end Go.Proofs.YtokjmehecfjhmaaDoor.Fit
/-
  Layer 10: compose.
-/
namespace Go.Proofs.YtokjmehecfjhmaaDoor.Fit
open Go.RowKit Pxr Pnm

theorem drT : ObjT Tryd.prog 80 5 := ⟨⟨_, Tryd.underlying80⟩, by kernel_rfl⟩
theorem zDr : (Tryd.prog.info? 80).map (·.zero) = some (some (.agg (enV 0 emp 0 emp 0).toArray)) := by kernel_rfl
/-- the setters by key -/
def setters (g : Nat) : List (ByteArray × Value) := [(kLink, .func (.func 47) #[.pointer (some ⟨g, 0, none⟩)] #[]), (kPath, .func (.func 48) #[.pointer (some ⟨g, 0, none⟩)] #[]), (kSize, .func (.func 49) #[.pointer (some ⟨g, 0, none⟩)] #[])]
theorem look_link (g : Nat) : lookS (setters g) kLink = some (.func (.func 47) #[.pointer (some ⟨g, 0, none⟩)] #[]) := by
  unfold lookS setters; rw [List.find?_cons_of_pos (by simp)]; rfl
theorem look_path (g : Nat) : lookS (setters g) kPath = some (.func (.func 48) #[.pointer (some ⟨g, 0, none⟩)] #[]) := by
  unfold lookS setters; rw [List.find?_cons_of_neg (by rw [decide_eq_false (show ¬ kLink = kPath by decide)]; decide), List.find?_cons_of_pos (by simp)]; rfl
theorem look_size (g : Nat) : lookS (setters g) kSize = some (.func (.func 49) #[.pointer (some ⟨g, 0, none⟩)] #[]) := by
  unfold lookS setters; rw [List.find?_cons_of_neg (by rw [decide_eq_false (show ¬ kLink = kSize by decide)]; decide), List.find?_cons_of_neg (by rw [decide_eq_false (show ¬ kPath = kSize by decide)]; decide), List.find?_cons_of_pos (by simp)]; rfl
theorem look_none (g : Nat) {K : ByteArray} (h0 : ¬ K = kLink) (h1 : ¬ K = kPath) (h2 : ¬ K = kSize) : lookS (setters g) K = none := by
  unfold lookS setters
  rw [List.find?_cons_of_neg (by simp; exact fun e => h0 e.symm), List.find?_cons_of_neg (by simp; exact fun e => h1 e.symm), List.find?_cons_of_neg (by simp; exact fun e => h2 e.symm)]
  rfl
theorem fold_succ {rs : List Rec} {j : Nat} {r : Rec} (e0 : Ent) (h : rs[j]? = some r) : (rs.take (j + 1)).foldl setR e0 = setR ((rs.take j).foldl setR e0) r := by
  obtain ⟨hj, rfl⟩ := List.getElem?_eq_some_iff.1 h
  rw [List.take_succ_eq_append_getElem hj, List.foldl_append]; rfl

set_option maxHeartbeats 16000000 in
set_option maxRecDepth 100000 in
theorem comp_any (T : Int) (nm pf lk : ByteArray) (md sz : Int) (a : Option Addr) (n c : Nat) (rs : List Rec) (w : World) (V : MVars w) (hnm : nm.size ≤ 1000000) (hpf : pf.size ≤ 1000000)
    (hv : ∀ r ∈ rs, r.2.size ≤ 281474976710656) (hn : rs.length = n) (hR : RecsIn w a rs) (hN : n ≤ 1000000) :
    Calls Tryd.prog 29 #[.agg (Ust.hdV T nm pf lk md sz).toArray, .slice a n c] w fun e w' =>
      ∃ x : Ent, e = .returned (.agg (enV x.k x.p x.m x.t x.s).toArray) ∧ x = cmpE ⟨T, nm, pf, lk, md, sz⟩ rs ∧ Below w.heap.size w w' := by
  have HO := Lib.hid hdTp; have EO := Lib.hid enT; have OD := Lib.hid drT
  have EZ := Lib.hid zEn; have ZD := Lib.hid zDr
  have RZ := Lib.hid recZ; have RO := Lib.hid recO
  have hmf : ∀ (fn : Fn) (first cap : Array Value) (w : World), (Instr.makeFunc fn first cap).run Tryd.prog w = .ok (.func fn first cap) w := fun _ _ _ _ => rfl
  have UM := Lib.hid Tryd.underlying82; have US := Lib.hid Tryd.underlying9
  have ZF : Hid ((Tryd.prog.info? 81).map (·.zero) = some (some .nilFunc)) := by show _ = _; kernel_rfl
  obtain ⟨KD, hK⟩ := named (kdZ T)
  obtain ⟨PJ, hP⟩ := named (strOfNums (joinZ (numsOf pf) (numsOf nm)))
  have C1 : Hid (∀ w', Below w.heap.size w w' → Calls Tryd.prog 45 #[.int .u8 T] w' fun e w'' => e = .returned (.int .i64 KD) ∧ w' = w'') := fun w' hb => by rw [hK.out]; exact kind_any T w' (V.go hb).f
  have C2 : Hid (∀ w', Calls Tryd.prog 46 #[.string pf, .string nm] w' fun e w'' => e = .returned (.string PJ) ∧ Below w'.heap.size w' w'') := fun w' => by rw [hP.out]; exact Pnm.pjoin pf nm w' hpf hnm
  have E0 : Hid (cmp0 ⟨T, nm, pf, lk, md, sz⟩ = ⟨KD, PJ, md, lk, sz⟩) := by show _ = _; rw [hK.out, hP.out]; rfl
  have HV := Lib.hid V; have HS := Lib.hid hv; have HN := Lib.hid hn; have HR := Lib.hid hR
  clear hK hP V hv hn hR hnm hpf
  go_enter Tryd.func29, Tryd.ntmps29
  go_upto_region 1 with (first | (refine wpList_box_obj rfl 27 _ rfl (Ust.hdV T nm pf lk md sz) rfl ?_; intro w1 g1 b1; have H1 := Lib.hid g1; have B1 := Lib.hid b1; clear g1 b1) | (refine wpList_alloc_obj rfl 23 rfl (enV 0 emp 0 emp 0) EZ.out ?_; intro w2 g2 b2; have Q2 := Lib.hid g2; have H2 := Lib.hid (H1.out.below b2 H1.out.lt); have B2 := Lib.hid (belT B1.out b2); clear g2 b2))
  have KS : Hid (∀ w', Below w2.heap.size w2 w' → (fun w' : World => w'.cell? ⟨w.heap.size, 0, none⟩ = some (.int .u8 T) ∧ w'.cell? ⟨w.heap.size, 1, none⟩ = some (.string nm) ∧ w'.cell? ⟨w.heap.size, 2, none⟩ = some (.string pf) ∧ w'.cell? ⟨w.heap.size, 3, none⟩ = some (.string lk) ∧ w'.cell? ⟨w.heap.size, 4, none⟩ = some (.int .i64 md) ∧ w'.cell? ⟨w.heap.size, 5, none⟩ = some (.int .i64 sz)) w') := fun w' hb => ⟨(H2.out.below hb H2.out.lt).get 0 rfl, (H2.out.below hb H2.out.lt).get 1 rfl, (H2.out.below hb H2.out.lt).get 2 rfl, (H2.out.below hb H2.out.lt).get 3 rfl, (H2.out.below hb H2.out.lt).get 4 rfl, (H2.out.below hb H2.out.lt).get 5 rfl⟩
  have D2 : Hid (Below w2.heap.size w2 w2.drew) := (Below.refl _ _).drew
  simp only [Act.put, List.setIfInBounds_toArray, List.set_cons_zero, List.set_cons_succ]
  go_cut [5] from 11 to 25 (fun s5 wx => ∃ g : Nat, s5 = .pointer (some ⟨g, 0, none⟩) ∧ ObjAt wx g 80 (enV KD PJ md lk sz) ∧ Below w2.heap.size w2 wx ∧ w2.heap.size ≤ g)
  case first =>
    refine wp_region_held_drew (S := (fun w' : World => w'.cell? ⟨w.heap.size, 0, none⟩ = some (.int .u8 T) ∧ w'.cell? ⟨w.heap.size, 1, none⟩ = some (.string nm) ∧ w'.cell? ⟨w.heap.size, 2, none⟩ = some (.string pf) ∧ w'.cell? ⟨w.heap.size, 3, none⟩ = some (.string lk) ∧ w'.cell? ⟨w.heap.size, 4, none⟩ = some (.int .i64 md) ∧ w'.cell? ⟨w.heap.size, 5, none⟩ = some (.int .i64 sz))) (by kernel_rfl) (KS.out _ D2.out) (fun hHeld => ?_)
    refine wpAnyH_take (i := 0) (oi := { dst := some 11, op := Go.Op.fieldAddr 27 (Go.Operand.tmp 2) 0, type := 0, pos := "fit.go:91", after := #[], guard := none }) (v := ?_) rfl (by kernel_rfl) (by kernel_rfl) (by kernel_rfl) (fun _ _ _ h => h) (Or.inl ⟨by rfl, ?_⟩) (by assumption) ?_
    rotate_left 1
    focus ((intro wS hSw; (try dsimp only at hSw); go_simp) <;> (try with_reducible rfl))
    simp only [Act.put, List.setIfInBounds_toArray, List.set_cons_zero, List.set_cons_succ]
    refine wpAnyH_take (i := 1) (oi := { dst := some 12, op := Go.Op.load 5 (Go.Operand.tmp 11), type := 5, pos := "fit.go:91", after := #[{ on := 0, ground := Go.Ground.data }], guard := none }) (v := ?_) rfl (by kernel_rfl) (by kernel_rfl) (by kernel_rfl) (fun _ _ _ h => h) (Or.inl ⟨by rfl, ?_⟩) (by assumption) ?_
    rotate_left 1
    focus ((intro wS hSw; (try dsimp only at hSw); go_simp) <;> (try with_reducible rfl))
    simp only [Act.put, List.setIfInBounds_toArray, List.set_cons_zero, List.set_cons_succ]
    refine wpAnyH_take (i := 3) (oi := { dst := some 14, op := Go.Op.fieldAddr 27 (Go.Operand.tmp 2) 2, type := 0, pos := "fit.go:91", after := #[], guard := none }) (v := ?_) rfl (by kernel_rfl) (by kernel_rfl) (by kernel_rfl) (fun _ _ _ h => h) (Or.inl ⟨by rfl, ?_⟩) (by assumption) ?_
    rotate_left 1
    focus ((intro wS hSw; (try dsimp only at hSw); go_simp) <;> (try with_reducible rfl))
    simp only [Act.put, List.setIfInBounds_toArray, List.set_cons_zero, List.set_cons_succ]
    refine wpAnyH_take (i := 4) (oi := { dst := some 15, op := Go.Op.load 9 (Go.Operand.tmp 14), type := 9, pos := "fit.go:91", after := #[{ on := 3, ground := Go.Ground.data }], guard := none }) (v := ?_) rfl (by kernel_rfl) (by kernel_rfl) (by kernel_rfl) (fun _ _ _ h => h) (Or.inl ⟨by rfl, ?_⟩) (by assumption) ?_
    rotate_left 1
    focus ((intro wS hSw; (try dsimp only at hSw); go_simp) <;> (try with_reducible rfl))
    simp only [Act.put, List.setIfInBounds_toArray, List.set_cons_zero, List.set_cons_succ]
    refine wpAnyH_take (i := 5) (oi := { dst := some 16, op := Go.Op.fieldAddr 27 (Go.Operand.tmp 2) 1, type := 0, pos := "fit.go:91", after := #[], guard := none }) (v := ?_) rfl (by kernel_rfl) (by kernel_rfl) (by kernel_rfl) (fun _ _ _ h => h) (Or.inl ⟨by rfl, ?_⟩) (by assumption) ?_
    rotate_left 1
    focus ((intro wS hSw; (try dsimp only at hSw); go_simp) <;> (try with_reducible rfl))
    simp only [Act.put, List.setIfInBounds_toArray, List.set_cons_zero, List.set_cons_succ]
    refine wpAnyH_take (i := 6) (oi := { dst := some 17, op := Go.Op.load 9 (Go.Operand.tmp 16), type := 9, pos := "fit.go:91", after := #[{ on := 5, ground := Go.Ground.data }], guard := none }) (v := ?_) rfl (by kernel_rfl) (by kernel_rfl) (by kernel_rfl) (fun _ _ _ h => h) (Or.inl ⟨by rfl, ?_⟩) (by assumption) ?_
    rotate_left 1
    focus ((intro wS hSw; (try dsimp only at hSw); go_simp) <;> (try with_reducible rfl))
    simp only [Act.put, List.setIfInBounds_toArray, List.set_cons_zero, List.set_cons_succ]
    refine wpAnyH_take (i := 8) (oi := { dst := some 19, op := Go.Op.fieldAddr 27 (Go.Operand.tmp 2) 4, type := 0, pos := "fit.go:91", after := #[], guard := none }) (v := ?_) rfl (by kernel_rfl) (by kernel_rfl) (by kernel_rfl) (fun _ _ _ h => h) (Or.inl ⟨by rfl, ?_⟩) (by assumption) ?_
    rotate_left 1
    focus ((intro wS hSw; (try dsimp only at hSw); go_simp) <;> (try with_reducible rfl))
    simp only [Act.put, List.setIfInBounds_toArray, List.set_cons_zero, List.set_cons_succ]
    refine wpAnyH_take (i := 9) (oi := { dst := some 20, op := Go.Op.load 3 (Go.Operand.tmp 19), type := 3, pos := "fit.go:91", after := #[{ on := 8, ground := Go.Ground.data }], guard := none }) (v := ?_) rfl (by kernel_rfl) (by kernel_rfl) (by kernel_rfl) (fun _ _ _ h => h) (Or.inl ⟨by rfl, ?_⟩) (by assumption) ?_
    rotate_left 1
    focus ((intro wS hSw; (try dsimp only at hSw); go_simp) <;> (try with_reducible rfl))
    simp only [Act.put, List.setIfInBounds_toArray, List.set_cons_zero, List.set_cons_succ]
    refine wpAnyH_take (i := 10) (oi := { dst := some 21, op := Go.Op.fieldAddr 27 (Go.Operand.tmp 2) 3, type := 0, pos := "fit.go:91", after := #[], guard := none }) (v := ?_) rfl (by kernel_rfl) (by kernel_rfl) (by kernel_rfl) (fun _ _ _ h => h) (Or.inl ⟨by rfl, ?_⟩) (by assumption) ?_
    rotate_left 1
    focus ((intro wS hSw; (try dsimp only at hSw); go_simp) <;> (try with_reducible rfl))
    simp only [Act.put, List.setIfInBounds_toArray, List.set_cons_zero, List.set_cons_succ]
    refine wpAnyH_take (i := 11) (oi := { dst := some 22, op := Go.Op.load 9 (Go.Operand.tmp 21), type := 9, pos := "fit.go:91", after := #[{ on := 10, ground := Go.Ground.data }], guard := none }) (v := ?_) rfl (by kernel_rfl) (by kernel_rfl) (by kernel_rfl) (fun _ _ _ h => h) (Or.inl ⟨by rfl, ?_⟩) (by assumption) ?_
    rotate_left 1
    focus ((intro wS hSw; (try dsimp only at hSw); go_simp) <;> (try with_reducible rfl))
    simp only [Act.put, List.setIfInBounds_toArray, List.set_cons_zero, List.set_cons_succ]
    refine wpAnyH_take (i := 12) (oi := { dst := some 23, op := Go.Op.fieldAddr 27 (Go.Operand.tmp 2) 5, type := 0, pos := "fit.go:91", after := #[], guard := none }) (v := ?_) rfl (by kernel_rfl) (by kernel_rfl) (by kernel_rfl) (fun _ _ _ h => h) (Or.inl ⟨by rfl, ?_⟩) (by assumption) ?_
    rotate_left 1
    focus ((intro wS hSw; (try dsimp only at hSw); go_simp) <;> (try with_reducible rfl))
    simp only [Act.put, List.setIfInBounds_toArray, List.set_cons_zero, List.set_cons_succ]
    refine wpAnyH_take (i := 13) (oi := { dst := some 24, op := Go.Op.load 2 (Go.Operand.tmp 23), type := 2, pos := "fit.go:91", after := #[{ on := 12, ground := Go.Ground.data }], guard := none }) (v := ?_) rfl (by kernel_rfl) (by kernel_rfl) (by kernel_rfl) (fun _ _ _ h => h) (Or.inl ⟨by rfl, ?_⟩) (by assumption) ?_
    rotate_left 1
    focus ((intro wS hSw; (try dsimp only at hSw); go_simp) <;> (try with_reducible rfl))
    simp only [Act.put, List.setIfInBounds_toArray, List.set_cons_zero, List.set_cons_succ]
    refine wpAnyH_ready (rs := [2, 15]) (by kernel_rfl) (by simp) ?_
    refine AllReadyH.cons (o := { dst := some 13, op := Go.Op.call { callee := Go.Callee.value (Go.Operand.func 45), args := #[Go.Operand.tmp 12], argTypes := #[5] }, type := 3, pos := "fit.go:91", after := #[{ on := 1, ground := Go.Ground.data }], guard := none }) rfl (fun K hK => ?_) (AllReadyH.cons (o := { dst := some 5, op := Go.Op.alloc 80, type := 0, pos := "fit.go:91", after := #[], guard := none }) rfl (fun K hK => ?_) AllReadyH.nil)
    · go_simp
      refine (C1.out _ (B2.out.trans (D2.out.mono B2.out.size))).mono ?_; rintro e w11 ⟨rfl, hw11⟩
      have D11 : Hid (Below w2.heap.size w2 w11) := hw11 ▸ D2.out
      clear hw11
      go_wp2_with fail
      refine hK.out _ _ (KS.out _ D11.out) (fun hHeld => ?_)
      clear hK K
      (try simp only [Act.put, List.setIfInBounds_toArray, List.set_cons_zero, List.set_cons_succ])
      refine wpAnyH_ready (rs := [7, 15]) (by kernel_rfl) (by simp) ?_
      refine AllReadyH.cons (o := { dst := some 18, op := Go.Op.call { callee := Go.Callee.value (Go.Operand.func 46), args := #[Go.Operand.tmp 15, Go.Operand.tmp 17], argTypes := #[9, 9] }, type := 9, pos := "fit.go:91", after := #[{ on := 4, ground := Go.Ground.data }, { on := 6, ground := Go.Ground.data }, { on := 2, ground := Go.Ground.chain }], guard := none }) rfl (fun K hK => ?_) (AllReadyH.cons (o := { dst := some 5, op := Go.Op.alloc 80, type := 0, pos := "fit.go:91", after := #[], guard := none }) rfl (fun K hK => ?_) AllReadyH.nil)
      · go_simp
        refine (C2.out _).mono ?_; rintro e w12 ⟨rfl, b12⟩
        have D12 : Hid (Below w2.heap.size w2 w12) := D11.out.trans (b12.mono D11.out.size)
        clear b12
        go_wp2_with fail
        refine hK.out _ _ (KS.out _ D12.out) (fun hHeld => ?_)
        clear hK K
        (try simp only [Act.put, List.setIfInBounds_toArray, List.set_cons_zero, List.set_cons_succ])
        refine wpAnyH_take (i := 14) (oi := { dst := some 25, op := Go.Op.build 80 #[(0, Go.Operand.tmp 13), (1, Go.Operand.tmp 18), (2, Go.Operand.tmp 20), (3, Go.Operand.tmp 22), (4, Go.Operand.tmp 24)], type := 80, pos := "fit.go:91", after := #[{ on := 2, ground := Go.Ground.data }, { on := 7, ground := Go.Ground.data }, { on := 9, ground := Go.Ground.data }, { on := 11, ground := Go.Ground.data }, { on := 13, ground := Go.Ground.data }], guard := none }) (v := ?_) rfl (by kernel_rfl) (by kernel_rfl) (by kernel_rfl) (fun _ _ _ h => h) (Or.inl ⟨by rfl, ?_⟩) (by assumption) ?_
        rotate_left 1
        focus ((intro wS hSw; (try dsimp only at hSw); go_simp) <;> (try with_reducible rfl))
        simp only [Act.put, List.setIfInBounds_toArray, List.set_cons_zero, List.set_cons_succ]
        refine wpAnyH_ready (rs := [15]) (by kernel_rfl) (by simp) ?_
        refine AllReadyH.cons (o := { dst := some 5, op := Go.Op.alloc 80, type := 0, pos := "fit.go:91", after := #[], guard := none }) rfl (fun K hK => ?_) AllReadyH.nil
        · refine step_alloc_obj rfl 80 rfl (enV 0 emp 0 emp 0) ZD.out ?_
          intro w13 g13 b13
          have X13 : Hid (ObjAt w13 w12.heap.size 80 (enV 0 emp 0 emp 0)) := g13
          have D13 : Hid (Below w2.heap.size w2 w13) := D12.out.trans (b13.mono D12.out.size)
          clear g13 b13
          refine hK.out _ _ (KS.out _ D13.out) (fun hHeld => ?_)
          clear hK K
          (try simp only [Act.put, List.setIfInBounds_toArray, List.set_cons_zero, List.set_cons_succ])
          refine wpAnyH_ready (rs := [16]) (by kernel_rfl) (by simp) ?_
          refine AllReadyH.cons (o := { dst := none, op := Go.Op.store 80 (Go.Operand.tmp 5) (Go.Operand.tmp 25), type := 0, pos := "fit.go:91", after := #[{ on := 15, ground := Go.Ground.data }, { on := 14, ground := Go.Ground.data }, { on := 7, ground := Go.Ground.chain }, { on := 0, ground := Go.Ground.phase }, { on := 1, ground := Go.Ground.phase }, { on := 2, ground := Go.Ground.phase }, { on := 3, ground := Go.Ground.phase }, { on := 4, ground := Go.Ground.phase }, { on := 5, ground := Go.Ground.phase }, { on := 6, ground := Go.Ground.phase }, { on := 7, ground := Go.Ground.phase }, { on := 8, ground := Go.Ground.phase }, { on := 9, ground := Go.Ground.phase }, { on := 10, ground := Go.Ground.phase }, { on := 11, ground := Go.Ground.phase }, { on := 12, ground := Go.Ground.phase }, { on := 13, ground := Go.Ground.phase }, { on := 14, ground := Go.Ground.phase }, { on := 15, ground := Go.Ground.phase }], guard := none }) rfl (fun K hK => ?_) AllReadyH.nil
          refine step_store_obj rfl 80 (.tmp 5) (.tmp 25) rfl w12.heap.size rfl (enV KD PJ md lk sz) (enV 0 emp 0 emp 0) rfl 80 X13.out OD.out.2 rfl (en_one _ _ _ _ _) ?_
          intro w14 g14 t14
          have X14 : Hid (ObjAt w14 w12.heap.size 80 (enV KD PJ md lk sz)) := g14
          have D14 : Hid (Below w2.heap.size w2 w14) := D13.out.trans (t14.below (D12.out.size))
          clear g14 t14
          refine hK.out _ _ (KS.out _ D14.out) (fun hHeld => ?_)
          clear hK K
          (try simp only [Act.put])
          refine wpAnyH_done (by kernel_rfl) ?_ _
          go_wp2_with fail
          go_meet
          exact ⟨_, rfl, X14.out, D14.out, D12.out.size⟩
        
      · refine step_alloc_obj rfl 80 rfl (enV 0 emp 0 emp 0) ZD.out ?_
        intro w15 g15 b15
        have X15 : Hid (ObjAt w15 w11.heap.size 80 (enV 0 emp 0 emp 0)) := g15
        have D15 : Hid (Below w2.heap.size w2 w15) := D11.out.trans (b15.mono D11.out.size)
        clear g15 b15
        refine hK.out _ _ (KS.out _ D15.out) (fun hHeld => ?_)
        clear hK K
        (try simp only [Act.put, List.setIfInBounds_toArray, List.set_cons_zero, List.set_cons_succ])
        refine wpAnyH_ready (rs := [7]) (by kernel_rfl) (by simp) ?_
        refine AllReadyH.cons (o := { dst := some 18, op := Go.Op.call { callee := Go.Callee.value (Go.Operand.func 46), args := #[Go.Operand.tmp 15, Go.Operand.tmp 17], argTypes := #[9, 9] }, type := 9, pos := "fit.go:91", after := #[{ on := 4, ground := Go.Ground.data }, { on := 6, ground := Go.Ground.data }, { on := 2, ground := Go.Ground.chain }], guard := none }) rfl (fun K hK => ?_) AllReadyH.nil
        · go_simp
          refine (C2.out _).mono ?_; rintro e w16 ⟨rfl, b16⟩
          have D16 : Hid (Below w2.heap.size w2 w16) := D15.out.trans (b16.mono D15.out.size)
          have X16 : Hid (ObjAt w16 w11.heap.size 80 (enV 0 emp 0 emp 0)) := X15.out.below b16 X15.out.lt
          clear b16
          go_wp2_with fail
          refine hK.out _ _ (KS.out _ D16.out) (fun hHeld => ?_)
          clear hK K
          (try simp only [Act.put, List.setIfInBounds_toArray, List.set_cons_zero, List.set_cons_succ])
          refine wpAnyH_take (i := 14) (oi := { dst := some 25, op := Go.Op.build 80 #[(0, Go.Operand.tmp 13), (1, Go.Operand.tmp 18), (2, Go.Operand.tmp 20), (3, Go.Operand.tmp 22), (4, Go.Operand.tmp 24)], type := 80, pos := "fit.go:91", after := #[{ on := 2, ground := Go.Ground.data }, { on := 7, ground := Go.Ground.data }, { on := 9, ground := Go.Ground.data }, { on := 11, ground := Go.Ground.data }, { on := 13, ground := Go.Ground.data }], guard := none }) (v := ?_) rfl (by kernel_rfl) (by kernel_rfl) (by kernel_rfl) (fun _ _ _ h => h) (Or.inl ⟨by rfl, ?_⟩) (by assumption) ?_
          rotate_left 1
          focus ((intro wS hSw; (try dsimp only at hSw); go_simp) <;> (try with_reducible rfl))
          simp only [Act.put, List.setIfInBounds_toArray, List.set_cons_zero, List.set_cons_succ]
          refine wpAnyH_ready (rs := [16]) (by kernel_rfl) (by simp) ?_
          refine AllReadyH.cons (o := { dst := none, op := Go.Op.store 80 (Go.Operand.tmp 5) (Go.Operand.tmp 25), type := 0, pos := "fit.go:91", after := #[{ on := 15, ground := Go.Ground.data }, { on := 14, ground := Go.Ground.data }, { on := 7, ground := Go.Ground.chain }, { on := 0, ground := Go.Ground.phase }, { on := 1, ground := Go.Ground.phase }, { on := 2, ground := Go.Ground.phase }, { on := 3, ground := Go.Ground.phase }, { on := 4, ground := Go.Ground.phase }, { on := 5, ground := Go.Ground.phase }, { on := 6, ground := Go.Ground.phase }, { on := 7, ground := Go.Ground.phase }, { on := 8, ground := Go.Ground.phase }, { on := 9, ground := Go.Ground.phase }, { on := 10, ground := Go.Ground.phase }, { on := 11, ground := Go.Ground.phase }, { on := 12, ground := Go.Ground.phase }, { on := 13, ground := Go.Ground.phase }, { on := 14, ground := Go.Ground.phase }, { on := 15, ground := Go.Ground.phase }], guard := none }) rfl (fun K hK => ?_) AllReadyH.nil
          refine step_store_obj rfl 80 (.tmp 5) (.tmp 25) rfl w11.heap.size rfl (enV KD PJ md lk sz) (enV 0 emp 0 emp 0) rfl 80 X16.out OD.out.2 rfl (en_one _ _ _ _ _) ?_
          intro w17 g17 t17
          have X17 : Hid (ObjAt w17 w11.heap.size 80 (enV KD PJ md lk sz)) := g17
          have D17 : Hid (Below w2.heap.size w2 w17) := D16.out.trans (t17.below (D11.out.size))
          clear g17 t17
          refine hK.out _ _ (KS.out _ D17.out) (fun hHeld => ?_)
          clear hK K
          (try simp only [Act.put])
          refine wpAnyH_done (by kernel_rfl) ?_ _
          go_wp2_with fail
          go_meet
          exact ⟨_, rfl, X17.out, D17.out, D11.out.size⟩
        
      
    · refine step_alloc_obj rfl 80 rfl (enV 0 emp 0 emp 0) ZD.out ?_
      intro w18 g18 b18
      have X18 : Hid (ObjAt w18 w2.heap.size 80 (enV 0 emp 0 emp 0)) := g18
      have D18 : Hid (Below w2.heap.size w2 w18) := D2.out.trans (b18.mono D2.out.size)
      clear g18 b18
      refine hK.out _ _ (KS.out _ D18.out) (fun hHeld => ?_)
      clear hK K
      (try simp only [Act.put, List.setIfInBounds_toArray, List.set_cons_zero, List.set_cons_succ])
      refine wpAnyH_ready (rs := [2]) (by kernel_rfl) (by simp) ?_
      refine AllReadyH.cons (o := { dst := some 13, op := Go.Op.call { callee := Go.Callee.value (Go.Operand.func 45), args := #[Go.Operand.tmp 12], argTypes := #[5] }, type := 3, pos := "fit.go:91", after := #[{ on := 1, ground := Go.Ground.data }], guard := none }) rfl (fun K hK => ?_) AllReadyH.nil
      · go_simp
        refine (C1.out _ (B2.out.trans (D18.out.mono B2.out.size))).mono ?_; rintro e w19 ⟨rfl, hw19⟩
        have D19 : Hid (Below w2.heap.size w2 w19) := hw19 ▸ D18.out
        have X19 : Hid (ObjAt w19 w2.heap.size 80 (enV 0 emp 0 emp 0)) := hw19 ▸ X18.out
        clear hw19
        go_wp2_with fail
        refine hK.out _ _ (KS.out _ D19.out) (fun hHeld => ?_)
        clear hK K
        (try simp only [Act.put, List.setIfInBounds_toArray, List.set_cons_zero, List.set_cons_succ])
        refine wpAnyH_ready (rs := [7]) (by kernel_rfl) (by simp) ?_
        refine AllReadyH.cons (o := { dst := some 18, op := Go.Op.call { callee := Go.Callee.value (Go.Operand.func 46), args := #[Go.Operand.tmp 15, Go.Operand.tmp 17], argTypes := #[9, 9] }, type := 9, pos := "fit.go:91", after := #[{ on := 4, ground := Go.Ground.data }, { on := 6, ground := Go.Ground.data }, { on := 2, ground := Go.Ground.chain }], guard := none }) rfl (fun K hK => ?_) AllReadyH.nil
        · go_simp
          refine (C2.out _).mono ?_; rintro e w20 ⟨rfl, b20⟩
          have D20 : Hid (Below w2.heap.size w2 w20) := D19.out.trans (b20.mono D19.out.size)
          have X20 : Hid (ObjAt w20 w2.heap.size 80 (enV 0 emp 0 emp 0)) := X19.out.below b20 X19.out.lt
          clear b20
          go_wp2_with fail
          refine hK.out _ _ (KS.out _ D20.out) (fun hHeld => ?_)
          clear hK K
          (try simp only [Act.put, List.setIfInBounds_toArray, List.set_cons_zero, List.set_cons_succ])
          refine wpAnyH_take (i := 14) (oi := { dst := some 25, op := Go.Op.build 80 #[(0, Go.Operand.tmp 13), (1, Go.Operand.tmp 18), (2, Go.Operand.tmp 20), (3, Go.Operand.tmp 22), (4, Go.Operand.tmp 24)], type := 80, pos := "fit.go:91", after := #[{ on := 2, ground := Go.Ground.data }, { on := 7, ground := Go.Ground.data }, { on := 9, ground := Go.Ground.data }, { on := 11, ground := Go.Ground.data }, { on := 13, ground := Go.Ground.data }], guard := none }) (v := ?_) rfl (by kernel_rfl) (by kernel_rfl) (by kernel_rfl) (fun _ _ _ h => h) (Or.inl ⟨by rfl, ?_⟩) (by assumption) ?_
          rotate_left 1
          focus ((intro wS hSw; (try dsimp only at hSw); go_simp) <;> (try with_reducible rfl))
          simp only [Act.put, List.setIfInBounds_toArray, List.set_cons_zero, List.set_cons_succ]
          refine wpAnyH_ready (rs := [16]) (by kernel_rfl) (by simp) ?_
          refine AllReadyH.cons (o := { dst := none, op := Go.Op.store 80 (Go.Operand.tmp 5) (Go.Operand.tmp 25), type := 0, pos := "fit.go:91", after := #[{ on := 15, ground := Go.Ground.data }, { on := 14, ground := Go.Ground.data }, { on := 7, ground := Go.Ground.chain }, { on := 0, ground := Go.Ground.phase }, { on := 1, ground := Go.Ground.phase }, { on := 2, ground := Go.Ground.phase }, { on := 3, ground := Go.Ground.phase }, { on := 4, ground := Go.Ground.phase }, { on := 5, ground := Go.Ground.phase }, { on := 6, ground := Go.Ground.phase }, { on := 7, ground := Go.Ground.phase }, { on := 8, ground := Go.Ground.phase }, { on := 9, ground := Go.Ground.phase }, { on := 10, ground := Go.Ground.phase }, { on := 11, ground := Go.Ground.phase }, { on := 12, ground := Go.Ground.phase }, { on := 13, ground := Go.Ground.phase }, { on := 14, ground := Go.Ground.phase }, { on := 15, ground := Go.Ground.phase }], guard := none }) rfl (fun K hK => ?_) AllReadyH.nil
          refine step_store_obj rfl 80 (.tmp 5) (.tmp 25) rfl w2.heap.size rfl (enV KD PJ md lk sz) (enV 0 emp 0 emp 0) rfl 80 X20.out OD.out.2 rfl (en_one _ _ _ _ _) ?_
          intro w21 g21 t21
          have X21 : Hid (ObjAt w21 w2.heap.size 80 (enV KD PJ md lk sz)) := g21
          have D21 : Hid (Below w2.heap.size w2 w21) := D20.out.trans (t21.below (Nat.le_refl _))
          clear g21 t21
          refine hK.out _ _ (KS.out _ D21.out) (fun hHeld => ?_)
          clear hK K
          (try simp only [Act.put])
          refine wpAnyH_done (by kernel_rfl) ?_ _
          go_wp2_with fail
          go_meet
          exact ⟨_, rfl, X21.out, D21.out, Nat.le_refl _⟩
        
      
  case rest =>
  obtain ⟨g, rfl, hx, hb, hg⟩ := hcut
  have X3 := Lib.hid hx
  have Q3 := Lib.hid (Q2.out.below hb Q2.out.lt)
  have B3 := Lib.hid (belT B2.out hb)
  have R3 := Lib.hid (HR.out.below B3.out)
  have LG : Hid (w1.heap.size < g) := Nat.lt_of_lt_of_le Q2.out.lt hg
  have LW : Hid (w.heap.size ≤ w1.heap.size) := B1.out.size
  clear hx hb hg KS D2 C1 C2
  go_wp2_with (first | (refine wpList_make_map rfl 82 rfl ?_; intro w4 g4 b4; have M4 := Lib.hid g4; have X4 := Lib.hid (X3.out.below b4 X3.out.lt); have Q4 := Lib.hid (Q3.out.below b4 Q3.out.lt); have A4 := Lib.hid b4; have LM : Hid (g < wc.heap.size ∧ w1.heap.size < wc.heap.size) := ⟨X3.out.lt, Q3.out.lt⟩; clear g4 b4) | (refine wpList_insert_map rfl 82 _ _ _ rfl 9 81 UM.out US.out wc.heap.size rfl kLink rfl _ rfl [] M4.out (by unfold lookS; rfl) ?_; intro w5 g5 t5; have M5 := Lib.hid g5; have X5 := Lib.hid (X4.out.turnB t5 (Nat.ne_of_lt LM.out.1)); have Q5 := Lib.hid (Q4.out.turnB t5 (Nat.ne_of_lt LM.out.2)); have A5 := Lib.hid (A4.out.trans (t5.below (Nat.le_refl _))); clear g5 t5) | (refine wpList_insert_map rfl 82 _ _ _ rfl 9 81 UM.out US.out wc.heap.size rfl kPath rfl _ rfl [(kLink, .func (.func 47) #[.pointer (some ⟨g, 0, none⟩)] #[])] M5.out (by unfold lookS; rfl) ?_; intro w6 g6 t6; have M6 := Lib.hid g6; have X6 := Lib.hid (X5.out.turnB t6 (Nat.ne_of_lt LM.out.1)); have Q6 := Lib.hid (Q5.out.turnB t6 (Nat.ne_of_lt LM.out.2)); have A6 := Lib.hid (A5.out.trans (t6.below (Nat.le_refl _))); clear g6 t6) | (refine wpList_insert_map rfl 82 _ _ _ rfl 9 81 UM.out US.out wc.heap.size rfl kSize rfl _ rfl [(kLink, .func (.func 47) #[.pointer (some ⟨g, 0, none⟩)] #[]), (kPath, .func (.func 48) #[.pointer (some ⟨g, 0, none⟩)] #[])] M6.out (by unfold lookS; rfl) ?_; intro w7 g7 t7; have M7 := Lib.hid g7; have X7 := Lib.hid (X6.out.turnB t7 (Nat.ne_of_lt LM.out.1)); have Q7 := Lib.hid (Q6.out.turnB t7 (Nat.ne_of_lt LM.out.2)); have A7 := Lib.hid (A6.out.trans (t7.below (Nat.le_refl _))); clear g7 t7))
  have M8 : Hid (MapAt w7 wc.heap.size (setters g)) := M7.out
  have B8 := Lib.hid (belT B3.out A7.out)
  go_loopw [33] (fun i wr => ∃ (j : Nat) (x : Ent), i = .int .i64 j ∧ j ≤ n ∧ x = (rs.take j).foldl setR ⟨KD, PJ, md, lk, sz⟩ ∧ ObjAt wr g 80 (enV x.k x.p x.m x.t x.s) ∧ MapAt wr wc.heap.size (setters g) ∧ ObjAt wr w1.heap.size 23 (enV 0 emp 0 emp 0) ∧ Below w.heap.size w wr) (fun i _ => n - (intOf i).toNat)
  case atStart => exact ⟨0, ⟨KD, PJ, md, lk, sz⟩, rfl, Nat.zero_le _, rfl, X7.out, M8.out, Q7.out, B8.out⟩
  case round =>
    obtain ⟨j, x, rfl, hj, hx, hX, hM, hQ, hB⟩ := hrel
    have HX := Lib.hid hx; have XR := Lib.hid hX; have MR := Lib.hid hM; have QR := Lib.hid hQ; have BR := Lib.hid hB
    obtain ⟨xk, xp, xm, xt, xs⟩ := x
    clear hx hX hM hQ hB
    have WL : Hid (wc.heap.size < wr.heap.size) := MR.out.lt
    by_cases hjn : j < n
    · obtain ⟨r, hr⟩ := get_some (show j < rs.length by rw [HN.out]; exact hjn)
      obtain ⟨Ke, Va⟩ := r
      have HVa : Hid (Va.size ≤ 281474976710656) := HS.out _ (List.mem_of_getElem? hr)
      have FS := Lib.hid (fold_succ ⟨KD, PJ, md, lk, sz⟩ hr)
      obtain ⟨b1, o1, hbe, _, c0', c1'⟩ := (HR.out.below BR.out).get j _ hr
      have j1 : (j : Int) < n := by omega
      have c0 : wr.cell? ⟨b1, o1 + j * 2, none⟩ = some (.string Ke) := c0'
      have c1 : wr.cell? ⟨b1, o1 + j * 2 + 1, none⟩ = some (.string Va) := c1'
      clear c0' c1' hr hjn
      subst hbe
      by_cases k0 : Ke = kLink
      · subst k0
        have LK := Lib.hid fun (w' : World) (hm : MapAt w' wc.heap.size (setters g)) => run_look (P := Tryd.prog) (w := w') 82 9 81 UM.out US.out .nilFunc ZF.out wc.heap.size kLink (setters g) hm true (.func (.func 47) #[.pointer (some ⟨g, 0, none⟩)] #[]) (by rw [look_link g])
        go_wp2_with (first | (refine wpList_alloc_obj rfl 38 rfl rz RZ.out ?_; intro w4 g4 b4; have S4 := Lib.hid g4; have A4 := Lib.hid b4; clear g4 b4) | (refine wpList_store_obj rfl 38 _ _ rfl wr.heap.size rfl [.string kLink, .string Va] rz rfl 38 S4.out RO.out.2 rfl (rec_one _ _) ?_; intro w5 g5 t5; have A5 := Lib.hid (A4.out.trans (t5.below (Nat.le_refl _))); have X5 := Lib.hid (XR.out.below A5.out XR.out.lt); have M5 := Lib.hid (MR.out.below A5.out MR.out.lt); have Q5 := Lib.hid (QR.out.below A5.out QR.out.lt); have B5 := Lib.hid (belT BR.out A5.out); have d0 := g5.get 0 rfl; have d1 := g5.get 1 rfl; have lk5 := LK.out w5 M5.out; clear g5 t5))
        refine (st_target g xk xp xm xt xs Va w5 X5.out).mono ?_; rintro e w6 ⟨rfl, x6, o6⟩
        have X6 := Lib.hid x6
        have M6 := Lib.hid (M5.out.block (o6.block _ M5.out.lt (.inr (Nat.succ_le_of_lt LM.out.1))))
        have Q6 := Lib.hid (Q5.out.out o6 (.inl LG.out))
        have B6 := Lib.hid (B5.out.trans (o6.below (Nat.le_trans LW.out (Nat.le_of_lt LG.out)) B5.out.size))
        clear x6 o6 lk5
        go_wp2
        go_roundw
        case rel => exact ⟨j + 1, ⟨xk, xp, xm, Va, xs⟩, by go_num, by omega, by rw [FS.out, ← HX.out, set_link], X6.out, M6.out, Q6.out, B6.out⟩
        case measure => simp [intOf]; omega
      · by_cases k1 : Ke = kPath
        · subst k1
          clear k0
          have LK := Lib.hid fun (w' : World) (hm : MapAt w' wc.heap.size (setters g)) => run_look (P := Tryd.prog) (w := w') 82 9 81 UM.out US.out .nilFunc ZF.out wc.heap.size kPath (setters g) hm true (.func (.func 48) #[.pointer (some ⟨g, 0, none⟩)] #[]) (by rw [look_path g])
          go_wp2_with (first | (refine wpList_alloc_obj rfl 38 rfl rz RZ.out ?_; intro w4 g4 b4; have S4 := Lib.hid g4; have A4 := Lib.hid b4; clear g4 b4) | (refine wpList_store_obj rfl 38 _ _ rfl wr.heap.size rfl [.string kPath, .string Va] rz rfl 38 S4.out RO.out.2 rfl (rec_one _ _) ?_; intro w5 g5 t5; have A5 := Lib.hid (A4.out.trans (t5.below (Nat.le_refl _))); have X5 := Lib.hid (XR.out.below A5.out XR.out.lt); have M5 := Lib.hid (MR.out.below A5.out MR.out.lt); have Q5 := Lib.hid (QR.out.below A5.out QR.out.lt); have B5 := Lib.hid (belT BR.out A5.out); have d0 := g5.get 0 rfl; have d1 := g5.get 1 rfl; have lk5 := LK.out w5 M5.out; clear g5 t5))
          refine (st_path g xk xp xm xt xs Va w5 X5.out).mono ?_; rintro e w6 ⟨rfl, x6, o6⟩
          have X6 := Lib.hid x6
          have M6 := Lib.hid (M5.out.block (o6.block _ M5.out.lt (.inr (Nat.succ_le_of_lt LM.out.1))))
          have Q6 := Lib.hid (Q5.out.out o6 (.inl LG.out))
          have B6 := Lib.hid (B5.out.trans (o6.below (Nat.le_trans LW.out (Nat.le_of_lt LG.out)) B5.out.size))
          clear x6 o6 lk5
          go_wp2
          go_roundw
          case rel => exact ⟨j + 1, ⟨xk, Va, xm, xt, xs⟩, by go_num, by omega, by rw [FS.out, ← HX.out, set_path], X6.out, M6.out, Q6.out, B6.out⟩
          case measure => simp [intOf]; omega
        · by_cases k2 : Ke = kSize
          · subst k2
            clear k0 k1
            have LK := Lib.hid fun (w' : World) (hm : MapAt w' wc.heap.size (setters g)) => run_look (P := Tryd.prog) (w := w') 82 9 81 UM.out US.out .nilFunc ZF.out wc.heap.size kSize (setters g) hm true (.func (.func 49) #[.pointer (some ⟨g, 0, none⟩)] #[]) (by rw [look_size g])
            go_wp2_with (first | (refine wpList_alloc_obj rfl 38 rfl rz RZ.out ?_; intro w4 g4 b4; have S4 := Lib.hid g4; have A4 := Lib.hid b4; clear g4 b4) | (refine wpList_store_obj rfl 38 _ _ rfl wr.heap.size rfl [.string kSize, .string Va] rz rfl 38 S4.out RO.out.2 rfl (rec_one _ _) ?_; intro w5 g5 t5; have A5 := Lib.hid (A4.out.trans (t5.below (Nat.le_refl _))); have X5 := Lib.hid (XR.out.below A5.out XR.out.lt); have M5 := Lib.hid (MR.out.below A5.out MR.out.lt); have Q5 := Lib.hid (QR.out.below A5.out QR.out.lt); have B5 := Lib.hid (belT BR.out A5.out); have d0 := g5.get 0 rfl; have d1 := g5.get 1 rfl; have lk5 := LK.out w5 M5.out; clear g5 t5))
            refine (st_size g xk xp xm xt xs Va w5 (HV.out.go B5.out) HVa.out X5.out).mono ?_; rintro e w6 ⟨rfl, x6, o6⟩
            have X6 := Lib.hid x6
            have M6 := Lib.hid (M5.out.block (o6.block _ M5.out.lt (.inr (Nat.succ_le_of_lt LM.out.1))))
            have Q6 := Lib.hid (Q5.out.out o6 (.inl LG.out))
            have B6 := Lib.hid (B5.out.trans (o6.below (Nat.le_trans LW.out (Nat.le_of_lt LG.out)) B5.out.size))
            clear x6 o6 lk5
            go_wp2
            go_roundw
            case rel => exact ⟨j + 1, ⟨xk, xp, xm, xt, pzI Va⟩, by go_num, by omega, by rw [FS.out, ← HX.out, set_size], X6.out, M6.out, Q6.out, B6.out⟩
            case measure => simp [intOf]; omega
          · have K0 := Lib.hid k0; have K1 := Lib.hid k1; have K2 := Lib.hid k2
            clear k0 k1 k2
            have LK := Lib.hid fun (w' : World) (hm : MapAt w' wc.heap.size (setters g)) => run_look (P := Tryd.prog) (w := w') 82 9 81 UM.out US.out .nilFunc ZF.out wc.heap.size Ke (setters g) hm false (.nilFunc) (by rw [look_none g K0.out K1.out K2.out])
            go_wp2_with (first | (refine wpList_alloc_obj rfl 38 rfl rz RZ.out ?_; intro w4 g4 b4; have S4 := Lib.hid g4; have A4 := Lib.hid b4; clear g4 b4) | (refine wpList_store_obj rfl 38 _ _ rfl wr.heap.size rfl [.string Ke, .string Va] rz rfl 38 S4.out RO.out.2 rfl (rec_one _ _) ?_; intro w5 g5 t5; have A5 := Lib.hid (A4.out.trans (t5.below (Nat.le_refl _))); have X5 := Lib.hid (XR.out.below A5.out XR.out.lt); have M5 := Lib.hid (MR.out.below A5.out MR.out.lt); have Q5 := Lib.hid (QR.out.below A5.out QR.out.lt); have B5 := Lib.hid (belT BR.out A5.out); have d0 := g5.get 0 rfl; have d1 := g5.get 1 rfl; have lk5 := LK.out w5 M5.out; clear g5 t5))
            go_roundw
            case rel => exact ⟨j + 1, ⟨xk, xp, xm, xt, xs⟩, by go_num, by omega, by rw [FS.out, ← HX.out]; unfold setR; rw [if_neg K0.out, if_neg K1.out, if_neg K2.out], X5.out, M5.out, Q5.out, B5.out⟩
            case measure => simp [intOf]; omega
    · obtain rfl : j = n := by omega
      have j1 : ¬ (j : Int) < j := by omega
      have hfin : (⟨xk, xp, xm, xt, xs⟩ : Ent) = cmpE ⟨T, nm, pf, lk, md, sz⟩ rs := by
        rw [HX.out, List.take_of_length_le (by rw [HN.out]; exact Nat.le_refl _)]; unfold cmpE; rw [E0.out]
      have HF := Lib.hid hfin
      clear hjn hfin HX
      go_wp2_with (first | (refine wpList_load_obj rfl 80 5 OD.out _ rfl g rfl 80 (enV xk xp xm xt xs) XR.out rfl ?_) | (refine wpList_store_obj rfl 23 _ _ rfl w1.heap.size rfl (enV xk xp xm xt xs) (enV 0 emp 0 emp 0) rfl 23 QR.out EO.out.2 rfl (en_one _ _ _ _ _) ?_; intro w9 g9 t9; have Q9 := Lib.hid g9; have T9 := Lib.hid t9; clear g9 t9))
      exact bodyPost_ret (results_obj Tryd.results29 EO.out _ w1.heap.size rfl _ (enV xk xp xm xt xs) Q9.out rfl) rfl ⟨⟨xk, xp, xm, xt, xs⟩, rfl, HF.out, BR.out.trans (T9.out.below LW.out)⟩
end Go.Proofs.YtokjmehecfjhmaaDoor.Fit
/-
  Layer 10: Merge.
-/
namespace Go.Proofs.YtokjmehecfjhmaaDoor.Fit
open Go.RowKit Pxr Pnm

/-- what Merge answers -/
def mgRes (H : Hd) (rs : List Rec) (x : Ent) (E : Int) : Prop := (mgOk H rs ∧ x = cmpE H rs ∧ E = 0) ∨ (¬ mgOk H rs ∧ x = ⟨0, emp, 0, emp, 0⟩ ∧ E = if rs = [] then 6 else 17)
def RetM (H : Hd) (rs : List Rec) (w : World) (e : Ending) (w' : World) : Prop := ∃ (x : Ent) (E : Int), e = .returned (.tuple #[.agg (enV x.k x.p x.m x.t x.s).toArray, .int .i64 E]) ∧ mgRes H rs x E ∧ Below w.heap.size w w'

theorem fold_sizes : ∀ (rs : List Rec) (x : Ent) (B : Nat), (∀ r ∈ rs, r.2.size ≤ B) → x.p.size ≤ B → x.t.size ≤ B → (rs.foldl setR x).p.size ≤ B ∧ (rs.foldl setR x).t.size ≤ B
  | [], _, _, _, h1, h2 => ⟨h1, h2⟩
  | r :: rs, x, B, h, h1, h2 => by
    have hr := h r List.mem_cons_self
    refine fold_sizes rs (setR x r) B (fun q hq => h q (List.mem_cons_of_mem _ hq)) ?_ ?_
    · unfold setR; split
      · exact h1
      · split
        · exact hr
        · split <;> exact h1
    · unfold setR; split
      · exact hr
      · split
        · exact h2
        · split <;> exact h2
theorem join_len (a b : List Int) : (joinZ a b).length ≤ a.length + b.length + 1 := by
  unfold joinZ; split
  · omega
  · rw [List.length_append, List.length_cons]; omega
theorem str_len (zs : List Int) : (strOfNums zs).size = zs.length := by
  rw [Lib.size_eq, strOfNums_data, List.length_map]
theorem cmp_sizes {H : Hd} {rs : List Rec} (h1 : H.nm.size ≤ 1000000) (h2 : H.pf.size ≤ 1000000) (h3 : H.lk.size ≤ 281474976710656) (hv : ∀ r ∈ rs, r.2.size ≤ 281474976710656) : (cmpE H rs).p.size ≤ maxLen ∧ (cmpE H rs).t.size ≤ maxLen := by
  have hj : (cmp0 H).p.size ≤ 281474976710656 := by
    show (strOfNums (joinZ (numsOf H.pf) (numsOf H.nm))).size ≤ _
    rw [str_len]
    have := join_len (numsOf H.pf) (numsOf H.nm)
    rw [numsOf_length, numsOf_length] at this
    omega
  obtain ⟨a, b⟩ := fold_sizes rs (cmp0 H) 281474976710656 hv hj h3
  unfold maxLen
  exact ⟨Nat.le_trans a (by decide), Nat.le_trans b (by decide)⟩
theorem mg_iff {H : Hd} {rs : List Rec} {x : Ent} (hx : x = cmpE H rs) : mgOk H rs ↔ ckE x = 0 ∧ ((plHz x).T = H.T ∧ (plHz x).nm = H.nm ∧ (plHz x).pf = H.pf ∧ (plHz x).lk = H.lk ∧ (plHz x).md = H.md ∧ (plHz x).sz = H.sz) ∧ plLz x = rs := by
  subst hx
  unfold mgOk
  constructor
  · rintro ⟨a, b, c⟩
    obtain ⟨e1, e2⟩ := pl_good_eq a
    rw [e1, e2]
    exact ⟨a, by rw [b]; exact ⟨rfl, rfl, rfl, rfl, rfl, rfl⟩, c⟩
  · rintro ⟨a, b, c⟩
    obtain ⟨e1, e2⟩ := pl_good_eq a
    rw [e1] at b
    rw [e2] at c
    refine ⟨a, ?_, c⟩
    generalize plH (cmpE H rs) = G at b
    cases G; cases H
    dsimp only at b
    obtain ⟨rfl, rfl, rfl, rfl, rfl, rfl⟩ := b
    rfl

set_option maxHeartbeats 16000000 in
set_option maxRecDepth 100000 in
theorem merge_any (T : Int) (nm pf lk : ByteArray) (md sz : Int) (a : Option Addr) (n c : Nat) (rs : List Rec) (w : World) (V : MVars w) (hnm : nm.size ≤ 1000000) (hpf : pf.size ≤ 1000000) (hlk : lk.size ≤ 281474976710656)
    (hv : ∀ r ∈ rs, r.2.size ≤ 281474976710656) (hn : rs.length = n) (hR : RecsIn w a rs) (hN : n ≤ 1000000) :
    Calls Tryd.prog 17 #[.agg (Ust.hdV T nm pf lk md sz).toArray, .slice a n c] w (RetM ⟨T, nm, pf, lk, md, sz⟩ rs w) := by
  have HO := Lib.hid hdTp; have EO := Lib.hid enT
  have HZ := Lib.hid zHp; have EZ := Lib.hid zEn
  have CM := Lib.hid fun w' (hb : Below w.heap.size w w') => comp_any T nm pf lk md sz a n c rs w' (V.go hb) hnm hpf hv hn (hR.below hb) hN
  have SZ := Lib.hid (cmp_sizes (H := ⟨T, nm, pf, lk, md, sz⟩) hnm hpf hlk hv)
  have HV := Lib.hid V; have HN := Lib.hid hn; have HR := Lib.hid hR; have HNN := Lib.hid hN
  have gH : Tryd.prog.eqGuardType Tryd.prog.depth 27 = false := by kernel_rfl
  clear V hnm hpf hlk hv hn hR hN
  go_enter Tryd.func17, Tryd.ntmps17
  go_wp2_with (first | (refine wpList_box_obj rfl 27 _ rfl (Ust.hdV T nm pf lk md sz) rfl ?_; intro w1 g1 b1; have H1 := Lib.hid g1; have B1 := Lib.hid b1; clear g1 b1) | (refine wpList_alloc_obj rfl 23 rfl (enV 0 emp 0 emp 0) EZ.out ?_; intro w2 g2 b2; have Q2 := Lib.hid g2; have H2 := Lib.hid (H1.out.below b2 H1.out.lt); have B2 := Lib.hid (belT B1.out b2); have c0 := H2.out.get 0 rfl; have c1 := H2.out.get 1 rfl; have c2 := H2.out.get 2 rfl; have c3 := H2.out.get 3 rfl; have c4 := H2.out.get 4 rfl; have c5 := H2.out.get 5 rfl; clear g2 b2))
  refine (CM.out w2 B2.out).mono ?_; rintro e w3 ⟨x, rfl, hx, b3⟩
  have HX := Lib.hid hx
  have PS : Hid (x.p.size ≤ maxLen ∧ x.t.size ≤ maxLen) := by have := SZ.out; rwa [← hx] at this
  have MG := Lib.hid (mg_iff (H := ⟨T, nm, pf, lk, md, sz⟩) hx)
  dsimp only at MG
  have H3 := Lib.hid (H2.out.below b3 H2.out.lt)
  have Q3 := Lib.hid (Q2.out.below b3 Q2.out.lt)
  have B3 := Lib.hid (belT B2.out b3)
  have LW : Hid (w.heap.size ≤ w1.heap.size) := B1.out.size
  obtain ⟨xk, xp, xm, xt, xs⟩ := x
  clear b3 hx c0 c1 c2 c3 c4 c5 CM SZ
  have PL := Lib.hid fun w' (hb : Below w.heap.size w w') => pplan_any ⟨xk, xp, xm, xt, xs⟩ w' (HV.out.go hb).f PS.out.1 PS.out.2
  have HL := Lib.hid (show (plLz ⟨xk, xp, xm, xt, xs⟩).length ≤ 3 by unfold plLz; split; exact pl_len _; decide)
  unfold RetP at PL
  obtain ⟨T', hT'⟩ := named (plHz ⟨xk, xp, xm, xt, xs⟩).T
  obtain ⟨nm', hnm'⟩ := named (plHz ⟨xk, xp, xm, xt, xs⟩).nm
  obtain ⟨pf', hpf'⟩ := named (plHz ⟨xk, xp, xm, xt, xs⟩).pf
  obtain ⟨lk', hlk'⟩ := named (plHz ⟨xk, xp, xm, xt, xs⟩).lk
  obtain ⟨md', hmd'⟩ := named (plHz ⟨xk, xp, xm, xt, xs⟩).md
  obtain ⟨sz', hsz'⟩ := named (plHz ⟨xk, xp, xm, xt, xs⟩).sz
  obtain ⟨L', hL'⟩ := named (plLz ⟨xk, xp, xm, xt, xs⟩)
  obtain ⟨E', hE'⟩ := named (ckE ⟨xk, xp, xm, xt, xs⟩)
  rw [← hT'.out, ← hnm'.out, ← hpf'.out, ← hlk'.out, ← hmd'.out, ← hsz'.out, ← hL'.out, ← hE'.out] at PL
  rw [← hT'.out, ← hnm'.out, ← hpf'.out, ← hlk'.out, ← hmd'.out, ← hsz'.out, ← hL'.out, ← hE'.out] at MG
  rw [← hL'.out] at HL
  clear hT' hnm' hpf' hlk' hmd' hsz' hL' hE'
  go_wp2_with (first | (refine wpList_alloc_obj rfl 23 rfl (enV 0 emp 0 emp 0) EZ.out ?_; intro w4 g4 b4; have R4 := Lib.hid g4; have A4 := Lib.hid b4; clear g4 b4) | (refine wpList_store_obj rfl 23 _ _ rfl w3.heap.size rfl (enV xk xp xm xt xs) (enV 0 emp 0 emp 0) rfl 23 R4.out EO.out.2 rfl (en_one _ _ _ _ _) ?_; intro w5 g5 t5; have X5 := Lib.hid g5; have A5 := Lib.hid (A4.out.trans (t5.below (Nat.le_refl _))); have H5 := Lib.hid (H3.out.below A5.out H3.out.lt); have Q5 := Lib.hid (Q3.out.below A5.out Q3.out.lt); have B5 := Lib.hid (belT B3.out A5.out); have e0 := X5.out.get 0 rfl; have e1 := X5.out.get 1 rfl; have e2 := X5.out.get 2 rfl; have e3 := X5.out.get 3 rfl; have e4 := X5.out.get 4 rfl; clear g5 t5))
  refine (PL.out w5 B5.out).mono ?_; rintro e w6 ⟨b, n', c', rfl, hn', hc', hm', hR', b6⟩
  have H6 := Lib.hid (H5.out.below b6 H5.out.lt)
  have Q6 := Lib.hid (Q5.out.below b6 Q5.out.lt)
  have X6 := Lib.hid (X5.out.below b6 X5.out.lt)
  have B6 := Lib.hid (belT B5.out b6)
  have I6 := Lib.hid hR'; have HN' := Lib.hid hn'
  clear b6 hR' hn' hc' hm' e0 e1 e2 e3 e4 PL
  have QH := Lib.hid fun (w' : World) => Ust.run_eqH 27 Tryd.underlying27 (by kernel_rfl) T' nm' pf' lk' md' sz' T nm pf lk md sz w'
  by_cases hE : E' = 0
  · subst hE
    by_cases hH : T' = T ∧ nm' = nm ∧ pf' = pf ∧ lk' = lk ∧ md' = md ∧ sz' = sz
    · have qH := QH.out; simp only [decide_eq_true hH] at qH
      have HHd := Lib.hid hH; clear hH
      have EQ := Lib.hid fun (w' : World) (hr : RecsIn w' b L') (hb : Below w.heap.size w w') => eqr_any b n' c' a n c L' rs w' HN'.out HN.out hr (HR.out.below hb) (by have := HL.out; have := HN'.out; omega)
      go_wp2_with (first | (refine wpList_alloc_obj rfl 27 rfl Ust.hd0 HZ.out ?_; intro w7 g7 b7; have R7 := Lib.hid g7; have A7 := Lib.hid b7; clear g7 b7) | (refine wpList_store_obj rfl 27 _ _ rfl w6.heap.size rfl (Ust.hdV T' nm' pf' lk' md' sz') Ust.hd0 rfl 27 R7.out HO.out.2 rfl (hd_one _ _ _ _ _ _) ?_; intro w8 g8 t8; have A8 := Lib.hid (A7.out.trans (t8.below (Nat.le_refl _))); have Y8 := Lib.hid g8; have H8 := Lib.hid (H6.out.below A8.out H6.out.lt); have Q8 := Lib.hid (Q6.out.below A8.out Q6.out.lt); have X8 := Lib.hid (X6.out.below A8.out X6.out.lt); have I8 := Lib.hid (I6.out.below A8.out); have B8 := Lib.hid (belT B6.out A8.out); have d0 := Y8.out.get 0 rfl; have d1 := Y8.out.get 1 rfl; have d2 := Y8.out.get 2 rfl; have d3 := Y8.out.get 3 rfl; have d4 := Y8.out.get 4 rfl; have d5 := Y8.out.get 5 rfl; have c0 := H8.out.get 0 rfl; have c1 := H8.out.get 1 rfl; have c2 := H8.out.get 2 rfl; have c3 := H8.out.get 3 rfl; have c4 := H8.out.get 4 rfl; have c5 := H8.out.get 5 rfl; have e0 := X8.out.get 0 rfl; have e1 := X8.out.get 1 rfl; have e2 := X8.out.get 2 rfl; have e3 := X8.out.get 3 rfl; have e4 := X8.out.get 4 rfl; clear g8 t8))
      refine (EQ.out w8 I8.out B8.out).mono ?_; rintro e w9 ⟨rfl, b9⟩
      have Q9 := Lib.hid (Q8.out.below b9 Q8.out.lt)
      have X9 := Lib.hid (X8.out.below b9 X8.out.lt)
      have B9 := Lib.hid (belT B8.out b9)
      clear b9 c0 c1 c2 c3 c4 c5 d0 d1 d2 d3 d4 d5 e0 e1 e2 e3 e4 qH EQ
      by_cases hL : L' = rs
      · rw [decide_eq_true hL]
        have OKM : Hid (mgOk ⟨T, nm, pf, lk, md, sz⟩ rs) := MG.out.2 ⟨by first | rfl | trivial, HHd.out, hL⟩
        clear hL
        have e0 := X9.out.get 0 rfl; have e1 := X9.out.get 1 rfl; have e2 := X9.out.get 2 rfl; have e3 := X9.out.get 3 rfl; have e4 := X9.out.get 4 rfl
        go_wp2_with (first | (refine wpList_store_obj rfl 23 _ _ rfl w1.heap.size rfl (enV xk xp xm xt xs) (enV 0 emp 0 emp 0) rfl 23 Q9.out EO.out.2 rfl (en_one _ _ _ _ _) ?_; intro y1 gy ty; have QY := Lib.hid gy; have TY := Lib.hid ty; clear gy ty))
        exact bodyPost_ret (results_obj_tmp Tryd.results17 EO.out _ w1.heap.size rfl _ (enV xk xp xm xt xs) QY.out rfl) rfl ⟨⟨xk, xp, xm, xt, xs⟩, 0, rfl, .inl ⟨OKM.out, HX.out, rfl⟩, B9.out.trans (TY.out.below LW.out)⟩
      · rw [decide_eq_false hL]
        have HB : Hid (¬ mgOk ⟨T, nm, pf, lk, md, sz⟩ rs) := fun h => hL (MG.out.1 h).2.2
        have HB0 := HB
        clear HB hL
        by_cases h0 : 0 < n
        · have n1 : (0 : Int) < n := by omega
          go_wp2_with (first | (refine wpList_store_obj rfl 23 _ _ rfl w1.heap.size rfl (enV 0 emp 0 emp 0) (enV 0 emp 0 emp 0) rfl 23 Q9.out EO.out.2 rfl (en_one _ _ _ _ _) ?_; intro y1 gy ty; have QY := Lib.hid gy; have TY := Lib.hid ty; clear gy ty))
          exact bodyPost_ret (results_obj_tmp Tryd.results17 EO.out _ w1.heap.size rfl _ (enV 0 emp 0 emp 0) QY.out rfl) rfl ⟨⟨0, emp, 0, emp, 0⟩, 17, rfl, .inr ⟨HB0.out, rfl, by rw [if_neg]; rintro rfl; have := HN.out; simp at this; omega⟩, B9.out.trans (TY.out.below LW.out)⟩
        · have n1 : ¬ (0 : Int) < n := by omega
          go_wp2_with (first | (refine wpList_store_obj rfl 23 _ _ rfl w1.heap.size rfl (enV 0 emp 0 emp 0) (enV 0 emp 0 emp 0) rfl 23 Q9.out EO.out.2 rfl (en_one _ _ _ _ _) ?_; intro y1 gy ty; have QY := Lib.hid gy; have TY := Lib.hid ty; clear gy ty))
          exact bodyPost_ret (results_obj_tmp Tryd.results17 EO.out _ w1.heap.size rfl _ (enV 0 emp 0 emp 0) QY.out rfl) rfl ⟨⟨0, emp, 0, emp, 0⟩, 6, rfl, .inr ⟨HB0.out, rfl, by rw [if_pos]; exact List.length_eq_zero_iff.1 (by have := HN.out; omega)⟩, B9.out.trans (TY.out.below LW.out)⟩
    · have qH := QH.out; simp only [decide_eq_false hH] at qH
      have HB : Hid (¬ mgOk ⟨T, nm, pf, lk, md, sz⟩ rs) := fun h => hH (MG.out.1 h).2.1
      have HB0 := HB
      clear HB hH
      by_cases h0 : 0 < n
      · have n1 : (0 : Int) < n := by omega
        go_wp2_with (first | (refine wpList_alloc_obj rfl 27 rfl Ust.hd0 HZ.out ?_; intro w7 g7 b7; have R7 := Lib.hid g7; have A7 := Lib.hid b7; clear g7 b7) | (refine wpList_store_obj rfl 27 _ _ rfl w6.heap.size rfl (Ust.hdV T' nm' pf' lk' md' sz') Ust.hd0 rfl 27 R7.out HO.out.2 rfl (hd_one _ _ _ _ _ _) ?_; intro w8 g8 t8; have A8 := Lib.hid (A7.out.trans (t8.below (Nat.le_refl _))); have Y8 := Lib.hid g8; have H8 := Lib.hid (H6.out.below A8.out H6.out.lt); have Q8 := Lib.hid (Q6.out.below A8.out Q6.out.lt); have X8 := Lib.hid (X6.out.below A8.out X6.out.lt); have I8 := Lib.hid (I6.out.below A8.out); have B8 := Lib.hid (belT B6.out A8.out); have d0 := Y8.out.get 0 rfl; have d1 := Y8.out.get 1 rfl; have d2 := Y8.out.get 2 rfl; have d3 := Y8.out.get 3 rfl; have d4 := Y8.out.get 4 rfl; have d5 := Y8.out.get 5 rfl; have c0 := H8.out.get 0 rfl; have c1 := H8.out.get 1 rfl; have c2 := H8.out.get 2 rfl; have c3 := H8.out.get 3 rfl; have c4 := H8.out.get 4 rfl; have c5 := H8.out.get 5 rfl; have e0 := X8.out.get 0 rfl; have e1 := X8.out.get 1 rfl; have e2 := X8.out.get 2 rfl; have e3 := X8.out.get 3 rfl; have e4 := X8.out.get 4 rfl; clear g8 t8) | (refine wpList_store_obj rfl 23 _ _ rfl w1.heap.size rfl (enV 0 emp 0 emp 0) (enV 0 emp 0 emp 0) rfl 23 Q8.out EO.out.2 rfl (en_one _ _ _ _ _) ?_; intro y1 gy ty; have QY := Lib.hid gy; have TY := Lib.hid ty; clear gy ty))
        exact bodyPost_ret (results_obj_tmp Tryd.results17 EO.out _ w1.heap.size rfl _ (enV 0 emp 0 emp 0) QY.out rfl) rfl ⟨⟨0, emp, 0, emp, 0⟩, 17, rfl, .inr ⟨HB0.out, rfl, by rw [if_neg]; rintro rfl; have := HN.out; simp at this; omega⟩, B8.out.trans (TY.out.below LW.out)⟩
      · have n1 : ¬ (0 : Int) < n := by omega
        go_wp2_with (first | (refine wpList_alloc_obj rfl 27 rfl Ust.hd0 HZ.out ?_; intro w7 g7 b7; have R7 := Lib.hid g7; have A7 := Lib.hid b7; clear g7 b7) | (refine wpList_store_obj rfl 27 _ _ rfl w6.heap.size rfl (Ust.hdV T' nm' pf' lk' md' sz') Ust.hd0 rfl 27 R7.out HO.out.2 rfl (hd_one _ _ _ _ _ _) ?_; intro w8 g8 t8; have A8 := Lib.hid (A7.out.trans (t8.below (Nat.le_refl _))); have Y8 := Lib.hid g8; have H8 := Lib.hid (H6.out.below A8.out H6.out.lt); have Q8 := Lib.hid (Q6.out.below A8.out Q6.out.lt); have X8 := Lib.hid (X6.out.below A8.out X6.out.lt); have I8 := Lib.hid (I6.out.below A8.out); have B8 := Lib.hid (belT B6.out A8.out); have d0 := Y8.out.get 0 rfl; have d1 := Y8.out.get 1 rfl; have d2 := Y8.out.get 2 rfl; have d3 := Y8.out.get 3 rfl; have d4 := Y8.out.get 4 rfl; have d5 := Y8.out.get 5 rfl; have c0 := H8.out.get 0 rfl; have c1 := H8.out.get 1 rfl; have c2 := H8.out.get 2 rfl; have c3 := H8.out.get 3 rfl; have c4 := H8.out.get 4 rfl; have c5 := H8.out.get 5 rfl; have e0 := X8.out.get 0 rfl; have e1 := X8.out.get 1 rfl; have e2 := X8.out.get 2 rfl; have e3 := X8.out.get 3 rfl; have e4 := X8.out.get 4 rfl; clear g8 t8) | (refine wpList_store_obj rfl 23 _ _ rfl w1.heap.size rfl (enV 0 emp 0 emp 0) (enV 0 emp 0 emp 0) rfl 23 Q8.out EO.out.2 rfl (en_one _ _ _ _ _) ?_; intro y1 gy ty; have QY := Lib.hid gy; have TY := Lib.hid ty; clear gy ty))
        exact bodyPost_ret (results_obj_tmp Tryd.results17 EO.out _ w1.heap.size rfl _ (enV 0 emp 0 emp 0) QY.out rfl) rfl ⟨⟨0, emp, 0, emp, 0⟩, 6, rfl, .inr ⟨HB0.out, rfl, by rw [if_pos]; exact List.length_eq_zero_iff.1 (by have := HN.out; omega)⟩, B8.out.trans (TY.out.below LW.out)⟩
  · have n0 : (E' == 0) = false := by simpa using hE
    have HB : Hid (¬ mgOk ⟨T, nm, pf, lk, md, sz⟩ rs) := fun h => hE (MG.out.1 h).1
    have HB0 := HB
    clear HB hE
    by_cases h0 : 0 < n
    · have n1 : (0 : Int) < n := by omega
      go_wp2_with (first | (refine wpList_alloc_obj rfl 27 rfl Ust.hd0 HZ.out ?_; intro w7 g7 b7; have R7 := Lib.hid g7; have A7 := Lib.hid b7; clear g7 b7) | (refine wpList_store_obj rfl 27 _ _ rfl w6.heap.size rfl (Ust.hdV T' nm' pf' lk' md' sz') Ust.hd0 rfl 27 R7.out HO.out.2 rfl (hd_one _ _ _ _ _ _) ?_; intro w8 g8 t8; have A8 := Lib.hid (A7.out.trans (t8.below (Nat.le_refl _))); have Y8 := Lib.hid g8; have H8 := Lib.hid (H6.out.below A8.out H6.out.lt); have Q8 := Lib.hid (Q6.out.below A8.out Q6.out.lt); have X8 := Lib.hid (X6.out.below A8.out X6.out.lt); have I8 := Lib.hid (I6.out.below A8.out); have B8 := Lib.hid (belT B6.out A8.out); have d0 := Y8.out.get 0 rfl; have d1 := Y8.out.get 1 rfl; have d2 := Y8.out.get 2 rfl; have d3 := Y8.out.get 3 rfl; have d4 := Y8.out.get 4 rfl; have d5 := Y8.out.get 5 rfl; have c0 := H8.out.get 0 rfl; have c1 := H8.out.get 1 rfl; have c2 := H8.out.get 2 rfl; have c3 := H8.out.get 3 rfl; have c4 := H8.out.get 4 rfl; have c5 := H8.out.get 5 rfl; have e0 := X8.out.get 0 rfl; have e1 := X8.out.get 1 rfl; have e2 := X8.out.get 2 rfl; have e3 := X8.out.get 3 rfl; have e4 := X8.out.get 4 rfl; clear g8 t8) | (refine wpList_store_obj rfl 23 _ _ rfl w1.heap.size rfl (enV 0 emp 0 emp 0) (enV 0 emp 0 emp 0) rfl 23 Q8.out EO.out.2 rfl (en_one _ _ _ _ _) ?_; intro y1 gy ty; have QY := Lib.hid gy; have TY := Lib.hid ty; clear gy ty))
      exact bodyPost_ret (results_obj_tmp Tryd.results17 EO.out _ w1.heap.size rfl _ (enV 0 emp 0 emp 0) QY.out rfl) rfl ⟨⟨0, emp, 0, emp, 0⟩, 17, rfl, .inr ⟨HB0.out, rfl, by rw [if_neg]; rintro rfl; have := HN.out; simp at this; omega⟩, B8.out.trans (TY.out.below LW.out)⟩
    · have n1 : ¬ (0 : Int) < n := by omega
      go_wp2_with (first | (refine wpList_alloc_obj rfl 27 rfl Ust.hd0 HZ.out ?_; intro w7 g7 b7; have R7 := Lib.hid g7; have A7 := Lib.hid b7; clear g7 b7) | (refine wpList_store_obj rfl 27 _ _ rfl w6.heap.size rfl (Ust.hdV T' nm' pf' lk' md' sz') Ust.hd0 rfl 27 R7.out HO.out.2 rfl (hd_one _ _ _ _ _ _) ?_; intro w8 g8 t8; have A8 := Lib.hid (A7.out.trans (t8.below (Nat.le_refl _))); have Y8 := Lib.hid g8; have H8 := Lib.hid (H6.out.below A8.out H6.out.lt); have Q8 := Lib.hid (Q6.out.below A8.out Q6.out.lt); have X8 := Lib.hid (X6.out.below A8.out X6.out.lt); have I8 := Lib.hid (I6.out.below A8.out); have B8 := Lib.hid (belT B6.out A8.out); have d0 := Y8.out.get 0 rfl; have d1 := Y8.out.get 1 rfl; have d2 := Y8.out.get 2 rfl; have d3 := Y8.out.get 3 rfl; have d4 := Y8.out.get 4 rfl; have d5 := Y8.out.get 5 rfl; have c0 := H8.out.get 0 rfl; have c1 := H8.out.get 1 rfl; have c2 := H8.out.get 2 rfl; have c3 := H8.out.get 3 rfl; have c4 := H8.out.get 4 rfl; have c5 := H8.out.get 5 rfl; have e0 := X8.out.get 0 rfl; have e1 := X8.out.get 1 rfl; have e2 := X8.out.get 2 rfl; have e3 := X8.out.get 3 rfl; have e4 := X8.out.get 4 rfl; clear g8 t8) | (refine wpList_store_obj rfl 23 _ _ rfl w1.heap.size rfl (enV 0 emp 0 emp 0) (enV 0 emp 0 emp 0) rfl 23 Q8.out EO.out.2 rfl (en_one _ _ _ _ _) ?_; intro y1 gy ty; have QY := Lib.hid gy; have TY := Lib.hid ty; clear gy ty))
      exact bodyPost_ret (results_obj_tmp Tryd.results17 EO.out _ w1.heap.size rfl _ (enV 0 emp 0 emp 0) QY.out rfl) rfl ⟨⟨0, emp, 0, emp, 0⟩, 6, rfl, .inr ⟨HB0.out, rfl, by rw [if_pos]; exact List.length_eq_zero_iff.1 (by have := HN.out; omega)⟩, B8.out.trans (TY.out.below LW.out)⟩
end Go.Proofs.YtokjmehecfjhmaaDoor.Fit
