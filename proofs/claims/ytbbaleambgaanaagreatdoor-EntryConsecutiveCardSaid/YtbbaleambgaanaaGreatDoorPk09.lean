/-
  A new variable of a struct, and a store into it, as steps of a drawn region walked by hand. Nothing of the program.
-/
import Derived.Test.YtbbaleambgaanaaGreatDoorPk06
import Derived.Deep.RegionHeld3
import Derived.Test.YtbbaleambgaanaaGreatDoorFitMerge
import Derived.Test.YtbbaleambgaanaaGreatDoorPk07
import Derived.Test.YtbbaleambgaanaaGreatDoorPk08
import Derived.Test.YtbbaleambgaanaaGreatDoorPk04
import Derived.Test.YtbbaleambgaanaaGreatDoorRows
namespace Go.Proofs.YtbbaleambgaanaaGreatDoor
open Go.RowKit
section
variable {P : Program} {w : World} {ops : Array Oper} {o : Oper} {a : Act} {Q : Exit → Act → World → Prop} {K : Act → World → Prop} {E : Prop}

theorem step_alloc_obj (hgd : o.guard = none) (T : TypeId) (ho : o.op = .alloc T) (vs : List Value) (hz : (P.info? T).map (·.zero) = some (some (.agg vs.toArray)))
    (k : ∀ w', ObjAt w' w.heap.size T vs → Below w.heap.size w w' → K (a.put o.dst (.pointer (some ⟨w.heap.size, 0, none⟩))) w') :
    if Region.wanted o (yielded ops a.tmps) = true then Oper.wp P o a w K Q else E := by
  have hw : Region.wanted o (yielded ops a.tmps) = true := by simp [Region.wanted, hgd]
  rw [if_pos hw]
  cases hq : P.info? T with
  | none => simp [hq] at hz
  | some i =>
    simp [hq] at hz
    unfold Oper.wp
    simp [execOp, ho, Instr.alloc, zeroValue, typeInfo, hq, hz, newVar, newRow, Result.andThen, Value.cells]
    exact k _ (heap_alloc_new w _) ((Below.refl _ _).alloc (Nat.le_refl _) _)

theorem step_store_obj (hgd : o.guard = none) (T : TypeId) (x y : Operand) (ho : o.op = .store T x y) (g : Nat) (hx : a.eval x = .pointer (some ⟨g, 0, none⟩))
    (vs old : List Value) (hy : a.eval y = .agg vs.toArray) (T' : TypeId) (hg : ObjAt w g T' old) (hs : (P.info? T).map (·.size) = some vs.length) (hl : old.length = vs.length) (h1 : ∀ v ∈ vs, v.oneCell' = true)
    (k : ∀ w', ObjAt w' g T' vs → Turned w w' g → K (a.put o.dst undef) w') :
    if Region.wanted o (yielded ops a.tmps) = true then Oper.wp P o a w K Q else E := by
  have hw : Region.wanted o (yielded ops a.tmps) = true := by simp [Region.wanted, hgd]
  rw [if_pos hw]
  refine wp_store_row T x y ho g vs.toArray hx hy T' old.toArray hg (by simpa using hs) (by simpa using hl) ?_ ?_
  · rw [Array.all_eq_true_iff_forall_mem]
    intro u hu
    exact h1 u (by simpa using hu)
  · exact k _ (setRow_heap w g _ _ T' _ hg) ⟨_, rfl⟩
end
end Go.Proofs.YtbbaleambgaanaaGreatDoor
/-
  A drawn region walked by hand: another condition on the world from some point on. Nothing of the program.
-/
namespace Go.Proofs.YtbbaleambgaanaaGreatDoor
open Go


theorem wpAnyH_switch {P : Program} {md : Region.Mode} {ops : Array Oper} {Q : Exit → Act → World → Prop} {S S2 : World → Prop} (hs : ∀ w, S2 w → S w) :
    ∀ {fuel : Nat} {listed : Array Bool} {a : Act} {w : World}, wpAnyH P md ops Q S2 fuel listed a w → wpAnyH P md ops Q S fuel listed a w
  | 0, _, _, _, h => h
  | _ + 1, _, _, _, h => ⟨h.1, fun i hi => wpOp_mono (fun _ _ h' => ⟨hs _ h'.1, wpAnyH_switch hs h'.2⟩) (h.2 i hi)⟩
end Go.Proofs.YtbbaleambgaanaaGreatDoor
/-
  Layer 10: what Plan and Merge hand back, as values.
-/
namespace Go.Proofs.YtbbaleambgaanaaGreatDoor.Fit
open Go.RowKit Pxr Pnm

/-- an entry as a value -/
abbrev enV (k : Int) (p : ByteArray) (m : Int) (t : ByteArray) (s : Int) : List Value := [.int .i64 k, .string p, .int .i64 m, .string t, .int .i64 s]
theorem enT : ObjT Tryz.prog 23 5 := ⟨⟨_, Tryz.underlying23⟩, by kernel_rfl⟩
theorem hdTp : ObjT Tryz.prog 56 6 := ⟨⟨_, Tryz.underlying56⟩, by kernel_rfl⟩
theorem hdTr : ObjT Tryz.prog 67 6 := ⟨⟨_, Tryz.underlying67⟩, by kernel_rfl⟩
theorem hd_one (T : Int) (a b c : ByteArray) (m z : Int) : ∀ v ∈ Ust.hdV T a b c m z, v.oneCell' = true := by simp [Value.oneCell']
theorem en_one (k : Int) (p : ByteArray) (m : Int) (t : ByteArray) (s : Int) : ∀ v ∈ enV k p m t s, v.oneCell' = true := by simp [Value.oneCell']
theorem zHp : (Tryz.prog.info? 56).map (·.zero) = some (some (.agg (Ust.hd0).toArray)) := by kernel_rfl
theorem zHr : (Tryz.prog.info? 67).map (·.zero) = some (some (.agg (Ust.hd0).toArray)) := by kernel_rfl
theorem zEn : (Tryz.prog.info? 23).map (·.zero) = some (some (.agg (enV 0 emp 0 emp 0).toArray)) := by kernel_rfl
theorem sStr : (Tryz.prog.info? 9).map (·.size) = some 1 := by kernel_rfl
theorem sI64 : (Tryz.prog.info? 2).map (·.size) = some 1 := by kernel_rfl
theorem sInt : (Tryz.prog.info? 3).map (·.size) = some 1 := by kernel_rfl

/-- a header, records and an error -/
def RetPl (T : Int) (nm pf lk : ByteArray) (md sz : Int) (L : List Rec) (E : Int) (w : World) (e : Ending) (w' : World) : Prop :=
  ∃ b n c, e = .returned (.tuple #[.agg (Ust.hdV T nm pf lk md sz).toArray, .slice b n c, .int .i64 E]) ∧ L.length = n ∧ n ≤ c ∧ c ≤ maxLen ∧ RecsIn w' b L ∧ Below w.heap.size w w'
theorem RetPl.nil {T : Int} {nm pf lk : ByteArray} {md sz : Int} {E : Int} {w w' : World} (h : Below w.heap.size w w') : RetPl T nm pf lk md sz [] E w (.returned (.tuple #[.agg (Ust.hdV T nm pf lk md sz).toArray, .slice none 0 0, .int .i64 E])) w' :=
  ⟨none, 0, 0, rfl, rfl, Nat.le_refl _, Nat.zero_le _, .inl rfl, h⟩
theorem RetPl.own {T : Int} {nm pf lk : ByteArray} {md sz : Int} {E : Int} {L : List Rec} {w w' : World} {base n : Nat} {e : TypeId} {v : Value} (h : w'.ownsRow base e 2 v n (recCells L)) (hb : Below w.heap.size w w') :
    RetPl T nm pf lk md sz L E w (.returned (.tuple #[.agg (Ust.hdV T nm pf lk md sz).toArray, v, .int .i64 E])) w' := by
  obtain ⟨a, c, rfl, hn, hc, hm, hR, _⟩ := RecsIn.of_own h
  exact ⟨a, n, c, rfl, hn.symm, hc, hm, hR, hb⟩
/-- the results are a struct's variable and two slots -/
theorem results_obj_two {P : Program} {w : World} {fn : Func} {p q r : Tmp} {T : TypeId} {n : Nat} (h : fn.results = #[.cell p T, .tmp q, .tmp r]) (hT : ObjT P T n) (tmps : Array Value) (g : Nat) (hp : tmps.getD p undef = .pointer (some ⟨g, 0, none⟩))
    (T' : TypeId) (vs : List Value) (hg : ObjAt w g T' vs) (hl : vs.length = n) : (results fn tmps).run P w = .ok (.tuple #[.agg vs.toArray, tmps.getD q undef, tmps.getD r undef]) w := by
  have hp' : tmps[p]?.getD undef = .pointer (some ⟨g, 0, none⟩) := by simpa using hp
  simp [results, h, hp', asAddr, run_load_obj hT g T' vs hg hl]
end Go.Proofs.YtbbaleambgaanaaGreatDoor.Fit
/-
  Layer 7: the kinds that are not known.
-/
namespace Go.Proofs.YtbbaleambgaanaaGreatDoor.Ust
open Go.RowKit
open Oct Cst Chk

theorem known_not {T : Int} (h : ¬ known T) : (T == 48) = false ∧ (T == 49) = false ∧ (T == 50) = false ∧ (T == 53) = false ∧ (T == 120) = false := by
  unfold known at h
  simp only [not_or] at h
  obtain ⟨h1, h2, h3, h4, h5⟩ := h
  simp [h1, h2, h3, h4, h5]
end Go.Proofs.YtbbaleambgaanaaGreatDoor.Ust
/-
  Walks of the small functions of layer 2: validWidth, the search of a zero byte, check, Fits.
-/
namespace Go.Proofs.YtbbaleambgaanaaGreatDoor.Cst
open Go.RowKit

def vwB (n : Int) : Bool := decide (1 ≤ n ∧ n ≤ 256)

set_option maxHeartbeats 400000 in
theorem valid_any (n : Int) (w : World) :
    Calls Tryz.prog 171 #[.int .i64 n] w fun e w' => e = .returned (.bool (vwB n)) ∧ w = w' := by
  by_cases h1 : 1 ≤ n
  · by_cases h2 : n ≤ 256
    · have h : vwB n = true := by unfold vwB; simp [h1, h2]
      rw [h]; clear h
      go_enter Tryz.func171, Tryz.ntmps171
      go_wp2
      go_ret
      exact ⟨rfl, rfl⟩
    · have h : vwB n = false := by unfold vwB; simp [h2]
      rw [h]; clear h
      go_enter Tryz.func171, Tryz.ntmps171
      go_wp2
      go_ret
      exact ⟨rfl, rfl⟩
  · have h : vwB n = false := by unfold vwB; simp [h1]
    rw [h]; clear h
    go_enter Tryz.func171, Tryz.ntmps171
    go_wp2
    go_ret
    exact ⟨rfl, rfl⟩

theorem vwB_true {n : Int} (h1 : 1 ≤ n) (h2 : n ≤ 256) : vwB n = true := by unfold vwB; simp [h1, h2]
theorem vwB_false {n : Int} (h : n < 1 ∨ 256 < n) : vwB n = false := by unfold vwB; simp; omega

set_option maxRecDepth 20000 in
set_option maxHeartbeats 1000000 in
theorem idx_any (s : ByteArray) (w : World) :
    Calls Tryz.prog 89 #[.string s, .int .u8 0] w fun e w' => e = .returned (.int .i64 (Lib.indexByte s.data.toList 0)) ∧ w = w' := by
  go_enter Tryz.func89, Tryz.ntmps89
  go_wp2
  rw [run_callFunc_extern Tryz.func163 (by kernel_rfl) (by kernel_rfl) (by kernel_rfl) (e := Extern.BytealgIndexByte.indexByte) (by kernel_rfl), Lib.run_indexByteString s 0 w]
  simp only [Result.andThen]
  rw [Oper.upon_value]
  go_wp2
  go_ret
  exact ⟨rfl, rfl⟩

set_option maxHeartbeats 1000000 in
theorem check_any (s : ByteArray) (wd : Int) (w : World) :
    Calls Tryz.prog 170 #[.string s, .int .i64 wd] w fun e w' => e = .returned (.int .i64 (ceF (numsOf s) wd)) ∧ w = w' := by
  have hl := numsOf_length s
  by_cases h1 : wd < 1 ∨ 256 < wd
  · have hv := vwB_false h1
    have he : ceF (numsOf s) wd = 2 := by unfold ceF; rw [if_pos h1]
    rw [he]; clear h1 he
    go_enter Tryz.func170, Tryz.ntmps170
    go_wp2_with (go_at_call 171; refine (valid_any _ _).mono ?_; rintro e w' ⟨rfl, rfl⟩)
    go_ret
    exact ⟨rfl, rfl⟩
  · have hv := vwB_true (n := wd) (by omega) (by omega)
    obtain ⟨k, HK⟩ := named (Lib.indexByte s.data.toList 0)
    have hk := idx_str s
    rw [← HK.out] at hk
    by_cases h2 : (0 : Int) ∈ numsOf s
    · have hp := hk.2 h2
      have he : ceF (numsOf s) wd = 6 := by unfold ceF; rw [if_neg h1, if_pos h2]
      rw [he]; clear h1 he hk h2
      go_enter Tryz.func170, Tryz.ntmps170
      go_wp2_with (first | (go_at_call 171; refine (valid_any _ _).mono ?_; rintro e w' ⟨rfl, rfl⟩) | (go_at_call 89; refine (idx_any _ _).mono ?_; rintro e w' ⟨rfl, rfl⟩; rw [← HK.out]))
      go_ret
      exact ⟨rfl, rfl⟩
    · have hp : ¬ 0 ≤ k := fun h => h2 (hk.1 h)
      by_cases h3 : wd < s.size
      · have he : ceF (numsOf s) wd = 7 := by unfold ceF; rw [if_neg h1, if_neg h2, if_pos (by omega)]
        rw [he]; clear h1 he hk h2 hl
        go_enter Tryz.func170, Tryz.ntmps170
        go_wp2_with (first | (go_at_call 171; refine (valid_any _ _).mono ?_; rintro e w' ⟨rfl, rfl⟩) | (go_at_call 89; refine (idx_any _ _).mono ?_; rintro e w' ⟨rfl, rfl⟩; rw [← HK.out]))
        go_ret
        exact ⟨rfl, rfl⟩
      · have he : ceF (numsOf s) wd = 0 := by unfold ceF; rw [if_neg h1, if_neg h2, if_neg (by omega)]
        rw [he]; clear h1 he hk h2 hl
        go_enter Tryz.func170, Tryz.ntmps170
        go_wp2_with (first | (go_at_call 171; refine (valid_any _ _).mono ?_; rintro e w' ⟨rfl, rfl⟩) | (go_at_call 89; refine (idx_any _ _).mono ?_; rintro e w' ⟨rfl, rfl⟩; rw [← HK.out]))
        go_ret
        exact ⟨rfl, rfl⟩

end Go.Proofs.YtbbaleambgaanaaGreatDoor.Cst
/-
  Walks of cstring.Format.
-/
namespace Go.Proofs.YtbbaleambgaanaaGreatDoor.Cst
open Go.RowKit

theorem made_u8 (m : Nat) : (madeCells (Value.int .u8 0).cells (m * 1)).toList = (List.replicate m (0 : Int)).map (.int .u8) := by
  apply List.ext_getElem?
  intro i
  by_cases h : i < m <;> simp [madeCells, Value.cells, h, Nat.mod_one]

theorem Tryz.info5 : (Tryz.prog.info? 5).map (fun i => (i.zero, i.size, i.bytes)) = some (some (.int .u8 0), 1, 1) := by kernel_rfl

set_option maxHeartbeats 400000 in
theorem fmt_bad (s : ByteArray) (wd : Int) (w : World) (h : (ceF (numsOf s) wd != 0) = true) :
    Calls Tryz.prog 148 #[.string s, .int .i64 wd] w fun e w' => e = .returned (.tuple #[.slice none 0 0, .int .i64 (ceF (numsOf s) wd)]) ∧ w = w' := by
  obtain ⟨E, HE⟩ := named (ceF (numsOf s) wd)
  rw [← HE.out] at h ⊢
  go_enter Tryz.func148, Tryz.ntmps148
  go_wp2_with (go_at_call 170; refine (check_any _ _ _).mono ?_; rintro e w' ⟨rfl, rfl⟩; rw [← HE.out])
  go_ret2
  exact ⟨rfl, rfl⟩

set_option maxHeartbeats 400000 in
theorem fmt_cap (s : ByteArray) (k : Nat) (w : World) (h : ceF (numsOf s) k = 0) :
    Calls Tryz.prog 148 #[.string s, .int .i64 k] w (RetB (fldS (numsOf s) k) k 0 w) := by
  obtain ⟨h1, h2, _, h4⟩ := ceF_zero.1 h
  rw [numsOf_length] at h4
  have HN := Lib.hid h; clear h
  obtain ⟨i0, HI⟩ := info_u8 Tryz.info5
  go_enter Tryz.func148, Tryz.ntmps148
  go_wp2_with (first | (go_at_call 170; refine (check_any _ _ _).mono ?_; rintro e w' ⟨rfl, rfl⟩; rw [HN.out]) | (at_make; refine wpList_make_full _ rfl _ _ 24 rfl w.heap.size 5 i0 (.int .u8 0) 1 Tryz.underlying24 HI.out.1 HI.out.2.1 HI.out.2.2.1 .i64 .i64 _ _ k rfl rfl rfl rfl (by rw [HI.out.2.2.2]; omega) (by unfold maxLen; omega) (Nat.le_refl _) ?_; intro w1 hown1 hgrow1; rw [made_u8] at hown1) | (refine wpList_copy_string rfl _ _ 24 9 rfl w.heap.size 5 i0 Tryz.underlying24 HI w.heap.size k k (List.replicate k 0) rfl hown1 s rfl (by omega) ?_; intro w2 hown2 hb2))
  go_ret2
  have hb1 : Below w.heap.size w w1 := (Below.refl _ _).grown hgrow1 (Nat.le_refl _) (fun _ h => by cases h)
  have e : numsOf s ++ List.drop s.size (List.replicate k 0) = fldS (numsOf s) k := by unfold fldS; rw [List.drop_replicate, numsOf_length]
  rw [e] at hown2
  exact ⟨_, _, rfl, .of_own hown2 (fldS_bd _ _ (numsOf_bd s)), (own_lt hown2).2, hb1.trans hb2, Nat.le_refl _, by unfold maxLen; omega⟩

theorem fmt_ok (s : ByteArray) (k : Nat) (w : World) (h : ceF (numsOf s) k = 0) :
    Calls Tryz.prog 148 #[.string s, .int .i64 k] w (RetBytes (fldS (numsOf s) k) k 0 w) :=
  (fmt_cap s k w h).mono fun _ _ h => h.ret

end Go.Proofs.YtbbaleambgaanaaGreatDoor.Cst
