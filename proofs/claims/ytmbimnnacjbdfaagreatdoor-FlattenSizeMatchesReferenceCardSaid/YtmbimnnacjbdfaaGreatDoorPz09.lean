/-
  A new variable of a struct, and a store into it, as steps of a drawn region walked by hand. Nothing of the program.
-/
import Derived.Test.YtmbimnnacjbdfaaGreatDoorPz06
import Derived.Deep.RegionHeld3
import Derived.Test.YtmbimnnacjbdfaaGreatDoorFitMerge
import Derived.Test.YtmbimnnacjbdfaaGreatDoorPz07
import Derived.Test.YtmbimnnacjbdfaaGreatDoorPz08
import Derived.Test.YtmbimnnacjbdfaaGreatDoorPz04
import Derived.Test.YtmbimnnacjbdfaaGreatDoorRows
namespace Go.Proofs.YtmbimnnacjbdfaaGreatDoor
open Go.RowKit
section
variable {P : Program} {w : World} {ops : Array Oper} {o : Oper} {a : Act} {Q : Exit → Act → World → Prop} {K : Act → World → Prop} {E : Prop}

theorem step_alloc_obj (hgd : o.guard = none) (T : TypeId) (ho : o.op = .alloc T) (vs : List Value) (hz : (P.info? T).map (·.zero) = some (some (.agg vs.toArray)))
    (k : ∀ w', ObjAt w' w.heap.size T vs → Below w.heap.size w w' → K (a.put o.dst (.pointer (some ⟨w.heap.size, 0, none⟩))) w') :
    if Region.wanted o (yielded ops a.tmps) = true then Oper.wp P o a w K Q else E := by
  have hw : Region.wanted o (yielded ops a.tmps) = true := by simp [Region.wanted, hgd]
  rw [if_pos hw]
  cases hq : P.info? T with
  | none => simp [hq] at hz
  | some i =>
    simp [hq] at hz
    unfold Oper.wp
    simp [execOp, ho, Instr.alloc, zeroValue, typeInfo, hq, hz, newVar, newRow, Result.andThen, Value.cells]
    exact k _ (heap_alloc_new w _) ((Below.refl _ _).alloc (Nat.le_refl _) _)

theorem step_store_obj (hgd : o.guard = none) (T : TypeId) (x y : Operand) (ho : o.op = .store T x y) (g : Nat) (hx : a.eval x = .pointer (some ⟨g, 0, none⟩))
    (vs old : List Value) (hy : a.eval y = .agg vs.toArray) (T' : TypeId) (hg : ObjAt w g T' old) (hs : (P.info? T).map (·.size) = some vs.length) (hl : old.length = vs.length) (h1 : ∀ v ∈ vs, v.oneCell' = true)
    (k : ∀ w', ObjAt w' g T' vs → Turned w w' g → K (a.put o.dst undef) w') :
    if Region.wanted o (yielded ops a.tmps) = true then Oper.wp P o a w K Q else E := by
  have hw : Region.wanted o (yielded ops a.tmps) = true := by simp [Region.wanted, hgd]
  rw [if_pos hw]
  refine wp_store_row T x y ho g vs.toArray hx hy T' old.toArray hg (by simpa using hs) (by simpa using hl) ?_ ?_
  · rw [Array.all_eq_true_iff_forall_mem]
    intro u hu
    exact h1 u (by simpa using hu)
  · exact k _ (setRow_heap w g _ _ T' _ hg) ⟨_, rfl⟩
end
end Go.Proofs.YtmbimnnacjbdfaaGreatDoor
/-
  A drawn region walked by hand: another condition on the world from some point on. Nothing of the program.
-/
namespace Go.Proofs.YtmbimnnacjbdfaaGreatDoor
open Go


theorem wpAnyH_switch {P : Program} {md : Region.Mode} {ops : Array Oper} {Q : Exit → Act → World → Prop} {S S2 : World → Prop} (hs : ∀ w, S2 w → S w) :
    ∀ {fuel : Nat} {listed : Array Bool} {a : Act} {w : World}, wpAnyH P md ops Q S2 fuel listed a w → wpAnyH P md ops Q S fuel listed a w
  | 0, _, _, _, h => h
  | _ + 1, _, _, _, h => ⟨h.1, fun i hi => wpOp_mono (fun _ _ h' => ⟨hs _ h'.1, wpAnyH_switch hs h'.2⟩) (h.2 i hi)⟩
end Go.Proofs.YtmbimnnacjbdfaaGreatDoor
/-
  Layer 10: what Plan and Merge hand back, as values.
-/
namespace Go.Proofs.YtmbimnnacjbdfaaGreatDoor.Fit
open Go.RowKit Pxr Pnm

/-- an entry as a value -/
abbrev enV (k : Int) (p : ByteArray) (m : Int) (t : ByteArray) (s : Int) : List Value := [.int .i64 k, .string p, .int .i64 m, .string t, .int .i64 s]
theorem enT : ObjT Tryz.prog 24 5 := ⟨⟨_, Tryz.underlying24⟩, by kernel_rfl⟩
theorem hdTp : ObjT Tryz.prog 63 6 := ⟨⟨_, Tryz.underlying63⟩, by kernel_rfl⟩
theorem hdTr : ObjT Tryz.prog 69 6 := ⟨⟨_, Tryz.underlying69⟩, by kernel_rfl⟩
theorem hd_one (T : Int) (a b c : ByteArray) (m z : Int) : ∀ v ∈ Ust.hdV T a b c m z, v.oneCell' = true := by simp [Value.oneCell']
theorem en_one (k : Int) (p : ByteArray) (m : Int) (t : ByteArray) (s : Int) : ∀ v ∈ enV k p m t s, v.oneCell' = true := by simp [Value.oneCell']
theorem zHp : (Tryz.prog.info? 63).map (·.zero) = some (some (.agg (Ust.hd0).toArray)) := by kernel_rfl
theorem zHr : (Tryz.prog.info? 69).map (·.zero) = some (some (.agg (Ust.hd0).toArray)) := by kernel_rfl
theorem zEn : (Tryz.prog.info? 24).map (·.zero) = some (some (.agg (enV 0 emp 0 emp 0).toArray)) := by kernel_rfl
theorem sStr : (Tryz.prog.info? 9).map (·.size) = some 1 := by kernel_rfl
theorem sI64 : (Tryz.prog.info? 2).map (·.size) = some 1 := by kernel_rfl
theorem sInt : (Tryz.prog.info? 3).map (·.size) = some 1 := by kernel_rfl

/-- a header, records and an error -/
def RetPl (T : Int) (nm pf lk : ByteArray) (md sz : Int) (L : List Rec) (E : Int) (w : World) (e : Ending) (w' : World) : Prop :=
  ∃ b n c, e = .returned (.tuple #[.agg (Ust.hdV T nm pf lk md sz).toArray, .slice b n c, .int .i64 E]) ∧ L.length = n ∧ n ≤ c ∧ c ≤ maxLen ∧ RecsIn w' b L ∧ Below w.heap.size w w'
theorem RetPl.nil {T : Int} {nm pf lk : ByteArray} {md sz : Int} {E : Int} {w w' : World} (h : Below w.heap.size w w') : RetPl T nm pf lk md sz [] E w (.returned (.tuple #[.agg (Ust.hdV T nm pf lk md sz).toArray, .slice none 0 0, .int .i64 E])) w' :=
  ⟨none, 0, 0, rfl, rfl, Nat.le_refl _, Nat.zero_le _, .inl rfl, h⟩
theorem RetPl.own {T : Int} {nm pf lk : ByteArray} {md sz : Int} {E : Int} {L : List Rec} {w w' : World} {base n : Nat} {e : TypeId} {v : Value} (h : w'.ownsRow base e 2 v n (recCells L)) (hb : Below w.heap.size w w') :
    RetPl T nm pf lk md sz L E w (.returned (.tuple #[.agg (Ust.hdV T nm pf lk md sz).toArray, v, .int .i64 E])) w' := by
  obtain ⟨a, c, rfl, hn, hc, hm, hR, _⟩ := RecsIn.of_own h
  exact ⟨a, n, c, rfl, hn.symm, hc, hm, hR, hb⟩
/-- the results are a struct's variable and two slots -/
theorem results_obj_two {P : Program} {w : World} {fn : Func} {p q r : Tmp} {T : TypeId} {n : Nat} (h : fn.results = #[.cell p T, .tmp q, .tmp r]) (hT : ObjT P T n) (tmps : Array Value) (g : Nat) (hp : tmps.getD p undef = .pointer (some ⟨g, 0, none⟩))
    (T' : TypeId) (vs : List Value) (hg : ObjAt w g T' vs) (hl : vs.length = n) : (results fn tmps).run P w = .ok (.tuple #[.agg vs.toArray, tmps.getD q undef, tmps.getD r undef]) w := by
  have hp' : tmps[p]?.getD undef = .pointer (some ⟨g, 0, none⟩) := by simpa using hp
  simp [results, h, hp', asAddr, run_load_obj hT g T' vs hg hl]
end Go.Proofs.YtmbimnnacjbdfaaGreatDoor.Fit
/-
  Layer 7: the kinds that are not known.
-/
namespace Go.Proofs.YtmbimnnacjbdfaaGreatDoor.Ust
open Go.RowKit
open Oct Cst Chk

theorem known_not {T : Int} (h : ¬ known T) : (T == 48) = false ∧ (T == 49) = false ∧ (T == 50) = false ∧ (T == 53) = false ∧ (T == 120) = false := by
  unfold known at h
  simp only [not_or] at h
  obtain ⟨h1, h2, h3, h4, h5⟩ := h
  simp [h1, h2, h3, h4, h5]
end Go.Proofs.YtmbimnnacjbdfaaGreatDoor.Ust
/-
  Walks of the small functions of layer 2: validWidth, the search of a zero byte, check, Fits.
-/
namespace Go.Proofs.YtmbimnnacjbdfaaGreatDoor.Cst
open Go.RowKit

def vwB (n : Int) : Bool := decide (1 ≤ n ∧ n ≤ 256)

set_option maxHeartbeats 400000 in
theorem valid_any (n : Int) (w : World) :
    Calls Tryz.prog 132 #[.int .i64 n] w fun e w' => e = .returned (.bool (vwB n)) ∧ w = w' := by
  by_cases h1 : 1 ≤ n
  · by_cases h2 : n ≤ 256
    · have h : vwB n = true := by unfold vwB; simp [h1, h2]
      rw [h]; clear h
      go_enter Tryz.func132, Tryz.ntmps132
      go_wp2
      go_ret
      exact ⟨rfl, rfl⟩
    · have h : vwB n = false := by unfold vwB; simp [h2]
      rw [h]; clear h
      go_enter Tryz.func132, Tryz.ntmps132
      go_wp2
      go_ret
      exact ⟨rfl, rfl⟩
  · have h : vwB n = false := by unfold vwB; simp [h1]
    rw [h]; clear h
    go_enter Tryz.func132, Tryz.ntmps132
    go_wp2
    go_ret
    exact ⟨rfl, rfl⟩

theorem vwB_true {n : Int} (h1 : 1 ≤ n) (h2 : n ≤ 256) : vwB n = true := by unfold vwB; simp [h1, h2]
theorem vwB_false {n : Int} (h : n < 1 ∨ 256 < n) : vwB n = false := by unfold vwB; simp; omega

set_option maxRecDepth 20000 in
set_option maxHeartbeats 1000000 in
theorem idx_any (s : ByteArray) (w : World) :
    Calls Tryz.prog 103 #[.string s, .int .u8 0] w fun e w' => e = .returned (.int .i64 (Lib.indexByte s.data.toList 0)) ∧ w = w' := by
  go_enter Tryz.func103, Tryz.ntmps103
  go_wp2
  rw [run_callFunc_extern Tryz.func139 (by kernel_rfl) (by kernel_rfl) (by kernel_rfl) (e := Extern.BytealgIndexByte.indexByte) (by kernel_rfl), Lib.run_indexByteString s 0 w]
  simp only [Result.andThen]
  rw [Oper.upon_value]
  go_wp2
  go_ret
  exact ⟨rfl, rfl⟩

set_option maxHeartbeats 1000000 in
theorem check_any (s : ByteArray) (wd : Int) (w : World) :
    Calls Tryz.prog 131 #[.string s, .int .i64 wd] w fun e w' => e = .returned (.int .i64 (ceF (numsOf s) wd)) ∧ w = w' := by
  have hl := numsOf_length s
  by_cases h1 : wd < 1 ∨ 256 < wd
  · have hv := vwB_false h1
    have he : ceF (numsOf s) wd = 2 := by unfold ceF; rw [if_pos h1]
    rw [he]; clear h1 he
    go_enter Tryz.func131, Tryz.ntmps131
    go_wp2_with (go_at_call 132; refine (valid_any _ _).mono ?_; rintro e w' ⟨rfl, rfl⟩)
    go_ret
    exact ⟨rfl, rfl⟩
  · have hv := vwB_true (n := wd) (by omega) (by omega)
    obtain ⟨k, HK⟩ := named (Lib.indexByte s.data.toList 0)
    have hk := idx_str s
    rw [← HK.out] at hk
    by_cases h2 : (0 : Int) ∈ numsOf s
    · have hp := hk.2 h2
      have he : ceF (numsOf s) wd = 6 := by unfold ceF; rw [if_neg h1, if_pos h2]
      rw [he]; clear h1 he hk h2
      go_enter Tryz.func131, Tryz.ntmps131
      go_wp2_with (first | (go_at_call 132; refine (valid_any _ _).mono ?_; rintro e w' ⟨rfl, rfl⟩) | (go_at_call 103; refine (idx_any _ _).mono ?_; rintro e w' ⟨rfl, rfl⟩; rw [← HK.out]))
      go_ret
      exact ⟨rfl, rfl⟩
    · have hp : ¬ 0 ≤ k := fun h => h2 (hk.1 h)
      by_cases h3 : wd < s.size
      · have he : ceF (numsOf s) wd = 7 := by unfold ceF; rw [if_neg h1, if_neg h2, if_pos (by omega)]
        rw [he]; clear h1 he hk h2 hl
        go_enter Tryz.func131, Tryz.ntmps131
        go_wp2_with (first | (go_at_call 132; refine (valid_any _ _).mono ?_; rintro e w' ⟨rfl, rfl⟩) | (go_at_call 103; refine (idx_any _ _).mono ?_; rintro e w' ⟨rfl, rfl⟩; rw [← HK.out]))
        go_ret
        exact ⟨rfl, rfl⟩
      · have he : ceF (numsOf s) wd = 0 := by unfold ceF; rw [if_neg h1, if_neg h2, if_neg (by omega)]
        rw [he]; clear h1 he hk h2 hl
        go_enter Tryz.func131, Tryz.ntmps131
        go_wp2_with (first | (go_at_call 132; refine (valid_any _ _).mono ?_; rintro e w' ⟨rfl, rfl⟩) | (go_at_call 103; refine (idx_any _ _).mono ?_; rintro e w' ⟨rfl, rfl⟩; rw [← HK.out]))
        go_ret
        exact ⟨rfl, rfl⟩

end Go.Proofs.YtmbimnnacjbdfaaGreatDoor.Cst
/-
  Walks of cstring.Format.
-/
namespace Go.Proofs.YtmbimnnacjbdfaaGreatDoor.Cst
open Go.RowKit

theorem made_u8 (m : Nat) : (madeCells (Value.int .u8 0).cells (m * 1)).toList = (List.replicate m (0 : Int)).map (.int .u8) := by
  apply List.ext_getElem?
  intro i
  by_cases h : i < m <;> simp [madeCells, Value.cells, h, Nat.mod_one]

theorem Tryz.info5 : (Tryz.prog.info? 5).map (fun i => (i.zero, i.size, i.bytes)) = some (some (.int .u8 0), 1, 1) := by kernel_rfl

set_option maxHeartbeats 400000 in
theorem fmt_bad (s : ByteArray) (wd : Int) (w : World) (h : (ceF (numsOf s) wd != 0) = true) :
    Calls Tryz.prog 110 #[.string s, .int .i64 wd] w fun e w' => e = .returned (.tuple #[.slice none 0 0, .int .i64 (ceF (numsOf s) wd)]) ∧ w = w' := by
  obtain ⟨E, HE⟩ := named (ceF (numsOf s) wd)
  rw [← HE.out] at h ⊢
  go_enter Tryz.func110, Tryz.ntmps110
  go_wp2_with (go_at_call 131; refine (check_any _ _ _).mono ?_; rintro e w' ⟨rfl, rfl⟩; rw [← HE.out])
  go_ret2
  exact ⟨rfl, rfl⟩

set_option maxHeartbeats 400000 in
theorem fmt_cap (s : ByteArray) (k : Nat) (w : World) (h : ceF (numsOf s) k = 0) :
    Calls Tryz.prog 110 #[.string s, .int .i64 k] w (RetB (fldS (numsOf s) k) k 0 w) := by
  obtain ⟨h1, h2, _, h4⟩ := ceF_zero.1 h
  rw [numsOf_length] at h4
  have HN := Lib.hid h; clear h
  obtain ⟨i0, HI⟩ := info_u8 Tryz.info5
  go_enter Tryz.func110, Tryz.ntmps110
  go_wp2_with (first | (go_at_call 131; refine (check_any _ _ _).mono ?_; rintro e w' ⟨rfl, rfl⟩; rw [HN.out]) | (at_make; refine wpList_make_full _ rfl _ _ 25 rfl w.heap.size 5 i0 (.int .u8 0) 1 Tryz.underlying25 HI.out.1 HI.out.2.1 HI.out.2.2.1 .i64 .i64 _ _ k rfl rfl rfl rfl (by rw [HI.out.2.2.2]; omega) (by unfold maxLen; omega) (Nat.le_refl _) ?_; intro w1 hown1 hgrow1; rw [made_u8] at hown1) | (refine wpList_copy_string rfl _ _ 25 9 rfl w.heap.size 5 i0 Tryz.underlying25 HI w.heap.size k k (List.replicate k 0) rfl hown1 s rfl (by omega) ?_; intro w2 hown2 hb2))
  go_ret2
  have hb1 : Below w.heap.size w w1 := (Below.refl _ _).grown hgrow1 (Nat.le_refl _) (fun _ h => by cases h)
  have e : numsOf s ++ List.drop s.size (List.replicate k 0) = fldS (numsOf s) k := by unfold fldS; rw [List.drop_replicate, numsOf_length]
  rw [e] at hown2
  exact ⟨_, _, rfl, .of_own hown2 (fldS_bd _ _ (numsOf_bd s)), (own_lt hown2).2, hb1.trans hb2, Nat.le_refl _, by unfold maxLen; omega⟩

theorem fmt_ok (s : ByteArray) (k : Nat) (w : World) (h : ceF (numsOf s) k = 0) :
    Calls Tryz.prog 110 #[.string s, .int .i64 k] w (RetBytes (fldS (numsOf s) k) k 0 w) :=
  (fmt_cap s k w h).mono fun _ _ h => h.ret

end Go.Proofs.YtmbimnnacjbdfaaGreatDoor.Cst
/-
  Layer 10: the reference's target, Check.
-/
namespace Go.Proofs.YtmbimnnacjbdfaaGreatDoor.Fit
open Go.RowKit Pxr Pnm

theorem chkT_bad {t : ByteArray} {j : Nat} (h : t.size ≤ 65536) (hj : j < t.size) (hz : (numsOf t).getD j 0 = 0) : chkT t = 6 := by
  unfold chkT
  rw [if_neg (by omega), if_pos]
  have hl : j < (numsOf t).length := by rw [numsOf_length]; exact hj
  rw [List.getD_eq_getElem?_getD, List.getElem?_eq_getElem hl] at hz
  exact .inr (by rw [← (show (numsOf t)[j] = 0 from hz)]; exact List.getElem_mem hl)
theorem chkT_good {t : ByteArray} (h : t.size ≤ 65536) (h0 : t.size ≠ 0) (hz : ∀ q, q < t.size → (numsOf t).getD q 0 ≠ 0) : chkT t = 0 := by
  unfold chkT
  rw [if_neg (by omega), if_neg]
  rintro (e | e)
  · exact h0 e
  · obtain ⟨i, hi, he⟩ := List.getElem_of_mem e
    rw [numsOf_length] at hi
    exact hz i hi (by rw [List.getD_eq_getElem?_getD, List.getElem?_eq_getElem (by rw [numsOf_length]; exact hi)]; exact he)

set_option maxRecDepth 100000 in
set_option maxHeartbeats 4000000 in
theorem rtarget_any (k : Int) (p : ByteArray) (m : Int) (t : ByteArray) (s : Int) (w : World) (ht : t.size ≤ maxLen) :
    Calls Tryz.prog 93 #[.agg (enV k p m t s).toArray] w fun e w' => e = .returned (.int .i64 (tgE k t)) ∧ Below w.heap.size w w' := by
  obtain ⟨R, hR⟩ := named (tgE k t)
  rw [← hR.out]
  by_cases h2 : k = 2
  · subst h2
    have e : R = chkT t := by rw [hR.out]; unfold tgE; rw [if_pos rfl]
    have HR := Lib.hid e
    clear hR e
    by_cases h7 : 65536 < t.size
    · have h7i : (65536 : Int) < t.size := by omega
      have e := HR.out; unfold chkT at e; rw [if_pos h7] at e; subst e
      clear HR h7 ht
      go_enter Tryz.func93, Tryz.ntmps93
      go_wp2_with (first | (refine wpList_box_obj rfl 24 _ rfl (enV 2 p m t s) rfl ?_; intro w1 g1 b1; have B1 := Lib.hid b1; have c0 := g1.get 0 rfl; have c3 := g1.get 3 rfl; clear g1 b1))
      go_ret
      exact ⟨rfl, B1.out⟩
    · have h7i : ¬ (65536 : Int) < t.size := by omega
      by_cases h0 : t = emp
      · have e := HR.out; unfold chkT at e; rw [if_neg h7, if_pos (.inl (emp_size.1 h0))] at e; subst e; subst h0
        clear HR h7 ht
        go_enter Tryz.func93, Tryz.ntmps93
        go_wp2_with (first | (refine wpList_box_obj rfl 24 _ rfl (enV 2 p m emp s) rfl ?_; intro w1 g1 b1; have B1 := Lib.hid b1; have c0 := g1.get 0 rfl; have c3 := g1.get 3 rfl; clear g1 b1))
        go_ret
        exact ⟨rfl, B1.out⟩
      · have hi := empty_no h0
        have HS : Hid (t.size ≠ 0) := fun e => h0 (emp_size.2 e)
        have HA : Hid (∀ j (h : j < t.size), (numsOf t).getD j 0 = (t[j].toNat : Int)) := num_at t
        have H7 : Hid (t.size ≤ 65536) := by show _ ≤ _; omega
        clear h0 h7 ht
        go_enter Tryz.func93, Tryz.ntmps93
        go_wp2_with (first | (refine wpList_box_obj rfl 24 _ rfl (enV 2 p m t s) rfl ?_; intro w1 g1 b1; have B1 := Lib.hid b1; have c0 := g1.get 0 rfl; have c3 := g1.get 3 rfl; clear g1 b1))
        go_loop [3] (fun i => ∃ j : Nat, i = .int .i64 j ∧ j ≤ t.size ∧ ∀ q, q < j → (numsOf t).getD q 0 ≠ 0) (fun i => t.size - (intOf i).toNat)
        case atStart => exact ⟨0, rfl, Nat.zero_le _, fun q hq => by omega⟩
        case round =>
          obtain ⟨j, rfl, hj, hd⟩ := hrel
          have HD := Lib.hid hd
          clear hd
          by_cases hlt : j < t.size
          · have hx := HA.out j hlt
            obtain ⟨x, hxe⟩ : ∃ x : Int, ((t[j].toNat : Nat) : Int) = x := ⟨_, rfl⟩
            rw [hxe] at hx
            have HX := Lib.hid hx
            have m1 : (j : Int) < t.size := by omega
            clear hx
            by_cases c1 : x = 0
            · have e := HR.out; rw [chkT_bad H7.out hlt (by rw [HX.out]; exact c1)] at e; subst e; subst c1
              clear HR
              go_wp2
              go_ret
              exact ⟨rfl, B1.out⟩
            · have n1 : (x == 0) = false := by simpa using c1
              have HC := Lib.hid c1
              clear c1
              go_wp2
              go_round
              case rel => exact ⟨j + 1, by go_num, by omega, fun q hq => by
                by_cases hq' : q < j
                · exact HD.out q hq'
                · obtain rfl : q = j := by omega
                  rw [HX.out]; exact HC.out⟩
              case measure => simp [intOf]; omega
          · obtain rfl : j = t.size := by omega
            have e := HR.out; rw [chkT_good H7.out HS.out HD.out] at e; subst e
            clear HR
            go_wp2
            go_ret
            exact ⟨rfl, B1.out⟩
  · have n2 : (k == 2) = false := by simpa using h2
    by_cases h3 : k = 3
    · subst h3
      have e : R = chE (numsOf t) := by rw [hR.out]; unfold tgE; rw [if_neg (by decide), if_pos rfl]
      have H2 := Lib.hid fun (w' : World) => Pnm.rcheck_any t w' ht
      rw [← e] at H2
      clear hR e ht h2
      go_enter Tryz.func93, Tryz.ntmps93
      go_wp2_with (first | (refine wpList_box_obj rfl 24 _ rfl (enV 3 p m t s) rfl ?_; intro w1 g1 b1; have B1 := Lib.hid b1; have c0 := g1.get 0 rfl; have c3 := g1.get 3 rfl; clear g1 b1))
      refine (H2.out _).mono ?_; rintro e w2 ⟨rfl, rfl⟩
      go_wp2
      go_ret
      exact ⟨rfl, B1.out⟩
    · have n3 : (k == 3) = false := by simpa using h3
      have e : R = if t = emp then 0 else 2 := by rw [hR.out]; unfold tgE; rw [if_neg h2, if_neg h3]
      clear hR h2 h3 ht
      by_cases ht : t = emp
      · rw [if_pos ht] at e
        subst e; subst ht
        go_enter Tryz.func93, Tryz.ntmps93
        go_wp2_with (first | (refine wpList_box_obj rfl 24 _ rfl (enV k p m emp s) rfl ?_; intro w1 g1 b1; have B1 := Lib.hid b1; have c0 := g1.get 0 rfl; have c3 := g1.get 3 rfl; clear g1 b1))
        go_ret
        exact ⟨rfl, B1.out⟩
      · rw [if_neg ht] at e
        have hi := empty_no ht
        clear ht
        subst e
        go_enter Tryz.func93, Tryz.ntmps93
        go_wp2_with (first | (refine wpList_box_obj rfl 24 _ rfl (enV k p m t s) rfl ?_; intro w1 g1 b1; have B1 := Lib.hid b1; have c0 := g1.get 0 rfl; have c3 := g1.get 3 rfl; clear g1 b1))
        go_ret
        exact ⟨rfl, B1.out⟩

set_option maxRecDepth 100000 in
set_option maxHeartbeats 4000000 in
theorem rcheck_any (k : Int) (p : ByteArray) (m : Int) (t : ByteArray) (s : Int) (w : World) (hp : p.size ≤ maxLen) (ht : t.size ≤ maxLen) :
    Calls Tryz.prog 48 #[.agg (enV k p m t s).toArray] w fun e w' => e = .returned (.int .i64 (ckE ⟨k, p, m, t, s⟩)) ∧ Below w.heap.size w w' := by
  obtain ⟨R, hR⟩ := named (ckE ⟨k, p, m, t, s⟩)
  obtain ⟨E1, h1⟩ := named (chE (numsOf p))
  obtain ⟨E2, h2⟩ := named (tgE k t)
  have HR : Hid (R = if k < 0 ∨ 4 ≤ k then 8 else if E1 ≠ 0 then E1 else if m < 0 ∨ 4095 < m ∨ (k = 2 ∧ m ≠ 0) then 16 else if E2 ≠ 0 then E2 else szE k s) := by
    show _ = _; rw [hR.out, h1.out, h2.out]; rfl
  have C1 : Hid (∀ w', Calls Tryz.prog 92 #[.string p] w' fun e w'' => e = .returned (.int .i64 E1) ∧ w' = w'') := fun w' => by rw [h1.out]; exact Pnm.rcheck_any p w' hp
  have C2 : Hid (∀ w', Calls Tryz.prog 93 #[.agg (enV k p m t s).toArray] w' fun e w'' => e = .returned (.int .i64 E2) ∧ Below w'.heap.size w' w'') := fun w' => by rw [h2.out]; exact rtarget_any k p m t s w' ht
  rw [← hR.out]
  clear hR h1 h2 hp ht
  by_cases k0 : k < 0
  · have e := HR.out; rw [if_pos (.inl k0)] at e; subst e; clear HR C1 C2
    go_enter Tryz.func48, Tryz.ntmps48
    go_wp2_with (first | (refine wpList_box_obj rfl 24 _ rfl (enV k p m t s) rfl ?_; intro w1 g1 b1; have B1 := Lib.hid b1; have c0 := g1.get 0 rfl; clear g1 b1))
    go_ret
    exact ⟨rfl, B1.out⟩
  by_cases k4 : 3 < k
  · have e := HR.out; rw [if_pos (.inr (by omega))] at e; subst e; clear HR C1 C2
    go_enter Tryz.func48, Tryz.ntmps48
    go_wp2_with (first | (refine wpList_box_obj rfl 24 _ rfl (enV k p m t s) rfl ?_; intro w1 g1 b1; have B1 := Lib.hid b1; have c0 := g1.get 0 rfl; clear g1 b1))
    go_ret
    exact ⟨rfl, B1.out⟩
  go_enter Tryz.func48, Tryz.ntmps48
  go_wp2_with (first | (refine wpList_box_obj rfl 24 _ rfl (enV k p m t s) rfl ?_; intro w1 g1 b1; have H1 := Lib.hid g1; have B1 := Lib.hid b1; have c0 := g1.get 0 rfl; have c1 := g1.get 1 rfl; clear g1 b1))
  refine (C1.out w1).mono ?_; rintro e w2 ⟨rfl, rfl⟩
  clear c1
  by_cases z1 : E1 = 0
  · subst z1
    have HR' : Hid (R = if m < 0 ∨ 4095 < m ∨ (k = 2 ∧ m ≠ 0) then 16 else if E2 ≠ 0 then E2 else szE k s) := by
      have e := HR.out; rw [if_neg (by omega), if_neg (by simp)] at e; exact e
    clear HR
    have c2 := H1.out.get 2 rfl
    by_cases m0 : m < 0
    · have e := HR'.out; rw [if_pos (.inl m0)] at e; subst e
      go_wp2_with fail
      go_ret
      exact ⟨rfl, B1.out⟩
    by_cases m1 : 4095 < m
    · have e := HR'.out; rw [if_pos (.inr (.inl m1))] at e; subst e
      go_wp2_with fail
      go_ret
      exact ⟨rfl, B1.out⟩
    by_cases k2 : k = 2 ∧ m ≠ 0
    · have e := HR'.out; rw [if_pos (.inr (.inr k2))] at e; subst e
      obtain ⟨rfl, hm⟩ := k2
      have n2 : (m != 0) = true := by simpa using hm
      go_wp2_with fail
      go_ret
      exact ⟨rfl, B1.out⟩
    have HR2 : Hid (R = if E2 ≠ 0 then E2 else szE k s) := by
      have e := HR'.out; rw [if_neg (by omega)] at e; exact e
    clear HR'
    have c1 := H1.out.get 1 rfl
    have c3 := H1.out.get 3 rfl
    have c4 := H1.out.get 4 rfl
    have hk : (k == 2) = false ∨ (k = 2 ∧ m = 0) := by
      by_cases h : k = 2
      · exact .inr ⟨h, by omega⟩
      · exact .inl (by simpa using h)
    clear C1 k0 k4 k2
    rcases hk with n2 | ⟨rfl, rfl⟩
    · go_wp2_with fail
      refine (C2.out w1).mono ?_; rintro e w3 ⟨rfl, b3⟩
      have H3 := Lib.hid (H1.out.below b3 H1.out.lt); have B3 := Lib.hid (belT B1.out b3)
      clear b3 c0 c1 c2 c3 c4
      by_cases z2 : E2 = 0
      · subst z2
        have HE : Hid (R = szE k s) := by have e := HR2.out; rw [if_neg (by simp)] at e; exact e
        clear HR2
        have c0 := H3.out.get 0 rfl
        have c4 := H3.out.get 4 rfl
        by_cases k1 : k = 1
        · subst k1
          by_cases s0 : s < 0
          · have e := HE.out; unfold szE at e; rw [if_pos rfl, if_pos (.inl s0)] at e; subst e
            go_wp2_with fail
            go_ret
            exact ⟨rfl, B3.out⟩
          · by_cases s1 : 1099511627776 < s
            · have e := HE.out; unfold szE at e; rw [if_pos rfl, if_pos (.inr s1)] at e; subst e
              go_wp2_with fail
              go_ret
              exact ⟨rfl, B3.out⟩
            · have e := HE.out; unfold szE at e; rw [if_pos rfl, if_neg (by omega)] at e; subst e
              go_wp2_with fail
              go_ret
              exact ⟨rfl, B3.out⟩
        · have n5 : (k == 1) = false := by simpa using k1
          by_cases s0 : s = 0
          · have e := HE.out; unfold szE at e; rw [if_neg k1, if_pos s0] at e; subst e; subst s0
            go_wp2_with fail
            go_ret
            exact ⟨rfl, B3.out⟩
          · have e := HE.out; unfold szE at e; rw [if_neg k1, if_neg s0] at e; subst e
            have n4 : (s != 0) = true := by simpa using s0
            go_wp2_with fail
            go_ret
            exact ⟨rfl, B3.out⟩
      · have e := HR2.out; rw [if_pos z2] at e; subst e
        have n3 : (R != 0) = true := by simpa using z2
        clear HR2 z2
        go_wp2_with fail
        go_ret
        exact ⟨rfl, B3.out⟩
    · go_wp2_with fail
      refine (C2.out w1).mono ?_; rintro e w3 ⟨rfl, b3⟩
      have H3 := Lib.hid (H1.out.below b3 H1.out.lt); have B3 := Lib.hid (belT B1.out b3)
      clear b3 c0 c1 c2 c3 c4
      by_cases z2 : E2 = 0
      · subst z2
        have HE : Hid (R = szE 2 s) := by have e := HR2.out; rw [if_neg (by simp)] at e; exact e
        clear HR2
        have c0 := H3.out.get 0 rfl
        have c4 := H3.out.get 4 rfl
        by_cases s0 : s = 0
        · have e := HE.out; unfold szE at e; rw [if_neg (by decide), if_pos s0] at e; subst e; subst s0
          go_wp2_with fail
          go_ret
          exact ⟨rfl, B3.out⟩
        · have e := HE.out; unfold szE at e; rw [if_neg (by decide), if_neg s0] at e; subst e
          have n4 : (s != 0) = true := by simpa using s0
          go_wp2_with fail
          go_ret
          exact ⟨rfl, B3.out⟩
      · have e := HR2.out; rw [if_pos z2] at e; subst e
        have n3 : (R != 0) = true := by simpa using z2
        clear HR2 z2
        go_wp2_with fail
        go_ret
        exact ⟨rfl, B3.out⟩
  · have e := HR.out; rw [if_neg (by omega), if_pos z1] at e; subst e
    have n1 : (R != 0) = true := by simpa using z1
    clear HR z1
    go_wp2_with fail
    go_ret
    exact ⟨rfl, B1.out⟩
end Go.Proofs.YtmbimnnacjbdfaaGreatDoor.Fit
/-
  Two entries compared; a struct in a row loaded whole.
-/
namespace Go.Proofs.YtmbimnnacjbdfaaGreatDoor.Flt
open Go.RowKit Go.Proofs.YtmbimnnacjbdfaaGreatDoor.Fit

def entFs : Array Field := #[{ name := "Kind", type := 3, offset := 0, embedded := false, tag := "", pkgPath := "", byteOffset := 0 }, { name := "Path", type := 9, offset := 1, embedded := false, tag := "", pkgPath := "", byteOffset := 8 },
  { name := "Mode", type := 3, offset := 2, embedded := false, tag := "", pkgPath := "", byteOffset := 24 }, { name := "Target", type := 9, offset := 3, embedded := false, tag := "", pkgPath := "", byteOffset := 32 },
  { name := "Size", type := 2, offset := 4, embedded := false, tag := "", pkgPath := "", byteOffset := 48 }]
theorem run_eqE (k : Int) (p : ByteArray) (m : Int) (t : ByteArray) (s : Int) (k' : Int) (p' : ByteArray) (m' : Int) (t' : ByteArray) (s' : Int) (w : World) :
    (Op.equalIn 10000 24 (.agg (enV k p m t s).toArray) (.agg (enV k' p' m' t' s').toArray)).run Tryz.prog w = .ok (decide (k = k' ∧ p = p' ∧ m = m' ∧ t = t' ∧ s = s')) w := by
  have ht := Tryz.underlying24
  have hf : Tryz.prog.fieldsOf 24 = entFs := by unfold Program.fieldsOf; rw [ht]; rfl
  rw [run_equalIn_struct w 9999 24 _ _ (by rw [hf]; exact ht) (by kernel_rfl), hf]
  have u9 := Tryz.underlying9
  have u3 := Tryz.underlying3
  have u2 := Tryz.underlying2
  by_cases h1 : k = k'
  · subst h1
    by_cases h2 : p = p'
    · subst h2
      by_cases h3 : m = m'
      · subst h3
        by_cases h4 : t = t'
        · subst h4
          by_cases h5 : s = s'
          · subst h5; simp [entFs, Op.eqFields, part, isAgg, u9, u3, u2, go_sem]
          · simp [entFs, Op.eqFields, part, isAgg, u9, u3, u2, h5, go_sem]
        · have := bytes_neq h4
          simp [entFs, Op.eqFields, part, isAgg, u9, u3, u2, h4, this, go_sem]
      · simp [entFs, Op.eqFields, part, isAgg, u9, u3, u2, h3, go_sem]
    · have := bytes_neq h2
      simp [entFs, Op.eqFields, part, isAgg, u9, u3, u2, h2, this, go_sem]
  · simp [entFs, Op.eqFields, part, isAgg, u9, u3, u2, h1, go_sem]
theorem run_load_six {P : Program} {w : World} {T : TypeId} {n : Nat} (hT : ObjT P T n) (b off : Nat) (vs : List Value) (hl : vs.length = n) (hr : ∀ j u, vs[j]? = some u → w.cell? ⟨b, off + j, none⟩ = some u) :
    (loadVar T ⟨b, off, none⟩).run P w = .ok (.agg vs.toArray) w := by
  obtain ⟨⟨fs, h1⟩, hs⟩ := hT
  have hll := run_loadCells_list (P := P) w ⟨b, off, none⟩ vs (fun j u hj => by rw [add_plain']; exact hr j u hj)
  rw [hl] at hll
  cases hq : P.info? T with
  | none => simp [hq] at hs
  | some i =>
    have hs : i.size = n := by simpa [hq] using hs
    have hagg : (isAgg T).run P w = .ok true w := by
      unfold isAgg
      rw [Sem.run_bind, run_underlying h1 w]
      simp
    simp [loadVar, Sem.run_bind, hagg, sizeOf, typeInfo, hq, hs, hll]
end Go.Proofs.YtmbimnnacjbdfaaGreatDoor.Flt
