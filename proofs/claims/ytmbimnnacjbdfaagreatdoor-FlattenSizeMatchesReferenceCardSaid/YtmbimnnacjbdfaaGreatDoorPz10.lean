/-
  Layer 7: the program's Check.
-/
import Derived.Test.YtmbimnnacjbdfaaGreatDoorPz09
import Derived.Test.YtmbimnnacjbdfaaGreatDoorPz01
import Derived.Laws.IdiomCopy
import Derived.Laws.IdiomStrings
import Derived.Deep.DeepMust
import Derived.Test.YtmbimnnacjbdfaaGreatDoorRows
import Derived.Test.YtmbimnnacjbdfaaGreatDoorPz03
namespace Go.Proofs.YtmbimnnacjbdfaaGreatDoor.Ust
open Go.RowKit
open Oct Cst Chk

set_option maxHeartbeats 1000000 in
theorem known_any (T : Int) (w : World) : Calls Tryz.prog 69 #[.int .u8 T] w fun e w' => e = .returned (.bool (decide (known T))) ∧ w = w' := by
  by_cases h : known T
  · rw [decide_eq_true h]
    rcases h with rfl | rfl | rfl | rfl | rfl
    all_goals
      go_enter Tryz.func69, Tryz.ntmps69
      go_wp2
      go_ret
      exact ⟨rfl, rfl⟩
  · rw [decide_eq_false h]
    obtain ⟨h1, h2, h3, h4, h5⟩ := known_not h
    clear h
    go_enter Tryz.func69, Tryz.ntmps69
    go_wp2
    go_ret
    exact ⟨rfl, rfl⟩

set_option maxHeartbeats 1000000 in
theorem ctext_any (s : ByteArray) (wd : Int) (k : Nat) (w : World) (hk : wd = (k : Int)) :
    Calls Tryz.prog 70 #[.string s, .int .i64 wd] w fun e w' => e = .returned (.int .i64 (ceF (numsOf s) wd)) ∧ Below w.heap.size w w' := by
  by_cases h : ceF (numsOf s) wd = 0
  · have HF := Lib.hid (Cst.fmt_cap s k w (hk ▸ h))
    rw [← hk] at HF
    rw [h]; clear h hk
    go_enter Tryz.func70, Tryz.ntmps70
    go_wp2_with fail
    refine HF.out.mono ?_; rintro e w1 ⟨b, c, rfl, _, _, hb, _, _⟩
    have B := Lib.hid hb; clear hb
    go_wp2
    go_ret
    exact ⟨rfl, B.out⟩
  · have HF := Lib.hid (Cst.fmt_bad s wd w (by simp [h]))
    obtain ⟨E, HE⟩ := named (ceF (numsOf s) wd)
    rw [← HE.out] at HF ⊢
    clear h hk
    go_enter Tryz.func70, Tryz.ntmps70
    go_wp2_with fail
    refine HF.out.mono ?_; rintro e w1 ⟨rfl, rfl⟩
    go_wp2
    go_ret
    exact ⟨rfl, Below.refl _ _⟩

set_option maxHeartbeats 4000000 in
theorem check_any (T : Int) (nm pf lk : ByteArray) (md sz : Int) (w : World) (hn : nm.size ≤ maxLen) (hp : pf.size ≤ maxLen) (hk : lk.size ≤ maxLen) (_hT : 0 ≤ T ∧ T ≤ 255) :
    Calls Tryz.prog 43 #[.agg (hdV T nm pf lk md sz).toArray] w fun e w' => e = .returned (.int .i64 (ckH T nm pf lk md sz)) ∧ Below w.heap.size w w' := by
  clear _hT
  obtain ⟨kb, hkb⟩ := named (decide (known T))
  obtain ⟨e1, he1⟩ := named (ceF (numsOf nm) 100)
  obtain ⟨e2, he2⟩ := named (ceF (numsOf lk) 100)
  obtain ⟨e3, he3⟩ := named (ceF (numsOf pf) 155)
  have hck : ckH T nm pf lk md sz = if kb = false then 8 else if e1 ≠ 0 then e1 else if e2 ≠ 0 then e2 else if e3 ≠ 0 then e3 else if md < 0 ∨ 4095 < md then 16 else if sz < 0 ∨ 8589934591 < sz then 3 else 0 := by
    rw [hkb.out, he1.out, he2.out, he3.out]; unfold ckH; simp only [decide_eq_false_iff_not]
  obtain ⟨R, hR⟩ := named (ckH T nm pf lk md sz)
  have HR : Hid (R = if kb = false then 8 else if e1 ≠ 0 then e1 else if e2 ≠ 0 then e2 else if e3 ≠ 0 then e3 else if md < 0 ∨ 4095 < md then 16 else if sz < 0 ∨ 8589934591 < sz then 3 else 0) := by show _ = _; rw [hR.out]; exact hck
  rw [← hR.out]
  clear hck hR
  have HN := Lib.hid hn; have HP := Lib.hid hp; have HK := Lib.hid hk
  clear hn hp hk
  go_enter Tryz.func43, Tryz.ntmps43
  go_wp2_with (first | (refine wpList_box_obj rfl 63 _ rfl (hdV T nm pf lk md sz) rfl ?_; intro w1 h1 b1; have H1 := Lib.hid h1; have B1 := Lib.hid b1; have c0 := h1.get 0 rfl; clear h1 b1))
  refine (known_any T w1).mono ?_; rintro e w2 ⟨rfl, rfl⟩
  rw [← hkb.out]
  cases kb with
  | false =>
    go_wp2_with fail
    go_ret
    exact ⟨by have hr := HR.out; simp at hr; subst hr; rfl, B1.out⟩
  | true =>
    have c1 := H1.out.get 1 rfl
    clear c0
    go_wp2_with fail
    refine (ctext_any nm 100 100 w1 rfl).mono ?_; rintro e w2 ⟨rfl, b2⟩
    rw [← he1.out]
    have H2 := Lib.hid (H1.out.below b2 H1.out.lt); have B2 := Lib.hid (B1.out.trans (b2.mono B1.out.size))
    clear b2 c1
    by_cases z1 : e1 = 0
    · subst z1
      have c3 := H2.out.get 3 rfl
      go_wp2_with fail
      refine (ctext_any lk 100 100 w2 rfl).mono ?_; rintro e w3 ⟨rfl, b3⟩
      rw [← he2.out]
      have H3 := Lib.hid (H2.out.below b3 H2.out.lt); have B3 := Lib.hid (B2.out.trans (b3.mono B2.out.size))
      clear b3 c3
      by_cases z2 : e2 = 0
      · subst z2
        have c2 := H3.out.get 2 rfl
        go_wp2_with fail
        refine (ctext_any pf 155 155 w3 rfl).mono ?_; rintro e w4 ⟨rfl, b4⟩
        rw [← he3.out]
        have H4 := Lib.hid (H3.out.below b4 H3.out.lt); have B4 := Lib.hid (B3.out.trans (b4.mono B3.out.size))
        clear b4 c2
        by_cases z3 : e3 = 0
        · subst z3
          have c4 := H4.out.get 4 rfl
          have c5 := H4.out.get 5 rfl
          by_cases m0 : md < 0
          · go_wp2_with fail
            go_ret
            exact ⟨by have hr := HR.out; simp [m0] at hr; subst hr; rfl, B4.out⟩
          · by_cases m1 : 4095 < md
            · go_wp2_with fail
              go_ret
              exact ⟨by have hr := HR.out; simp [m1] at hr; subst hr; rfl, B4.out⟩
            · by_cases s0 : sz < 0
              · go_wp2_with fail
                go_ret
                exact ⟨by have hr := HR.out; simp at hr; rw [if_neg (by omega), if_pos (.inl s0)] at hr; subst hr; rfl, B4.out⟩
              · by_cases s1 : 8589934591 < sz
                · go_wp2_with fail
                  go_ret
                  exact ⟨by have hr := HR.out; simp at hr; rw [if_neg (by omega), if_pos (.inr s1)] at hr; subst hr; rfl, B4.out⟩
                · go_wp2_with fail
                  go_ret
                  exact ⟨by have hr := HR.out; simp at hr; rw [if_neg (by omega), if_neg (by omega)] at hr; subst hr; rfl, B4.out⟩
        · have n3 : (e3 != 0) = true := by simp [z3]
          go_wp2_with fail
          go_ret
          exact ⟨by have hr := HR.out; simp [z3] at hr; subst hr; rfl, B4.out⟩
      · have n2 : (e2 != 0) = true := by simp [z2]
        go_wp2_with fail
        go_ret
        exact ⟨by have hr := HR.out; simp [z2] at hr; subst hr; rfl, B3.out⟩
    · have n1 : (e1 != 0) = true := by simp [z1]
      go_wp2_with fail
      go_ret
      exact ⟨by have hr := HR.out; simp [z1] at hr; subst hr; rfl, B2.out⟩
end Go.Proofs.YtmbimnnacjbdfaaGreatDoor.Ust
/-
  A slice of bytes of the call's own, whatever made it ('[]byte(s)' too): what it holds; append onto it.
-/
namespace Go.Proofs.YtmbimnnacjbdfaaGreatDoor
open Go.RowKit

/-- v holds the bytes zs; its row lies above base and can be written up to its capacity -/
def Buf (w : World) (base : Nat) (v : Value) (zs : List Int) : Prop :=
  ∃ b cap, v = .slice (some ⟨b, 0, none⟩) zs.length cap ∧ base ≤ b ∧ b < w.heap.size ∧ zs.length ≤ cap ∧ cap ≤ maxLen ∧ RowAt w b 0 zs ∧
    ∀ i, i < cap → (w.cell? ⟨b, i, none⟩).isSome = true ∧ w.frozen? ⟨b, i, none⟩ = false

theorem Buf.bytes {w : World} {base : Nat} {v : Value} {zs : List Int} (h : Buf w base v zs) : ∃ b cap, v = .slice (some ⟨b, 0, none⟩) zs.length cap ∧ RowAt w b 0 zs ∧ b < w.heap.size := by
  obtain ⟨b, cap, h1, _, h3, _, _, h6, _⟩ := h
  exact ⟨b, cap, h1, h6, h3⟩

theorem Buf.alloc {w : World} {base : Nat} {v : Value} {zs : List Int} (h : Buf w base v zs) (o : Obj) : Buf (w.alloc o) base v zs := by
  obtain ⟨b, cap, h1, h2, h3, h4, h5, h6, h7⟩ := h
  have hb : Below (b + 1) w (w.alloc o) := (Below.refl _ _).alloc (by omega) o
  refine ⟨b, cap, h1, h2, Nat.lt_of_lt_of_le h3 hb.size, h4, h5, h6.below hb (Nat.lt_succ_self _), fun i hi => ?_⟩
  rw [World.cell?_of_block (w := w) (w' := w.alloc o) (a := ⟨b, i, none⟩) (hb.block b (Nat.lt_succ_self _)), World.frozen?_of_block (w := w) (w' := w.alloc o) (a := ⟨b, i, none⟩) (hb.block b (Nat.lt_succ_self _))]
  exact h7 i hi

/-- '[]byte(s)' -/
theorem run_bytes_buf {P : Program} (w : World) {src e dst : TypeId} (hs : P.underlying src = some .string) (hd : P.underlying dst = some (.slice e)) (he : P.underlying e = some (.int .u8)) (s : ByteArray) (hm : s.size ≤ maxLen) :
    ∃ v w', (convert src dst (.string s)).run P w = .ok v w' ∧ Buf w' w.heap.size v (numsOf s) ∧ Below w.heap.size w w' := by
  have hrun := run_bytes_of_string (P := P) w src dst e s hs hd he
  have hge := grownCap_ge w s.size 0 e
  have hcm := grownCap_le_maxLen w s.size 0 e hm
  have hbs : (bytesRow s (grownCap w s.size 0 e)).size = grownCap w s.size 0 e := by
    have h0 : s.data.size = s.size := rfl
    simp [bytesRow, h0]; omega
  refine ⟨_, _, hrun, ⟨w.heap.size, grownCap w s.size 0 e, by rw [numsOf_length], Nat.le_refl _, by simp, by rw [numsOf_length]; exact hge, hcm, ⟨fun i hi => ?_, numsOf_bd s⟩, fun i hi => ⟨?_, ?_⟩⟩, (Below.refl _ _).drew.alloc (Nat.le_refl _) _⟩
  · have hi' : i < s.data.size := by rw [numsOf_length] at hi; exact hi
    have := World.cell?_alloc_mark w.drew (bytesRow s (grownCap w s.size 0 e)) e ((bytesRow s (grownCap w s.size 0 e)).size, (bytesRow s (grownCap w s.size 0 e)).size + 1) i
    rw [Nat.zero_add]
    refine Eq.trans this ?_
    rw [bytesRow_at s _ i hi']
    have e : s.data[i]? = some s.data[i] := Array.getElem?_eq_getElem hi'
    simp [numsOf, List.getD_eq_getElem?_getD, e]
  · have := World.cell?_alloc_mark w.drew (bytesRow s (grownCap w s.size 0 e)) e ((bytesRow s (grownCap w s.size 0 e)).size, (bytesRow s (grownCap w s.size 0 e)).size + 1) i
    refine Eq.trans (congrArg Option.isSome this) ?_
    simp [hbs, hi]
  · refine Eq.trans (World.frozen?_alloc_mark w.drew _ e _ _ i) ?_
    simp [hbs]; omega

theorem RowAt.append {w : World} {b : Nat} {zs ys : List Int} (h : RowAt w b 0 zs) (hy : ∀ j, j < ys.length → w.cell? ⟨b, zs.length + j, none⟩ = some (.int .u8 (ys.getD j 0))) (hb : ∀ z ∈ ys, 0 ≤ z ∧ z ≤ 255) : RowAt w b 0 (zs ++ ys) := by
  refine ⟨fun i hi => ?_, fun z hz => (List.mem_append.1 hz).elim (h.2 z) (hb z)⟩
  rw [Nat.zero_add, List.getD_eq_getElem?_getD, List.getElem?_append]
  rw [List.length_append] at hi
  split
  · rename_i hlt
    have := h.1 i hlt
    rwa [Nat.zero_add, List.getD_eq_getElem?_getD] at this
  · rename_i hlt
    have := hy (i - zs.length) (by omega)
    rwa [show zs.length + (i - zs.length) = i by omega, List.getD_eq_getElem?_getD] at this

theorem below_setCells {B b : Nat} {a : World} (hb : B ≤ b) : ∀ (vs : List Value) (o : Nat) (w : World), Below B a w → Below B a (w.setCells b o vs)
  | [], _, _, h => h
  | v :: r, o, w, h => below_setCells hb r (o + 1) _ (h.setCell (by exact hb) v)

theorem heapSize_setCells (b : Nat) : ∀ (vs : List Value) (o : Nat) (w : World), (w.setCells b o vs).heap.size = w.heap.size
  | [], _, _ => rfl
  | v :: r, o, w => by rw [World.setCells, heapSize_setCells b r]; simp [World.setCell]

/-- 'append(s, x...)' -/
theorem run_append_buf {P : Program} (w : World) (base : Nat) (t ty e : TypeId) (i : TypeInfo) (ht : P.underlying t = some (.slice e)) (hi : P.info? e = some i) (hz : i.zero = some (.int .u8 0)) (hsz : i.size = 1) (hby : i.bytes = 1)
    (v : Value) (zs : List Int) (hv : Buf w base v zs) (a : Option Addr) (m c : Nat) (ys : List Int) (hy : BytesIn w a ys) (hl : ys.length = m) (h47 : zs.length + m ≤ 140737488355328) (hbase : base ≤ w.heap.size) :
    ∃ v' w', (Builtin.append_ #[t, t] ty #[v, .slice a m c]).run P w = .ok v' w' ∧ Buf w' base v' (zs ++ ys) ∧ Below base w w' := by
  obtain ⟨b, cap, rfl, hbb, hbs, hlc, hcm, hrow, hcells⟩ := hv
  rcases hy with hy | ⟨b', off, rfl, _, hy⟩
  · subst hy
    obtain rfl : m = 0 := hl.symm
    refine ⟨.slice (some ⟨b, 0, none⟩) zs.length cap, w, ?_, ⟨b, cap, by simp, hbb, hbs, by simpa using hlc, hcm, by simpa using hrow, hcells⟩, Below.refl _ _⟩
    have hll : ∀ x : Addr, (loadCells x 0).run P w = .ok #[] w := fun x => by simp [loadCells, loadCellsFrom]
    cases a <;> simp [Builtin.append_, run_underlying ht, sizeOf, typeInfo, hi, Builtin.lenOf, Builtin.firstCells, hlc, storeCells, hll]
  · have hnews := hy.news
    have hyl : (ys.map (Value.int .u8)).length = m * i.size := by rw [List.length_map, hl, hsz, Nat.mul_one]
    by_cases hroom : zs.length + m ≤ cap
    · have hst := run_storeCells_cells (P := P) b zs.length (ys.map (Value.int .u8)) 0 w (by
        intro j hj
        rw [List.length_map] at hj
        exact (hcells _ (by omega)).1) (by
        intro j hj
        rw [List.length_map] at hj
        exact (hcells _ (by omega)).2) (one_map _ _)
      have hf := run_firstCells_some (P := P) w i.size m ⟨b', off, none⟩ m c (ys.map (Value.int .u8)) hyl hnews
      refine ⟨.slice (some ⟨b, 0, none⟩) (zs.length + m) cap, w.setCells b zs.length (ys.map (Value.int .u8)), ?_, ⟨b, cap, by rw [List.length_append, hl], hbb, by rw [heapSize_setCells]; exact hbs, by rw [List.length_append]; omega, hcm, ?_, fun k hk => ⟨?_, ?_⟩⟩, below_setCells hbb _ _ _ (Below.refl _ _)⟩
      · rw [Nat.add_zero] at hst
        rw [hsz] at hf
        simp [Builtin.append_, run_underlying ht, sizeOf, typeInfo, hi, hsz, Builtin.lenOf, hroom, hf, Addr.add_lit, hst, Result.andThen]
      · refine RowAt.append ⟨fun k hk => ?_, hrow.2⟩ (fun j hj => ?_) hy.2
        · rw [World.cell?_setCells_out b _ _ _ _ (fun _ _ => .inl (by simpa using hk))]
          exact hrow.1 k hk
        · have := World.cell?_setCells_in b (ys.map (Value.int .u8)) zs.length w (fun k hk => by
            rw [List.length_map] at hk
            exact (hcells _ (by omega)).1) j (by rw [List.length_map]; exact hj)
          rw [this, List.getElem_map, List.getD_eq_getElem?_getD, List.getElem?_eq_getElem hj]
          rfl
      · by_cases hin : zs.length ≤ k ∧ k < zs.length + m
        · have := World.cell?_setCells_in b (ys.map (Value.int .u8)) zs.length w (fun k hk => by
            rw [List.length_map] at hk
            exact (hcells _ (by omega)).1) (k - zs.length) (by rw [List.length_map]; omega)
          rw [show zs.length + (k - zs.length) = k by omega] at this
          rw [this]; rfl
        · rw [World.cell?_setCells_out b _ _ _ _ (fun _ _ => by rw [List.length_map]; show k < zs.length ∨ _ ≤ k; omega)]
          exact (hcells k hk).1
      · rw [World.frozen?_setCells]; exact (hcells k hk).2
    · have hgr := run_append_grow (P := P) w t ty e i (.int .u8 0) ht hi hz ⟨b, 0, none⟩ zs.length cap (zs.map (Value.int .u8)) (by rw [List.length_map, hsz, Nat.mul_one]) hrow.news ⟨b', off, none⟩ m c (ys.map (Value.int .u8)) hyl hnews (by omega) (by omega)
        (by rw [hby]; exact growslice_fits (need := zs.length + m) (old := cap) (by omega) (by omega))
      have hge := grownCap_ge w (zs.length + m) cap e
      have hcm' := grownCap_le_maxLen w (zs.length + m) cap e (by unfold maxLen; omega)
      refine ⟨_, _, hgr, ⟨w.heap.size, grownCap w (zs.length + m) cap e, by rw [List.length_append, hl], hbase, by simp, by rw [List.length_append, hl]; exact hge, hcm', ⟨fun k hk => ?_, fun z hz => (List.mem_append.1 hz).elim (hrow.2 z) (hy.2 z)⟩, fun k hk => ⟨?_, ?_⟩⟩, (Below.refl _ _).drew.alloc hbase _⟩
      · rw [Nat.zero_add, World.cell?_alloc_at (w := w.drew) _ _ w.heap.size k rfl, Array.getElem?_append_left (by simpa using hk), List.append_toArray, List.getElem?_toArray, ← List.map_append, List.getElem?_map, List.getElem?_eq_getElem hk, List.getD_eq_getElem?_getD, List.getElem?_eq_getElem hk]
        rfl
      · rw [World.cell?_alloc_at (w := w.drew) _ _ w.heap.size k rfl, Array.getElem?_eq_getElem (by simp [size_zeroCells, Value.cells]; omega)]
        rfl
      · exact World.frozen?_alloc_at (w := w.drew) _ _ _ _ rfl

theorem wpList_append_buf {P : Program} {w : World} {ops : Array Oper} {rest : List Oper} {o : Oper} {a : Act} {Q : Exit → Act → World → Prop} (hgd : o.guard = none) (s x : Operand) (t : TypeId)
    (ho : o.op = .call { callee := .builtin .append, args := #[s, x], argTypes := #[t, t] })
    (base : Nat) (e : TypeId) (i0 : TypeInfo) (hT : P.underlying t = some (.slice e)) (hI : Hid (P.info? e = some i0 ∧ i0.zero = some (.int .u8 0) ∧ i0.size = 1 ∧ i0.bytes = 1))
    (v : Value) (zs : List Int) (hs : a.eval s = v) (hown : Buf w base v zs)
    (b : Option Addr) (m c : Nat) (ys : List Int) (hx : a.eval x = .slice b m c) (hy : BytesIn w b ys) (hl : ys.length = m) (h47 : zs.length + m ≤ 140737488355328) (hbase : base ≤ w.heap.size)
    (K : ∀ v' w', Buf w' base v' (zs ++ ys) → Below base w w' → wpList P ops Q rest (a.put o.dst v') w') : wpList P ops Q (o :: rest) a w := by
  obtain ⟨v', w', hrun, h1, h2⟩ := run_append_buf (P := P) w base t o.type e i0 hT hI.out.1 hI.out.2.1 hI.out.2.2.1 hI.out.2.2.2 v zs hown b m c ys hy hl h47 hbase
  refine wpList_plain hgd fun K' hK => ?_
  unfold Oper.wp
  simp [execOp, ho, resolve, invoke, builtin, hs, hx, hrun, Result.andThen]
  exact hK _ _ (K _ _ h1 h2)

end Go.Proofs.YtmbimnnacjbdfaaGreatDoor
/-
  Walks of the reference's Format.
-/
namespace Go.Proofs.YtmbimnnacjbdfaaGreatDoor.Cst
open Go.RowKit

theorem bt_nums (s : ByteArray) (j : Nat) (h : j < s.size) : (numsOf s)[j]? = some (s[j].toNat : Int) := by
  rw [numsOf_eq, List.getElem?_map, Array.getElem?_toList]
  have : s.data[j]? = some s[j] := Array.getElem?_eq_getElem h
  rw [this]; rfl

set_option maxHeartbeats 1000000 in
theorem rfmt_width (s : ByteArray) (wd : Int) (w : World) (h : wd < 1 ∨ 256 < wd) :
    Calls Tryz.prog 97 #[.string s, .int .i64 wd] w fun e w' => e = .returned (.tuple #[.slice none 0 0, .int .i64 2]) ∧ w = w' := by
  by_cases h1 : wd < 1
  · clear h
    go_enter Tryz.func97, Tryz.ntmps97
    go_wp2
    go_ret2
    exact ⟨rfl, rfl⟩
  · have h2 : 256 < wd := by omega
    clear h
    go_enter Tryz.func97, Tryz.ntmps97
    go_wp2
    go_ret2
    exact ⟨rfl, rfl⟩

set_option maxHeartbeats 1000000 in
theorem rfmt_nul (s : ByteArray) (wd : Int) (w : World) (h1 : 1 ≤ wd) (h2 : wd ≤ 256) (hs : s.size ≤ maxLen) (hz : (0 : Int) ∈ numsOf s) :
    Calls Tryz.prog 97 #[.string s, .int .i64 wd] w fun e w' => e = .returned (.tuple #[.slice none 0 0, .int .i64 6]) ∧ w = w' := by
  unfold maxLen at hs
  have HZ := Lib.hid hz; clear hz
  go_enter Tryz.func97, Tryz.ntmps97
  go_wp2
  go_loop [6] (fun i => ∃ j : Nat, j ≤ s.size ∧ i = .int .i64 j ∧ (0 : Int) ∉ (numsOf s).take j) (fun i => s.size + 1 - (intOf i).toNat)
  case atStart => exact ⟨0, Nat.zero_le _, rfl, by simp⟩
  case round =>
    obtain ⟨j, hj, rfl, hoj⟩ := hrel
    have HJ := Lib.hid hoj; clear hoj
    by_cases hlt : j < s.size
    · have HB := Lib.hid (bt_nums s j hlt)
      by_cases hb : ((s[j].toNat : Int) == 0) = true
      · go_wp2
        go_ret2
        exact ⟨rfl, rfl⟩
      · have hb' : ((s[j].toNat : Int) == 0) = false := by simpa using hb
        clear hb
        have HN : Hid ((0 : Int) ∉ (numsOf s).take (j + 1)) := by
          show (0 : Int) ∉ _
          rw [take_snoc' (by rw [numsOf_length]; exact hlt), List.getD_eq_getElem?_getD, HB.out]
          intro h
          rcases List.mem_append.1 h with h | h
          · exact HJ.out h
          · have e : (0 : Int) = (s[j].toNat : Int) := by simpa using h
            rw [← e] at hb'; simp at hb'
        go_wp2
        go_round
        case rel => exact ⟨j + 1, by omega, by go_num, HN.out⟩
        case measure => simp [intOf]; omega
    · exfalso
      have := HJ.out
      rw [List.take_of_length_le (by rw [numsOf_length]; omega)] at this
      exact this HZ.out

theorem nul_ne (s : ByteArray) (hz : (0 : Int) ∉ numsOf s) : ∀ j (h : j < s.size), ((s[j].toNat : Int) == 0) = false := by
  intro j h
  have hb := bt_nums s j h
  by_cases hc : (s[j].toNat : Int) = 0
  · exfalso; apply hz; rw [hc] at hb; exact List.mem_of_getElem? hb
  · simpa using hc

set_option maxHeartbeats 1000000 in
theorem rfmt_long (s : ByteArray) (k : Int) (w : World) (h1 : 1 ≤ k) (h2 : k ≤ 256) (hs : s.size ≤ maxLen) (hz : (0 : Int) ∉ numsOf s) (hk : k < s.size) :
    Calls Tryz.prog 97 #[.string s, .int .i64 k] w fun e w' => e = .returned (.tuple #[.slice none 0 0, .int .i64 7]) ∧ w = w' := by
  unfold maxLen at hs
  have HNE := Lib.hid (nul_ne s hz); clear hz
  go_enter Tryz.func97, Tryz.ntmps97
  go_wp2
  go_loop [6] (fun i => ∃ j : Nat, j ≤ s.size ∧ i = .int .i64 j) (fun i => s.size + 1 - (intOf i).toNat)
  case atStart => exact ⟨0, Nat.zero_le _, rfl⟩
  case round =>
    obtain ⟨j, hj, rfl⟩ := hrel
    by_cases hlt : j < s.size
    · have hb' := HNE.out j hlt
      go_wp2
      go_round
      case rel => exact ⟨j + 1, by omega, by go_num⟩
      case measure => simp [intOf]; omega
    · obtain rfl : j = s.size := by omega
      go_wp2
      go_ret2
      exact ⟨rfl, rfl⟩

set_option maxRecDepth 100000 in
set_option maxHeartbeats 1000000 in
theorem rfmt_ok (s : ByteArray) (k : Nat) (w : World) (h1 : (1 : Int) ≤ k) (h2 : (k : Int) ≤ 256) (hz : (0 : Int) ∉ numsOf s) (hk : s.size ≤ k) :
    Calls Tryz.prog 97 #[.string s, .int .i64 k] w (RetBytes (fldS (numsOf s) k) k 0 w) := by
  have HNE := Lib.hid (nul_ne s hz); clear hz
  obtain ⟨i0, HI⟩ := info_u8 Tryz.info5
  obtain ⟨v0, w2, hrun, hbuf, hb2⟩ := run_bytes_buf (P := Tryz.prog) w Tryz.underlying9 Tryz.underlying25 Tryz.underlying5 s (by unfold maxLen; omega)
  have HB := Lib.hid hbuf; clear hbuf
  have HS := Lib.hid (numsOf_length s)
  go_enter Tryz.func97, Tryz.ntmps97
  go_wp2
  go_loop [6] (fun i => ∃ j : Nat, j ≤ s.size ∧ i = .int .i64 j) (fun i => s.size + 1 - (intOf i).toNat)
  case atStart => exact ⟨0, Nat.zero_le _, rfl⟩
  case round =>
    obtain ⟨j, hj, rfl⟩ := hrel
    by_cases hlt : j < s.size
    · have hb' := HNE.out j hlt
      go_wp2
      go_round
      case rel => exact ⟨j + 1, by omega, by go_num⟩
      case measure => simp [intOf]; omega
    · obtain rfl : j = s.size := by omega
      have hk' : ¬ (k : Int) < s.size := by omega
      go_wp2
      go_loopw [7] (fun v wr => ∃ j : Nat, s.size + j ≤ k ∧ Buf wr w.heap.size v (numsOf s ++ List.replicate j 0) ∧ Below w.heap.size w wr ∧ ∃ b cap, v = .slice (some ⟨b, 0, none⟩) (s.size + j) cap) (fun v _ => match v with | .slice _ n _ => k + 1 - n | _ => 0)
      case atStart =>
        refine ⟨0, hk, by simpa using HB.out, hb2, ?_⟩
        obtain ⟨b, cap, e, _⟩ := HB.out
        rw [HS.out] at e
        exact ⟨b, cap, e⟩
      case round =>
        obtain ⟨j, hj, hbuf, hbel, b, cap, rfl⟩ := hrel
        have HBU := Lib.hid hbuf; clear hbuf
        by_cases hlt : s.size + j < k
        · have hlt' : ((s.size + j : Nat) : Int) < k := by omega
          have hb3 := HBU.out.alloc (.cells #[.int .u8 0] 5)
          have h1b := BytesIn.new_one wr 0 5 (by omega) (by omega)
          go_wp2_with (first | (at_builtin; refine wpList_append_buf rfl _ _ 25 rfl w.heap.size 5 i0 Tryz.underlying25 HI _ _ rfl hb3 _ 1 1 [0] rfl h1b rfl (by simp [HS.out]; omega) (Nat.le_trans hbel.size (by simp)) ?_; intro v' w3 hbuf3 hbel3))
          go_roundw
          case rel =>
            refine ⟨j + 1, by omega, ?_, (hbel.alloc hbel.size _).trans hbel3, ?_⟩
            · rw [List.append_assoc, ← List.replicate_succ'] at hbuf3; exact hbuf3
            · obtain ⟨b, cap, e, _⟩ := hbuf3
              rw [e]
              exact ⟨b, cap, by simp [HS.out]⟩
          case measure =>
            obtain ⟨b, cap, e, _⟩ := hbuf3
            rw [e]; simp [HS.out]; omega
        · have hlt' : ¬ ((s.size + j : Nat) : Int) < k := by omega
          go_wp2
          go_ret2
          obtain rfl : s.size + j = k := by omega
          obtain ⟨b', cap', e, hrow, hlt3⟩ := HBU.out.bytes
          simp only [Value.slice.injEq, Option.some.injEq, Addr.mk.injEq, and_true] at e
          obtain ⟨rfl, _⟩ := e
          refine ⟨_, _, rfl, ?_, hlt3, hbel⟩
          unfold fldS
          rw [HS.out, Nat.add_sub_cancel_left]
          exact hrow
end Go.Proofs.YtmbimnnacjbdfaaGreatDoor.Cst
/-
  Walks of the small functions of layer 1: validWidth, Max.
-/
namespace Go.Proofs.YtmbimnnacjbdfaaGreatDoor.Oct
open Go.RowKit

def vwB (n : Int) : Bool := decide (2 ≤ n ∧ n ≤ 22)

theorem ret_int {k : IntKind} {a b : Int} (h : a = b) : Ending.returned (.int k a) = .returned (.int k b) := by rw [h]
theorem ret_bool {a b : Bool} (h : a = b) : Ending.returned (.bool a) = .returned (.bool b) := by rw [h]

set_option maxHeartbeats 400000 in
theorem valid_any (n : Int) (w : World) :
    Calls Tryz.prog 135 #[.int .i64 n] w fun e w' => e = .returned (.bool (vwB n)) ∧ w = w' := by
  by_cases h1 : 2 ≤ n
  · by_cases h2 : n ≤ 22
    · have h : vwB n = true := by unfold vwB; simp [h1, h2]
      rw [h]; clear h
      go_enter Tryz.func135, Tryz.ntmps135
      go_wp2
      go_ret
      exact ⟨rfl, rfl⟩
    · have h : vwB n = false := by unfold vwB; simp [h2]
      rw [h]; clear h
      go_enter Tryz.func135, Tryz.ntmps135
      go_wp2
      go_ret
      exact ⟨rfl, rfl⟩
  · have h : vwB n = false := by unfold vwB; simp [h1]
    rw [h]; clear h
    go_enter Tryz.func135, Tryz.ntmps135
    go_wp2
    go_ret
    exact ⟨rfl, rfl⟩


theorem vwB_true {n : Int} (h1 : 2 ≤ n) (h2 : n ≤ 22) : vwB n = true := by unfold vwB; simp [h1, h2]
theorem vwB_false {n : Int} (h : n < 2 ∨ 22 < n) : vwB n = false := by unfold vwB; simp; omega

set_option maxHeartbeats 400000 in
theorem max_bad (n : Int) (w : World) (h : n < 2 ∨ 22 < n) :
    Calls Tryz.prog 137 #[.int .i64 n] w fun e w' => e = .returned (.int .i64 0) ∧ w = w' := by
  have hv := vwB_false h
  clear h
  go_enter Tryz.func137, Tryz.ntmps137
  go_wp2_with (go_at_call 135; refine (valid_any _ _).mono ?_; rintro e w' ⟨rfl, rfl⟩)
  go_ret
  exact ⟨rfl, rfl⟩

set_option maxHeartbeats 400000 in
theorem max_ok (n : Int) (k : Nat) (w : World) (h1 : 1 ≤ k) (h2 : k ≤ 21) (hn : n = (k : Int) + 1) :
    Calls Tryz.prog 137 #[.int .i64 n] w fun e w' => e = .returned (.int .i64 (mx k)) ∧ w = w' := by
  have hv := vwB_true (n := n) (by omega) (by omega)
  have HN := Lib.hid hn; clear hn
  have HV := HN.out
  have h3 : 2 ≤ n := by omega
  have h4 : n ≤ 22 := by omega
  clear HV
  go_enter Tryz.func137, Tryz.ntmps137
  go_wp2_with (go_at_call 135; refine (valid_any _ _).mono ?_; rintro e w' ⟨rfl, rfl⟩)
  go_loop [3, 9] (fun t i => ∃ j : Nat, j ≤ k ∧ i = .int .i64 j ∧ t = .int .i64 (mx j)) (fun _ i => k - (intOf i).toNat)
  case atStart => exact ⟨0, Nat.zero_le _, rfl, rfl⟩
  case round =>
    obtain ⟨j, hj, rfl, rfl⟩ := hrel
    have b0 := mx_nonneg j
    by_cases hlt : j < k
    · have b1 := mx_small (k := j) (by omega)
      have HS := Lib.hid (mx_succ j)
      have hlt' : (j : Int) < n - 1 := by rw [HN.out]; omega
      go_wp2
      go_round
      case rel => exact ⟨j + 1, by omega, by go_num, by rw [HS.out]⟩
      case measure => simp [intOf]; omega
    · have hlt' : ¬ (j : Int) < n - 1 := by rw [HN.out]; omega
      obtain rfl : j = k := by omega
      go_wp2
      go_ret
      exact ⟨rfl, rfl⟩
end Go.Proofs.YtmbimnnacjbdfaaGreatDoor.Oct
/-
  Walks of octal.Format.
-/
namespace Go.Proofs.YtmbimnnacjbdfaaGreatDoor.Oct
open Go.RowKit

theorem made_u8 (m : Nat) : (madeCells (Value.int .u8 0).cells (m * 1)).toList = (List.replicate m (0 : Int)).map (.int .u8) := by
  apply List.ext_getElem?
  intro i
  by_cases h : i < m <;> simp [madeCells, Value.cells, h, Nat.mod_one]

theorem Tryz.info5 : (Tryz.prog.info? 5).map (fun i => (i.zero, i.size, i.bytes)) = some (some (.int .u8 0), 1, 1) := by kernel_rfl

set_option maxHeartbeats 400000 in
theorem fmt_bad (n wd : Int) (w : World) (h : wd < 2 ∨ 22 < wd) :
    Calls Tryz.prog 115 #[.int .i64 n, .int .i64 wd] w fun e w' => e = .returned (.tuple #[.slice none 0 0, .int .i64 2]) ∧ w = w' := by
  have hv := vwB_false h
  clear h
  go_enter Tryz.func115, Tryz.ntmps115
  go_wp2_with (go_at_call 135; refine (valid_any _ _).mono ?_; rintro e w' ⟨rfl, rfl⟩)
  go_ret2
  exact ⟨rfl, rfl⟩

set_option maxHeartbeats 400000 in
theorem fmt_range (n wd : Int) (k : Nat) (w : World) (h1 : 1 ≤ k) (h2 : k ≤ 21) (hn : wd = (k : Int) + 1) (h : n < 0 ∨ mx k < n) :
    Calls Tryz.prog 115 #[.int .i64 n, .int .i64 wd] w fun e w' => e = .returned (.tuple #[.slice none 0 0, .int .i64 3]) ∧ w = w' := by
  have hv := vwB_true (n := wd) (by omega) (by omega)
  have HN := Lib.hid hn; clear hn
  by_cases h0 : n < 0
  · clear h
    go_enter Tryz.func115, Tryz.ntmps115
    go_wp2_with (first | (go_at_call 135; refine (valid_any _ _).mono ?_; rintro e w' ⟨rfl, rfl⟩) | (go_at_call 137; refine (max_ok _ k _ h1 h2 HN.out).mono ?_; rintro e w' ⟨rfl, rfl⟩))
    go_ret2
    exact ⟨rfl, rfl⟩
  · have h' : mx k < n := by omega
    clear h
    go_enter Tryz.func115, Tryz.ntmps115
    go_wp2_with (first | (go_at_call 135; refine (valid_any _ _).mono ?_; rintro e w' ⟨rfl, rfl⟩) | (go_at_call 137; refine (max_ok _ k _ h1 h2 HN.out).mono ?_; rintro e w' ⟨rfl, rfl⟩))
    go_ret2
    exact ⟨rfl, rfl⟩

set_option maxHeartbeats 400000 in
theorem fmt_ok (n wd : Int) (k : Nat) (w : World) (h1 : 1 ≤ k) (h2 : k ≤ 21) (hn : wd = (k : Int) + 1) (h0 : 0 ≤ n) (hm : n ≤ mx k) :
    Calls Tryz.prog 115 #[.int .i64 n, .int .i64 wd] w fun e w' => e = .returned (.tuple #[.slice (some ⟨w.heap.size, 0, none⟩) (k + 1) (k + 1), .int .i64 0]) ∧
      w'.ownsRow w.heap.size 5 1 (.slice (some ⟨w.heap.size, 0, none⟩) (k + 1) (k + 1)) (k + 1) ((fld k n).map (.int .u8)) ∧ Below w.heap.size w w' := by
  have hv := vwB_true (n := wd) (by omega) (by omega)
  have h3 : 2 ≤ wd := by omega
  have h4 : wd ≤ 22 := by omega
  have hm' : ¬ mx k < n := by omega
  have h5 := mx_le h2
  have HN := Lib.hid hn; clear hn
  have HM := Lib.hid hm; clear hm
  obtain ⟨i0, hi, hz0, hz1, hz2⟩ := info_parts Tryz.info5
  have HZ := Lib.hid (And.intro hi (And.intro hz0 (And.intro hz1 hz2)))
  clear hi hz0 hz1 hz2
  go_enter Tryz.func115, Tryz.ntmps115
  go_wp2_with (first | (go_at_call 135; refine (valid_any _ _).mono ?_; rintro e w' ⟨rfl, rfl⟩) | (go_at_call 137; refine (max_ok _ k _ h1 h2 HN.out).mono ?_; rintro e w' ⟨rfl, rfl⟩) | (at_make; refine wpList_make_full _ rfl _ _ 25 rfl w.heap.size 5 i0 (.int .u8 0) 1 Tryz.underlying25 HZ.out.1 HZ.out.2.1 HZ.out.2.2.1 .i64 .i64 _ _ (k + 1) rfl rfl (by rw [HN.out]; rfl) (by rw [HN.out]; rfl) (by rw [HZ.out.2.2.2]; omega) (by unfold maxLen; omega) (Nat.le_refl _) ?_; intro w1 hown1 hgrow1))
  have hown2 : w1.ownsRow w.heap.size 5 1 (.slice (some ⟨w.heap.size, 0, none⟩) (k + 1) (k + 1)) (k + 1) ((part k 0 n).map (.int .u8)) := by
    rw [part_zero]
    have e : (madeCells (Value.int .u8 0).cells ((k + 1) * 1)).toList = (List.replicate (k + 1) (0 : Int)).map (.int .u8) := made_u8 _
    rw [← e]; exact hown1
  have hb : Below w.heap.size w w1 := (Below.refl _ _).grown hgrow1 (Nat.le_refl _) (fun _ h => by cases h)
  clear hown1 hgrow1
  go_loopw [0, 26] (fun t i wr => ∃ j : Nat, j ≤ k ∧ i = .int .i64 j ∧ t = .int .i64 (sh n j) ∧ wr.ownsRow w.heap.size 5 1 (.slice (some ⟨w.heap.size, 0, none⟩) (k + 1) (k + 1)) (k + 1) ((part k j n).map (.int .u8)) ∧ Below w.heap.size w wr) (fun _ i _ => k - (intOf i).toNat)
  case atStart => exact ⟨0, Nat.zero_le _, rfl, by rw [sh_zero], hown2, hb⟩
  case round =>
    obtain ⟨j, hj, rfl, rfl, hown, hbel⟩ := hrel
    have b0 := sh_nonneg h0 j
    have b1 := sh_le h0 j
    have b2 : sh n j ≤ 9223372036854775807 := by have := HM.out; omega
    by_cases hlt : j < k
    · have hlt' : (j : Int) < wd - 1 := by rw [HN.out]; omega
      have hix : 0 ≤ wd - 2 - (j : Int) := by rw [HN.out]; omega
      have hix2 : wd - 2 - (j : Int) < ((k + 1 : Nat) : Int) := by rw [HN.out]; omega
      have HI : Hid ((wd - 2).toNat - j = k - 1 - j) := by show _ = _; rw [HN.out]; omega
      have hc : wr.cell? ⟨w.heap.size, (wd - 2).toNat - j, none⟩ = some (.int .u8 0) := by
        rw [HI.out, hown.cellAt _ (by omega), List.getElem?_map, part_at n hlt]; rfl
      have hf := hown.frozenAt ((wd - 2).toNat - j)
      have R := (hown.stored ((wd - 2).toNat - j) (.int .u8 (48 + sh n j % 8))).1
      rw [HI.out, ← List.map_set, part_step n hlt] at R
      have HR := Lib.hid R
      have HS := Lib.hid (sh_succ n j)
      clear R hown hown2
      go_wp2
      go_roundw
      case rel => exact ⟨j + 1, by omega, by go_num, by rw [HS.out], by rw [HI.out]; exact HR.out, hbel.setCell (Nat.le_refl _) _⟩
      case measure => simp [intOf]; omega
    · have hlt' : ¬ (j : Int) < wd - 1 := by rw [HN.out]; omega
      obtain rfl : j = k := by omega
      clear hown2
      go_wp2
      go_ret2
      exact ⟨rfl, by rw [← part_full]; exact hown, hbel⟩
end Go.Proofs.YtmbimnnacjbdfaaGreatDoor.Oct
/-
  Walks of the reference of layer 1: Max, Format.
-/
namespace Go.Proofs.YtmbimnnacjbdfaaGreatDoor.Oct
open Go.RowKit

set_option maxHeartbeats 400000 in
theorem rmax_bad (n : Int) (w : World) (h : n < 2 ∨ 22 < n) :
    Calls Tryz.prog 119 #[.int .i64 n] w fun e w' => e = .returned (.int .i64 0) ∧ w = w' := by
  by_cases h1 : n < 2
  · clear h
    go_enter Tryz.func119, Tryz.ntmps119
    go_wp2
    go_ret
    exact ⟨rfl, rfl⟩
  · have h2 : 22 < n := by omega
    clear h
    go_enter Tryz.func119, Tryz.ntmps119
    go_wp2
    go_ret
    exact ⟨rfl, rfl⟩

set_option maxHeartbeats 400000 in
theorem rmax_ok (n : Int) (k : Nat) (w : World) (h1 : 1 ≤ k) (h2 : k ≤ 21) (hn : n = (k : Int) + 1) :
    Calls Tryz.prog 119 #[.int .i64 n] w fun e w' => e = .returned (.int .i64 (mx k)) ∧ w = w' := by
  have HN := Lib.hid hn
  have h3 : ¬ n < 2 := by omega
  have h4 : ¬ 22 < n := by omega
  clear hn
  go_enter Tryz.func119, Tryz.ntmps119
  go_wp2
  go_loop [3, 4] (fun t i => ∃ j : Nat, j ≤ k ∧ i = .int .i64 ((j : Int) + 1) ∧ t = .int .i64 (mx j)) (fun _ i => k + 1 - (intOf i).toNat)
  case atStart => exact ⟨0, Nat.zero_le _, rfl, rfl⟩
  case round =>
    obtain ⟨j, hj, rfl, rfl⟩ := hrel
    have b0 := mx_nonneg j
    by_cases hlt : j < k
    · have b1 := mx_small (k := j) (by omega)
      have HS : Hid (mx (j + 1) = 8 * mx j + 7) := by show _ = _; rw [mx_succ]; omega
      have hlt' : (j : Int) + 1 < n := by rw [HN.out]; omega
      go_wp2
      go_round
      case rel => exact ⟨j + 1, by omega, by go_num, by rw [HS.out]⟩
      case measure => simp [intOf]; omega
    · have hlt' : ¬ (j : Int) + 1 < n := by rw [HN.out]; omega
      obtain rfl : j = k := by omega
      go_wp2
      go_ret
      exact ⟨rfl, rfl⟩

set_option maxHeartbeats 400000 in
theorem rfmt_bad (n wd : Int) (w : World) (h : wd < 2 ∨ 22 < wd) :
    Calls Tryz.prog 98 #[.int .i64 n, .int .i64 wd] w fun e w' => e = .returned (.tuple #[.slice none 0 0, .int .i64 2]) ∧ w = w' := by
  by_cases h1 : wd < 2
  · clear h
    go_enter Tryz.func98, Tryz.ntmps98
    go_wp2
    go_ret2
    exact ⟨rfl, rfl⟩
  · have h2 : 22 < wd := by omega
    clear h
    go_enter Tryz.func98, Tryz.ntmps98
    go_wp2
    go_ret2
    exact ⟨rfl, rfl⟩

set_option maxHeartbeats 400000 in
theorem rfmt_range (n wd : Int) (k : Nat) (w : World) (h1 : 1 ≤ k) (h2 : k ≤ 21) (hn : wd = (k : Int) + 1) (h : n < 0 ∨ mx k < n) :
    Calls Tryz.prog 98 #[.int .i64 n, .int .i64 wd] w fun e w' => e = .returned (.tuple #[.slice none 0 0, .int .i64 3]) ∧ w = w' := by
  have HN := Lib.hid hn
  have h3 : ¬ wd < 2 := by omega
  have h4 : ¬ 22 < wd := by omega
  clear hn
  by_cases h0 : n < 0
  · clear h
    go_enter Tryz.func98, Tryz.ntmps98
    go_wp2_with (go_at_call 119; refine (rmax_ok _ k _ h1 h2 HN.out).mono ?_; rintro e w' ⟨rfl, rfl⟩)
    go_ret2
    exact ⟨rfl, rfl⟩
  · have h' : mx k < n := by omega
    clear h
    go_enter Tryz.func98, Tryz.ntmps98
    go_wp2_with (go_at_call 119; refine (rmax_ok _ k _ h1 h2 HN.out).mono ?_; rintro e w' ⟨rfl, rfl⟩)
    go_ret2
    exact ⟨rfl, rfl⟩

theorem strOfNums_one (d : Int) (l : List Int) : strOfNums [d] ++ strOfNums l = strOfNums (d :: l) := by
  apply ByteArray.ext
  rw [ByteArray.data_append]
  simp [strOfNums]

set_option maxHeartbeats 400000 in
theorem rfmt_ok (n wd : Int) (k : Nat) (w : World) (h1 : 1 ≤ k) (h2 : k ≤ 21) (hn : wd = (k : Int) + 1) (h0 : 0 ≤ n) (hm : n ≤ mx k) :
    Calls Tryz.prog 98 #[.int .i64 n, .int .i64 wd] w (RetBytes (fld k n) (k + 1) 0 w) := by
  have h3 : ¬ wd < 2 := by omega
  have h4 : ¬ 22 < wd := by omega
  have hm' : ¬ mx k < n := by omega
  have h5 := mx_le h2
  have HN := Lib.hid hn; clear hn
  have HM := Lib.hid hm; clear hm
  go_enter Tryz.func98, Tryz.ntmps98
  go_wp2_with (go_at_call 119; refine (rmax_ok _ k _ h1 h2 HN.out).mono ?_; rintro e w' ⟨rfl, rfl⟩)
  go_loopw [0, 6, 7] (fun t s i wr => ∃ j : Nat, j ≤ k ∧ i = .int .i64 ((j : Int) + 1) ∧ t = .int .i64 (sh n j) ∧ s = .string (strOfNums (oct j n ++ [0])) ∧ Below w.heap.size w wr) (fun _ _ i _ => k + 1 - (intOf i).toNat)
  case atStart => exact ⟨0, Nat.zero_le _, rfl, by rw [sh_zero], rfl, Below.refl _ _⟩
  case round =>
    obtain ⟨j, hj, rfl, rfl, rfl, hbel⟩ := hrel
    have b0 := sh_nonneg h0 j
    have b1 := sh_le h0 j
    have b2 : sh n j ≤ 9223372036854775807 := by have := HM.out; omega
    by_cases hlt : j < k
    · have hlt' : (j : Int) + 1 < wd := by rw [HN.out]; omega
      obtain ⟨s, HS⟩ := named (strOfNums (oct j n ++ [0]))
      rw [← HS.out]
      have hs : s.size ≤ 100 := by rw [HS.out, strOfNums_size]; simp [oct_length]; omega
      have HP := Lib.hid (sh_succ n j)
      have hc := run_str_of (P := Tryz.prog) (w := wr.alloc (.cells #[.int .u8 (48 + sh n j % 8)] 5)) Tryz.underlying25 Tryz.underlying5 Tryz.underlying9 (b := wr.heap.size) (off := 0) (zs := [48 + sh n j % 8])
        ⟨fun i hi => by obtain rfl : i = 0 := by simpa using hi
                        rw [World.cell?_alloc_at _ _ _ _ rfl]; rfl, fun z hz => by obtain rfl : z = _ := by simpa using hz
                                                                                   omega⟩ 1 1 rfl
      obtain ⟨u, HU⟩ := named (strOfNums [48 + sh n j % 8])
      rw [← HU.out] at hc
      have hu : u.size = 1 := by rw [HU.out]; rfl
      have HA : Hid (u ++ s = strOfNums (oct (j + 1) n ++ [0])) := by show _ = _; rw [HU.out, HS.out, strOfNums_one]; rfl
      go_wp2
      go_roundw
      case rel => exact ⟨j + 1, by omega, by go_num, by rw [HP.out], by rw [HA.out], hbel.alloc hbel.size _⟩
      case measure => simp [intOf]; omega
    · have hlt' : ¬ (j : Int) + 1 < wd := by rw [HN.out]; omega
      obtain rfl : j = k := by omega
      obtain ⟨c, w2, hrun, hrow, hb2, hsz⟩ := run_bytes_of (P := Tryz.prog) wr Tryz.underlying9 Tryz.underlying25 Tryz.underlying5 (strOfNums (oct j n ++ [0]))
      have hs : (strOfNums (oct j n ++ [0])).size = j + 1 := by rw [strOfNums_size]; simp [oct_length]
      rw [hs] at hrun
      have HR : Hid (RowAt w2 wr.heap.size 0 (fld j n)) := by
        show RowAt _ _ _ _; rw [show numsOf (strOfNums (oct j n ++ [0])) = fld j n from numsOf_strOfNums (fld_bd j n)] at hrow; exact hrow
      clear hs hrow
      go_wp2
      go_ret2
      exact ⟨_, _, rfl, HR.out, hsz, hbel.trans (hb2.mono hbel.size)⟩

end Go.Proofs.YtmbimnnacjbdfaaGreatDoor.Oct
